/- ToAddress of either side. -/
import Derived.Test.YtpadpmkfhljiiaaGreatMf6
import Derived.Lib.SlBuf
import Derived.Laws.IdiomCopy
import Derived.Laws.BytesString
import Derived.Laws.AppendOwnNone
import Derived.Test.YtpadpmkfhljiiaaGreatMf4
namespace Go.Proofs.YtpadpmkfhljiiaaGreat
open Go.RowKit
theorem new32 {ops : Array Oper} {rest : List Oper} {op1 op2 : Oper} {a : Act} {w : World} {Q : Exit → Act → World → Prop} (g : Nat → Int) (h1 : op1.guard = none) (o1 : op1.op = .alloc 45) (t : Tmp) (d1 : op1.dst = some t) (h2 : op2.guard = none) (y : Operand) (o2 : op2.op = .store 45 (.tmp t) y) (d2 : op2.dst = none)
    (hx : (a.put (some t) (.pointer (some ⟨w.heap.size, 0, none⟩))).eval (.tmp t) = .pointer (some ⟨w.heap.size, 0, none⟩)) (hy : (a.put (some t) (.pointer (some ⟨w.heap.size, 0, none⟩))).eval y = .agg (rowB 32 g).toArray)
    (h : ∀ W, NewB w W 32 g → wpList Tryz.prog ops Q rest (a.put (some t) (.pointer (some ⟨w.heap.size, 0, none⟩))) W) : wpList Tryz.prog ops Q (op1 :: op2 :: rest) a w := by
  refine alloc32 h1 o1 fun W hW => ?_
  rw [d1]
  refine store32 g w.heap.size h2 _ y o2 hx hy hW.row.there ?_
  rw [d2]
  refine h _ ⟨hW.row.of_range, below_setCellsB _ (Nat.le_refl _) _ _ _ hW.bel, ?_⟩
  rw [sz_setCells]; exact hW.siz
theorem RowB.set_others {b n c : Nat} {v : Nat → Int} (hc : c ≠ b) : ∀ (vs : List Value) (o : Nat) {w : World}, RowB w b n v → RowB (w.setCells c o vs) b n v
  | [], _, _, h => h
  | x :: r, o, w, h => by rw [World.setCells]; exact RowB.set_others hc r (o + 1) (h.set_other _ _ hc)
/-- the frame of both: the word's box, the answer's block, the local one -/
structure Ad (w : World) (r l : Nat) (a0 a1 a2 a3 : Int) (F : Nat → Int) (W : World) : Prop where
  bx : Bx w [(w.heap.size, a0, a1, a2, a3)] W
  rr : r = w.heap.size + 1
  ll : l = w.heap.size + 1 + 1
  res : RowB W r 20 (fun _ => 0)
  loc : RowB W l 20 F
theorem Ad.past {w W W' : World} {r l : Nat} {a0 a1 a2 a3 : Int} {F : Nat → Int} (h : Ad w r l a0 a1 a2 a3 F W) (k : Below W.heap.size W W') : Ad w r l a0 a1 a2 a3 F W' := ⟨h.bx.past k, h.rr, h.ll, h.res.past k, h.loc.past k⟩
/-- copy(a[:], b[12:]) -/
theorem copy_run (W : World) (l b : Nat) (f : Nat → Int) (hl : RowB W l 20 (fun _ => 0)) (hb : RowB W b 32 f) (ty : TypeId) :
    (Builtin.copy_ #[35, 35] ty #[.slice (some ⟨l, 0, none⟩) 20 20, .slice (some ⟨b, 12, none⟩) 20 20]).run Tryz.prog W = .ok (goInt 20) (W.setCells l 0 (rowB 20 (fun i => f (12 + i)))) := by
  have h := run_copy_cells (P := Tryz.prog) W 35 35 ty 5 l 0 20 20 ⟨b, 12, none⟩ 20 20 (rowB 20 (fun i => f (12 + i))) Tryz.underlying35 (by kernel_rfl) (by rw [rowB_len]; rfl)
    (fun j v hv => by
      have hj : j < 20 := by have := (List.getElem?_eq_some_iff.1 hv).1; rwa [rowB_len] at this
      rw [rowB_at 20 _ j hj] at hv
      rw [Addr.add_mid, (hb (12 + j) (by omega)).1, hv])
    (fun j hj => by rw [rowB_len] at hj; rw [Nat.zero_add, (hl j hj).1]; rfl) (fun j hj => by rw [rowB_len] at hj; rw [Nat.zero_add]; exact (hl j hj).2)
    (by intro x hx; simp only [rowB, List.mem_map] at hx; obtain ⟨i, _, rfl⟩ := hx; rfl)
  rw [rowB_len] at h
  exact h
set_option maxHeartbeats 2000000 in
set_option maxRecDepth 100000 in
theorem wtoAddress_no (a0 a1 a2 a3 : Int) (n : Nat) (SZ : ∀ W : World, Calls Tryz.prog 54 #[.agg #[.int .u64 a0, .int .u64 a1, .int .u64 a2, .int .u64 a3]] W fun e w' => e = .returned (.int .i64 (n : Int)) ∧ Below W.heap.size W w') (hn : 20 < n) (w : World) :
    Calls Tryz.prog 62 #[.agg #[.int .u64 a0, .int .u64 a1, .int .u64 a2, .int .u64 a3]] w fun e w' => e = .returned (.tuple #[.agg (rowB 20 (fun _ => 0)).toArray, .bool false]) ∧ Below w.heap.size w w' := by
  have HSZ : Hid _ := SZ
  have nI : (20 : Int) < (n : Int) := by omega
  have B0 : Hid (Bx w [(w.heap.size, a0, a1, a2, a3)] (w.alloc (.cells #[.int .u64 a0, .int .u64 a1, .int .u64 a2, .int .u64 a3] 24)) ∧ (w.alloc (.cells #[.int .u64 a0, .int .u64 a1, .int .u64 a2, .int .u64 a3] 24)).heap.size = w.heap.size + 1) := ⟨(Bx.start w).alloc a0 a1 a2 a3, by simp⟩
  clear SZ
  go_enter Tryz.func62, Tryz.ntmps62
  go_upto_region 1 with (refine alloc20 rfl rfl ?_; intro W1 hW1)
  generalize w.alloc (.cells #[.int .u64 a0, .int .u64 a1, .int .u64 a2, .int .u64 a3] 24) = V0 at *
  (try rw [B0.out.2])
  go_upto_region 2 with (refine alloc20 rfl rfl ?_; intro W2 hW2)
  have A0 : Hid (Ad w (w.heap.size + 1) (w.heap.size + 1 + 1) a0 a1 a2 a3 (fun _ => 0) W2) := by
    have h1 := hW1.row.past hW2.bel
    have h2 := hW2.row
    rw [B0.out.2] at h1
    rw [hW1.siz, B0.out.2] at h2
    exact ⟨(B0.out.1.past hW1.bel).past hW2.bel, rfl, rfl, h1, h2⟩
  have e1 : W1.heap.size = w.heap.size + 1 + 1 := by rw [hW1.siz, B0.out.2]
  (try rw [e1])
  clear hW1 hW2 B0 e1
  obtain ⟨c0, c1, c2, c3, _⟩ := A0.out.bx.f0 mm0
  go_upto_region 3 with (go_at_call 54; refine (HSZ.out _).mono ?_; rintro e v1 ⟨rfl, hB⟩; (have A1 : Hid (Ad w (w.heap.size + 1) (w.heap.size + 1 + 1) a0 a1 a2 a3 (fun _ => 0) v1) := A0.out.past hB); clear hB c0 c1 c2 c3 A0)
  go_wp2_with (first
    | (refine load20 (fun _ => 0) (w.heap.size + 1 + 1) rfl _ rfl rfl A1.out.loc.range ?_)
    | (refine store20 (fun _ => 0) (w.heap.size + 1) rfl _ _ rfl rfl rfl A1.out.res.there ?_))
  refine bodyPost_ret (v := .tuple #[.agg (rowB 20 (fun _ => 0)).toArray, .bool false]) ?_ rfl ⟨rfl, below_setCellsB _ (by omega) _ _ _ A1.out.bx.bel⟩
  exact results_ct Tryz.results62 _ _ _ ⟨w.heap.size + 1, 0, none⟩ rfl rfl (loadVar20 A1.out.res.of_range.range)
set_option maxHeartbeats 2000000 in
set_option maxRecDepth 100000 in
theorem wtoAddress_yes (a0 a1 a2 a3 : Int) (n : Nat) (f : Nat → Int) (SZ : ∀ W : World, Calls Tryz.prog 54 #[.agg #[.int .u64 a0, .int .u64 a1, .int .u64 a2, .int .u64 a3]] W fun e w' => e = .returned (.int .i64 (n : Int)) ∧ Below W.heap.size W w') (BY : ∀ W : World, Calls Tryz.prog 64 #[.agg #[.int .u64 a0, .int .u64 a1, .int .u64 a2, .int .u64 a3]] W fun e w' => e = .returned (.agg (rowB 32 f).toArray) ∧ Below W.heap.size W w') (hn : n ≤ 20) (w : World) :
    Calls Tryz.prog 62 #[.agg #[.int .u64 a0, .int .u64 a1, .int .u64 a2, .int .u64 a3]] w fun e w' => e = .returned (.tuple #[.agg (rowB 20 (fun i => f (12 + i))).toArray, .bool true]) ∧ Below w.heap.size w w' := by
  have HSZ : Hid _ := SZ
  have HBY : Hid _ := BY
  have nI : ¬ (20 : Int) < (n : Int) := by omega
  have B0 : Hid (Bx w [(w.heap.size, a0, a1, a2, a3)] (w.alloc (.cells #[.int .u64 a0, .int .u64 a1, .int .u64 a2, .int .u64 a3] 24)) ∧ (w.alloc (.cells #[.int .u64 a0, .int .u64 a1, .int .u64 a2, .int .u64 a3] 24)).heap.size = w.heap.size + 1) := ⟨(Bx.start w).alloc a0 a1 a2 a3, by simp⟩
  clear SZ BY
  go_enter Tryz.func62, Tryz.ntmps62
  go_upto_region 1 with (refine alloc20 rfl rfl ?_; intro W1 hW1)
  generalize w.alloc (.cells #[.int .u64 a0, .int .u64 a1, .int .u64 a2, .int .u64 a3] 24) = V0 at *
  (try rw [B0.out.2])
  go_upto_region 2 with (refine alloc20 rfl rfl ?_; intro W2 hW2)
  have A0 : Hid (Ad w (w.heap.size + 1) (w.heap.size + 1 + 1) a0 a1 a2 a3 (fun _ => 0) W2) := by
    have h1 := hW1.row.past hW2.bel
    have h2 := hW2.row
    rw [B0.out.2] at h1
    rw [hW1.siz, B0.out.2] at h2
    exact ⟨(B0.out.1.past hW1.bel).past hW2.bel, rfl, rfl, h1, h2⟩
  have e1 : W1.heap.size = w.heap.size + 1 + 1 := by rw [hW1.siz, B0.out.2]
  (try rw [e1])
  clear hW1 hW2 B0 e1
  obtain ⟨c0, c1, c2, c3, _⟩ := A0.out.bx.f0 mm0
  go_upto_region 4 with (go_at_call 54; refine (HSZ.out _).mono ?_; rintro e v1 ⟨rfl, hB⟩; (have A1 : Hid (Ad w (w.heap.size + 1) (w.heap.size + 1 + 1) a0 a1 a2 a3 (fun _ => 0) v1) := A0.out.past hB); clear hB c0 c1 c2 c3 A0)
  obtain ⟨c0, c1, c2, c3, _⟩ := A1.out.bx.f0 mm0
  go_upto_region 5 with (first
    | (go_at_call 64; refine (HBY.out _).mono ?_; rintro e v2 ⟨rfl, hB⟩; (have A2 : Hid (Ad w (w.heap.size + 1) (w.heap.size + 1 + 1) a0 a1 a2 a3 (fun _ => 0) v2) := A1.out.past hB); clear hB c0 c1 c2 c3 A1)
    | (refine new32 f rfl rfl _ rfl rfl _ rfl rfl rfl rfl ?_; intro W3 hW3))
  obtain ⟨b, eb⟩ : ∃ b, v2.heap.size = b := ⟨_, rfl⟩
  have A3 : Hid (Ad w (w.heap.size + 1) (w.heap.size + 1 + 1) a0 a1 a2 a3 (fun _ => 0) W3 ∧ RowB W3 b 32 f) := ⟨A2.out.past hW3.bel, by rw [← eb]; exact hW3.row⟩
  rw [eb]
  clear hW3 A2 eb
  have s1 := slice_all20
  have s2 : ∀ W : World, Sem.run Tryz.prog (Instr.sliceAt 45 (.pointer (some ⟨b, 0, none⟩)) (some (.int .i64 12)) none none) W = .ok (.slice (some ⟨b, 12, none⟩) 20 20) W := fun W => slice_arr b 12 20 rfl W
  refine wp_region_held_drew (S := fun w' => True) (by kernel_rfl) trivial (fun _ => ?_)
  have A4 : Hid (Ad w (w.heap.size + 1) (w.heap.size + 1 + 1) a0 a1 a2 a3 (fun _ => 0) W3.drew ∧ RowB W3.drew b 32 f) := ⟨A3.out.1.past (Below.refl _ _).drew, A3.out.2.past (Below.refl _ _).drew⟩
  generalize W3.drew = g1 at A4 ⊢
  clear A3
  refine wpAnyH_take (i := 0) (v := .slice (some ⟨w.heap.size + 1 + 1, 0, none⟩) 20 20) op0 (by kernel_rfl) (by kernel_rfl) (by kernel_rfl) (fun _ _ _ h => h) (Or.inl ⟨by rfl, fun W hS => ?_⟩) trivial ?_
  · go_simp
  simp only [Act.put, List.setIfInBounds_toArray, List.set_cons_zero, List.set_cons_succ]
  refine wpAnyH_take (i := 1) (v := .slice (some ⟨b, 12, none⟩) 20 20) op1 (by kernel_rfl) (by kernel_rfl) (by kernel_rfl) (fun _ _ _ h => h) (Or.inl ⟨by rfl, fun W hS => ?_⟩) trivial ?_
  · go_simp
  simp only [Act.put, List.setIfInBounds_toArray, List.set_cons_zero, List.set_cons_succ]
  refine wpAnyH_ready (rs := [2]) (by kernel_rfl) (by simp) ?_
  refine AllReadyH.cons op2 (fun K hK => ?_) AllReadyH.nil
  rw [if_pos (by rfl)]
  refine Lib.wp_copy_run _ _ _ _ _ rfl _ _ rfl rfl (copy_run g1 _ b f A4.out.1.loc A4.out.2 _) ?_
  have R5 : Hid (RowB (g1.setCells (w.heap.size + 1 + 1) 0 (rowB 20 (fun i => f (12 + i)))) (w.heap.size + 1 + 1) 20 (fun i => f (12 + i)) ∧ RowB (g1.setCells (w.heap.size + 1 + 1) 0 (rowB 20 (fun i => f (12 + i)))) (w.heap.size + 1) 20 (fun _ => 0) ∧ Below w.heap.size w (g1.setCells (w.heap.size + 1 + 1) 0 (rowB 20 (fun i => f (12 + i))))) :=
    ⟨A4.out.1.loc.of_range, RowB.set_others (by omega) _ _ A4.out.1.res, below_setCellsB _ (by omega) _ _ _ A4.out.1.bx.bel⟩
  generalize g1.setCells (w.heap.size + 1 + 1) 0 (rowB 20 (fun i => f (12 + i))) = g2 at R5 ⊢
  refine hK.out _ _ trivial (fun _ => ?_)
  clear hK K A4 s1 s2
  simp only [Act.put, List.setIfInBounds_toArray, List.set_cons_zero, List.set_cons_succ]
  refine wpAnyH_done (by kernel_rfl) ?_ _
  go_wp2_with (first
    | (refine load20 (fun i => f (12 + i)) (w.heap.size + 1 + 1) rfl _ rfl rfl R5.out.1.range ?_)
    | (refine store20 (fun i => f (12 + i)) (w.heap.size + 1) rfl _ _ rfl rfl rfl R5.out.2.1.there ?_))
  refine bodyPost_ret (v := .tuple #[.agg (rowB 20 (fun i => f (12 + i))).toArray, .bool true]) ?_ rfl ⟨rfl, below_setCellsB _ (by omega) _ _ _ R5.out.2.2⟩
  exact results_ct Tryz.results62 _ _ _ ⟨w.heap.size + 1, 0, none⟩ rfl rfl (loadVar20 R5.out.2.1.of_range.range)
end Go.Proofs.YtpadpmkfhljiiaaGreat
/- The document's ToAddress; both. -/
namespace Go.Proofs.YtpadpmkfhljiiaaGreat
open Go.RowKit
set_option maxHeartbeats 2000000 in
set_option maxRecDepth 100000 in
theorem rtoAddress_no (a0 a1 a2 a3 : Int) (n : Nat) (SZ : ∀ W : World, Calls Tryz.prog 55 #[.agg #[.int .u64 a0, .int .u64 a1, .int .u64 a2, .int .u64 a3]] W fun e w' => e = .returned (.int .i64 (n : Int)) ∧ Below W.heap.size W w') (hn : 20 < n) (w : World) :
    Calls Tryz.prog 63 #[.agg #[.int .u64 a0, .int .u64 a1, .int .u64 a2, .int .u64 a3]] w fun e w' => e = .returned (.tuple #[.agg (rowB 20 (fun _ => 0)).toArray, .bool false]) ∧ Below w.heap.size w w' := by
  have HSZ : Hid _ := SZ
  have nI : (20 : Int) < (n : Int) := by omega
  have B0 : Hid (Bx w [(w.heap.size, a0, a1, a2, a3)] (w.alloc (.cells #[.int .u64 a0, .int .u64 a1, .int .u64 a2, .int .u64 a3] 24)) ∧ (w.alloc (.cells #[.int .u64 a0, .int .u64 a1, .int .u64 a2, .int .u64 a3] 24)).heap.size = w.heap.size + 1) := ⟨(Bx.start w).alloc a0 a1 a2 a3, by simp⟩
  clear SZ
  go_enter Tryz.func63, Tryz.ntmps63
  go_upto_region 1 with (refine alloc20 rfl rfl ?_; intro W1 hW1)
  generalize w.alloc (.cells #[.int .u64 a0, .int .u64 a1, .int .u64 a2, .int .u64 a3] 24) = V0 at *
  (try rw [B0.out.2])
  go_upto_region 2 with (refine alloc20 rfl rfl ?_; intro W2 hW2)
  have A0 : Hid (Ad w (w.heap.size + 1) (w.heap.size + 1 + 1) a0 a1 a2 a3 (fun _ => 0) W2) := by
    have h1 := hW1.row.past hW2.bel
    have h2 := hW2.row
    rw [B0.out.2] at h1
    rw [hW1.siz, B0.out.2] at h2
    exact ⟨(B0.out.1.past hW1.bel).past hW2.bel, rfl, rfl, h1, h2⟩
  have e1 : W1.heap.size = w.heap.size + 1 + 1 := by rw [hW1.siz, B0.out.2]
  (try rw [e1])
  clear hW1 hW2 B0 e1
  obtain ⟨c0, c1, c2, c3, _⟩ := A0.out.bx.f0 mm0
  go_upto_region 3 with (go_at_call 55; refine (HSZ.out _).mono ?_; rintro e v1 ⟨rfl, hB⟩; (have A1 : Hid (Ad w (w.heap.size + 1) (w.heap.size + 1 + 1) a0 a1 a2 a3 (fun _ => 0) v1) := A0.out.past hB); clear hB c0 c1 c2 c3 A0)
  go_wp2_with (first
    | (refine load20 (fun _ => 0) (w.heap.size + 1 + 1) rfl _ rfl rfl A1.out.loc.range ?_)
    | (refine store20 (fun _ => 0) (w.heap.size + 1) rfl _ _ rfl rfl rfl A1.out.res.there ?_))
  refine bodyPost_ret (v := .tuple #[.agg (rowB 20 (fun _ => 0)).toArray, .bool false]) ?_ rfl ⟨rfl, below_setCellsB _ (by omega) _ _ _ A1.out.bx.bel⟩
  exact results_ct Tryz.results63 _ _ _ ⟨w.heap.size + 1, 0, none⟩ rfl rfl (loadVar20 A1.out.res.of_range.range)
set_option maxHeartbeats 2000000 in
set_option maxRecDepth 100000 in
theorem rtoAddress_yes (a0 a1 a2 a3 : Int) (n X : Nat) (SZ : ∀ W : World, Calls Tryz.prog 55 #[.agg #[.int .u64 a0, .int .u64 a1, .int .u64 a2, .int .u64 a3]] W fun e w' => e = .returned (.int .i64 (n : Int)) ∧ Below W.heap.size W w') (OA : ∀ W, Calls Tryz.prog 79 #[.agg #[.int .u64 a0, .int .u64 a1, .int .u64 a2, .int .u64 a3]] W fun e w' => ∃ v, e = .returned v ∧ RowAt w' v 32 (dig X) ∧ Below W.heap.size W w') (hn : n ≤ 20) (w : World) :
    Calls Tryz.prog 63 #[.agg #[.int .u64 a0, .int .u64 a1, .int .u64 a2, .int .u64 a3]] w fun e w' => e = .returned (.tuple #[.agg (rowB 20 (fun i => ((dig X (19 - i) : Nat) : Int))).toArray, .bool true]) ∧ Below w.heap.size w w' := by
  have HSZ : Hid _ := SZ
  have HOA : Hid (∀ W, Calls Tryz.prog 79 #[.agg #[.int .u64 a0, .int .u64 a1, .int .u64 a2, .int .u64 a3]] W fun e w' => ∃ v, e = .returned v ∧ RowAt w' v 32 (dig X) ∧ Below W.heap.size W w') := OA
  obtain ⟨F, eF⟩ : ∃ F : Nat → Int, F = fun i => ((dig X (19 - i) : Nat) : Int) := ⟨_, rfl⟩
  rw [← eF]
  have EF : Hid (∀ i, F i = ((dig X (19 - i) : Nat) : Int)) := fun i => by rw [eF]
  clear eF
  have nI : ¬ (20 : Int) < (n : Int) := by omega
  have B0 : Hid (Bx w [(w.heap.size, a0, a1, a2, a3)] (w.alloc (.cells #[.int .u64 a0, .int .u64 a1, .int .u64 a2, .int .u64 a3] 24)) ∧ (w.alloc (.cells #[.int .u64 a0, .int .u64 a1, .int .u64 a2, .int .u64 a3] 24)).heap.size = w.heap.size + 1) := ⟨(Bx.start w).alloc a0 a1 a2 a3, by simp⟩
  clear SZ OA
  go_enter Tryz.func63, Tryz.ntmps63
  go_upto_region 1 with (refine alloc20 rfl rfl ?_; intro W1 hW1)
  generalize w.alloc (.cells #[.int .u64 a0, .int .u64 a1, .int .u64 a2, .int .u64 a3] 24) = V0 at *
  (try rw [B0.out.2])
  go_upto_region 2 with (refine alloc20 rfl rfl ?_; intro W2 hW2)
  have A0 : Hid (Ad w (w.heap.size + 1) (w.heap.size + 1 + 1) a0 a1 a2 a3 (fun _ => 0) W2) := by
    have h1 := hW1.row.past hW2.bel
    have h2 := hW2.row
    rw [B0.out.2] at h1
    rw [hW1.siz, B0.out.2] at h2
    exact ⟨(B0.out.1.past hW1.bel).past hW2.bel, rfl, rfl, h1, h2⟩
  have e1 : W1.heap.size = w.heap.size + 1 + 1 := by rw [hW1.siz, B0.out.2]
  (try rw [e1])
  clear hW1 hW2 B0 e1
  obtain ⟨c0, c1, c2, c3, _⟩ := A0.out.bx.f0 mm0
  go_upto_region 4 with (go_at_call 55; refine (HSZ.out _).mono ?_; rintro e v1 ⟨rfl, hB⟩; (have A1 : Hid (Ad w (w.heap.size + 1) (w.heap.size + 1 + 1) a0 a1 a2 a3 (fun _ => 0) v1) := A0.out.past hB); clear hB c0 c1 c2 c3 A0)
  obtain ⟨c0, c1, c2, c3, _⟩ := A1.out.bx.f0 mm0
  go_wp2_with (go_at_call 79; refine (HOA.out _).mono ?_; rintro e v2 ⟨rv, rfl, hrow, hB⟩; (have A2 : Hid (Ad w (w.heap.size + 1) (w.heap.size + 1 + 1) a0 a1 a2 a3 (uptoB F 0) v2 ∧ RowAt v2 rv 32 (dig X)) := ⟨(by have h := A1.out.past hB; exact ⟨h.bx, h.rr, h.ll, h.res, h.loc.ext (fun i _ => by unfold uptoB; rw [if_neg (by omega)])⟩), hrow⟩); clear hB hrow c0 c1 c2 c3 A1)
  have K4 := A2.out.2
  obtain ⟨_, _, _, ad, cap, rfl, hc⟩ := K4
  obtain ⟨g, o, rfl, hc2⟩ := hc (by decide)
  have A3 : Hid (Ad w (w.heap.size + 1) (w.heap.size + 1 + 1) a0 a1 a2 a3 (uptoB F 0) v2 ∧ ∀ i, i < 32 → v2.cell? ⟨g, o + i, none⟩ = some (.int .i64 (dig X i : Int))) := ⟨A2.out.1, hc2⟩
  clear hc hc2 A2
  go_loopw [6] (fun s wr => ∃ k : Nat, s = .int .i64 (k : Int) ∧ k ≤ 20 ∧ Below w.heap.size w wr ∧ RowB wr (w.heap.size + 1) 20 (fun _ => 0) ∧ RowB wr (w.heap.size + 1 + 1) 20 (uptoB F k) ∧ ∀ i, i < 32 → wr.cell? ⟨g, o + i, none⟩ = some (.int .i64 (dig X i : Int))) (fun s _ => 20 - (intOf s).toNat)
  case atStart => exact ⟨0, rfl, by omega, A3.out.1.bx.bel, A3.out.1.res, A3.out.1.loc, A3.out.2⟩
  case round =>
    obtain ⟨k, rfl, hk, hB, hR, hL, hC⟩ := hrel
    clear A3
    have HB : Hid (Below w.heap.size w wr) := hB
    have HR : Hid (RowB wr (w.heap.size + 1) 20 (fun _ => 0)) := hR
    have HL : Hid (RowB wr (w.heap.size + 1 + 1) 20 (uptoB F k)) := hL
    have HC : Hid (∀ i, i < 32 → wr.cell? ⟨g, o + i, none⟩ = some (.int .i64 (dig X i : Int))) := hC
    clear hB hR hL hC
    by_cases hk5 : k < 20
    · have kI : (k : Int) < 20 := by omega
      obtain ⟨q, eq⟩ : ∃ q, q = 19 - k := ⟨_, rfl⟩
      have w1 : (19 : Int) - (k : Int) = (q : Int) := by omega
      have w2 : IntKind.i64.wrap (q : Int) = (q : Int) := by rw [IntKind.wrap_i64]; omega
      have qI : (q : Int) < 32 := by omega
      have cq := HC.out q (by omega)
      have fk := EF.out k
      rw [← eq] at fk
      have hd := dig_lt X q
      generalize dig X q = y at cq fk hd
      have w3 : IntKind.u8.wrap (y : Int) = (y : Int) := by rw [IntKind.wrap_u8]; omega
      have cz := (HL.out k hk5).1
      have fz := (HL.out k hk5).2
      have N1 : Hid (Below w.heap.size w (wr.setCell ⟨w.heap.size + 1 + 1, k, none⟩ (.int .u8 (y : Int))) ∧ RowB (wr.setCell ⟨w.heap.size + 1 + 1, k, none⟩ (.int .u8 (y : Int))) (w.heap.size + 1) 20 (fun _ => 0) ∧ RowB (wr.setCell ⟨w.heap.size + 1 + 1, k, none⟩ (.int .u8 (y : Int))) (w.heap.size + 1 + 1) 20 (uptoB F (k + 1)) ∧ ∀ i, i < 32 → (wr.setCell ⟨w.heap.size + 1 + 1, k, none⟩ (.int .u8 (y : Int))).cell? ⟨g, o + i, none⟩ = some (.int .i64 (dig X i : Int))) := by
        refine ⟨HB.out.setCell (by simp; omega) _, HR.out.set_other _ _ (by simp), (RowB.set HL.out k (y : Int) hk5).ext (fun i hi => ?_), fun i hi => ?_⟩
        · unfold uptoB
          by_cases h : i = k
          · subst h; rw [if_pos rfl, if_pos (by omega), fk]
          · rw [if_neg h]
            by_cases h2 : i < k
            · rw [if_pos h2, if_pos (by omega)]
            · rw [if_neg h2, if_neg (by omega)]
        · have hi2 := HC.out i hi
          rw [World.cell?_setCell_other _ _ _ _ (fun e => by rw [← e, cz] at hi2; cases hi2)]
          exact hi2
      clear eq fk hd
      go_wp2
      go_roundw
      case rel => exact ⟨k + 1, by go_num, by omega, N1.out.1, N1.out.2.1, N1.out.2.2.1, N1.out.2.2.2⟩
      case measure => simp [intOf]; omega
    · obtain rfl : k = 20 := by omega
      have R2 : Hid (RowB wr (w.heap.size + 1 + 1) 20 F) := HL.out.ext (fun i hi => by unfold uptoB; rw [if_pos hi])
      clear HL HC
      go_wp2_with (first
        | (refine load20 F (w.heap.size + 1 + 1) rfl _ rfl rfl R2.out.range ?_)
        | (refine store20 F (w.heap.size + 1) rfl _ _ rfl rfl rfl HR.out.there ?_))
      refine bodyPost_ret (v := .tuple #[.agg (rowB 20 F).toArray, .bool true]) ?_ rfl ⟨rfl, below_setCellsB _ (by omega) _ _ _ HB.out⟩
      exact results_ct Tryz.results63 _ _ _ ⟨w.heap.size + 1, 0, none⟩ rfl rfl (loadVar20 HR.out.of_range.range)
theorem toAddress_both {x : Int} {a0 a1 a2 a3 : Int} (ha : IsW x a0 a1 a2 a3) : ∃ (f : Nat → Int) (b : Bool), (∀ w : World, Calls Tryz.prog 62 #[.agg #[.int .u64 a0, .int .u64 a1, .int .u64 a2, .int .u64 a3]] w fun e w' => e = .returned (.tuple #[.agg (rowB 20 f).toArray, .bool b]) ∧ Below w.heap.size w w') ∧ (∀ w : World, Calls Tryz.prog 63 #[.agg #[.int .u64 a0, .int .u64 a1, .int .u64 a2, .int .u64 a3]] w fun e w' => e = .returned (.tuple #[.agg (rowB 20 f).toArray, .bool b]) ∧ Below w.heap.size w w') := by
  obtain ⟨X, hX, eX, lX⟩ := mod_nat ha
  obtain ⟨n, _, h1, h2⟩ := pair_sizeN ha X hX
  by_cases hn : n ≤ 20
  · refine ⟨_, true, wtoAddress_yes a0 a1 a2 a3 n (bb a0 a1 a2 a3) h1 (fun w => bytes_is a0 a1 a2 a3 w) hn, fun w => ?_⟩
    have h := rtoAddress_yes a0 a1 a2 a3 n X h2 (fun W => of_is x a0 a1 a2 a3 W ha X hX) hn w
    rwa [rowB_ext (u := fun i => ((dig X (19 - i) : Nat) : Int)) (v := fun i => bb a0 a1 a2 a3 (12 + i)) (fun i hi => by unfold bb; rw [bw_dig ha.u0 ha.u1 ha.u2 ha.u3 X hX (31 - (12 + i)) (by omega), dig, if_pos (by omega), show 31 - (12 + i) = 19 - i by omega])] at h
  · exact ⟨_, false, wtoAddress_no a0 a1 a2 a3 n h1 (by omega), rtoAddress_no a0 a1 a2 a3 n h2 (by omega)⟩
end Go.Proofs.YtpadpmkfhljiiaaGreat
/- '==' of arrays of 20 and of 32 bytes; bytes as a text. -/
namespace Go.Proofs.YtpadpmkfhljiiaaGreat
open Go.RowKit
theorem loop_all {β : Type} {P : Program} {W : World} (f : Nat → β → Sem (ForInStep β)) (b0 b1 : β) (p : Nat → Bool) :
    ∀ (m s : Nat), (∀ i, s ≤ i → i < s + m → Sem.run P (f i b0) W = .ok (if p i then .yield b0 else .done b1) W) →
      Sem.run P (forIn (List.range' s m) b0 f) W = .ok (if (List.range' s m).all p then b0 else b1) W
  | 0, s, _ => by simp
  | m + 1, s, h => by
    have h0 := h s (Nat.le_refl _) (by omega)
    rw [List.range'_succ, List.forIn_cons, Sem.run_bind, h0]
    by_cases e : p s = true
    · simp only [e, if_true, Result.andThen_ok]
      rw [loop_all f b0 b1 p m (s + 1) (fun i h1 h2 => h i (by omega) (by omega)), List.all_cons, e, Bool.true_and]
    · simp [e]
def rowEq (n : Nat) (u v : Nat → Int) : Bool := (List.range' 0 n).all fun i => u i == v i
theorem rowEq_iff (n : Nat) (u v : Nat → Int) : rowEq n u v = true ↔ ∀ i, i < n → u i = v i := by
  simp [rowEq, List.all_eq_true]
theorem sz8 (W : World) : Sem.run Tryz.prog (sizeOf 5) W = .ok 1 W := by kernel_rfl
theorem eq8_run (k : Nat) (x y : Int) (W : World) : Sem.run Tryz.prog (Op.equalIn (k + 1) 5 (.int .u8 x) (.int .u8 y)) W = .ok (x == y) W := by
  simp [Op.equalIn, run_underlying Tryz.underlying5]
theorem part8 (n : Nat) (u : Nat → Int) (i : Nat) (h : i < n) (W : World) : Sem.run Tryz.prog (part 5 (rowB n u).toArray i) W = .ok (.int .u8 (u i)) W := by
  have := rowB_at n u i h
  simp [part, this]
theorem eq32_run (u v : Nat → Int) (W : World) : Sem.run Tryz.prog (Op.equalIn 10000 45 (.agg (rowB 32 u).toArray) (.agg (rowB 32 v).toArray)) W = .ok (rowEq 32 u v) W := by
  rw [show (10000 : Nat) = 9998 + 1 + 1 from rfl, Op.equalIn]
  simp only [Sem.run_bind, run_underlying Tryz.underlying45, Result.andThen_ok, sz8, Std.Legacy.Range.forIn_eq_forIn_range', Std.Legacy.Range.size]
  rw [loop_all _ _ ⟨some false, ()⟩ (fun i => u i == v i)]
  · by_cases h : rowEq 32 u v = true
    · have h' := h; unfold rowEq at h'; simp [h, h']
    · have h' := h; unfold rowEq at h'; simp [h, h']
  · intro i h0 h1
    simp [part8 32 u i (by omega), part8 32 v i (by omega), eq8_run]
    by_cases e : u i = v i <;> simp [e]
theorem eq20_run (u v : Nat → Int) (W : World) : Sem.run Tryz.prog (Op.equalIn 10000 37 (.agg (rowB 20 u).toArray) (.agg (rowB 20 v).toArray)) W = .ok (rowEq 20 u v) W := by
  rw [show (10000 : Nat) = 9998 + 1 + 1 from rfl, Op.equalIn]
  simp only [Sem.run_bind, run_underlying Tryz.underlying37, Result.andThen_ok, sz8, Std.Legacy.Range.forIn_eq_forIn_range', Std.Legacy.Range.size]
  rw [loop_all _ _ ⟨some false, ()⟩ (fun i => u i == v i)]
  · by_cases h : rowEq 20 u v = true
    · have h' := h; unfold rowEq at h'; simp [h, h']
    · have h' := h; unfold rowEq at h'; simp [h, h']
  · intro i h0 h1
    simp [part8 20 u i (by omega), part8 20 v i (by omega), eq8_run]
    by_cases e : u i = v i <;> simp [e]
theorem eq32_same (u : Nat → Int) (W : World) : Sem.run Tryz.prog (Op.equalIn 10000 45 (.agg (rowB 32 u).toArray) (.agg (rowB 32 u).toArray)) W = .ok true W := by
  rw [eq32_run, (rowEq_iff 32 u u).2 (fun _ _ => rfl)]
theorem eq20_same (u : Nat → Int) (W : World) : Sem.run Tryz.prog (Op.equalIn 10000 37 (.agg (rowB 20 u).toArray) (.agg (rowB 20 u).toArray)) W = .ok true W := by
  rw [eq20_run, (rowEq_iff 20 u u).2 (fun _ _ => rfl)]
end Go.Proofs.YtpadpmkfhljiiaaGreat
/- Bytes as a text; b[:q] and b[q:] of a list of bytes; empty lists. -/
namespace Go.Proofs.YtpadpmkfhljiiaaGreat
open Go.RowKit
theorem Tryz.infoB : (Tryz.prog.info? 5).map (fun i => (i.zero, i.size, i.bytes)) = some (some (.int .u8 0), 1, 1) := by kernel_rfl
def text (u : Nat → Nat) (n : Nat) : ByteArray := ((List.range n).map fun i => (u i : Int)).foldl (fun r m => r.push (UInt8.ofNat m.toNat)) ByteArray.empty
theorem conv_is (W : World) (v : Value) (n : Nat) (u : Nat → Nat) (h : BytesAt W v n u) : (convert 35 9 v).run Tryz.prog W = .ok (.string (text u n)) W := by
  obtain ⟨_, ad, cap, rfl, hc⟩ := h
  rw [run_convert_bytes_string W _ _ _ _ _ _ Tryz.underlying35 Tryz.underlying5 Tryz.underlying9]
  rcases ad with _ | ad
  · have hn0 : n = 0 := Classical.byContradiction fun h => by obtain ⟨_, _, h', _⟩ := hc h; cases h'
    subst hn0
    simp [Conv.bytesToString, text]
  · have hl : (loadCells ad n).run Tryz.prog W = .ok (((List.range n).map fun i => (u i : Int)).map (Value.int .u8)).toArray W := by
      have hh := run_loadCells_list (P := Tryz.prog) W ad (((List.range n).map fun i => (u i : Int)).map (Value.int .u8)) (fun j v hv => by
        have hj : j < n := by have := (List.getElem?_eq_some_iff.1 hv).1; simpa using this
        obtain ⟨g, o, e, hc2⟩ := hc (by omega)
        obtain rfl := Option.some.inj e
        rw [Addr.add_mid, hc2 j hj]
        simp [hj] at hv
        rw [← hv])
      simpa using hh
    rw [run_bytesToString W ad n cap _ hl]
    rfl
theorem slice_toB (g N cap q : Nat) (hq : q ≤ cap) (W : World) : Sem.run Tryz.prog (Instr.slice 35 (.slice (some ⟨g, 0, none⟩) N cap) none (some (.int .i64 (q : Int))) none) W = .ok (.slice (some ⟨g, 0, none⟩) q cap) W := by
  simp [Instr.slice, Instr.sliceBounds, run_underlying Tryz.underlying35, run_sliceBound W .i64 (q : Int) cap _ (by omega) (by omega)]
  intro _; simp [Addr.add]
theorem slice_fromB (g N cap q : Nat) (hq : q ≤ N) (hc : q < cap) (W : World) : Sem.run Tryz.prog (Instr.slice 35 (.slice (some ⟨g, 0, none⟩) N cap) (some (.int .i64 (q : Int))) none none) W = .ok (.slice (some ⟨g, q, none⟩) (N - q) (cap - q)) W := by
  simp [Instr.slice, Instr.sliceBounds, run_underlying Tryz.underlying35, run_sliceBound W .i64 (q : Int) N _ (by omega) (by omega), Addr.add_mid]
  omega
theorem owns_emptyB (w : World) : (w.alloc (.cells #[] 5)).ownsRow w.heap.size 5 1 (.slice (some ⟨w.heap.size, 0, none⟩) 0 0) 0 [] :=
  ⟨rfl, .inr ⟨w.heap.size, 0, #[], rfl, Nat.le_refl _, Array.getElem?_push_size, Nat.le_refl _, by unfold maxLen; omega, rfl, rfl⟩⟩
end Go.Proofs.YtpadpmkfhljiiaaGreat
/- The operation at a place of a long region. -/
namespace Go.Proofs.YtpadpmkfhljiiaaGreat
open Go.RowKit
end Go.Proofs.YtpadpmkfhljiiaaGreat
