/- The document's Made. -/
import Derived.Test.YtbjijbgjnammhaaDoorSgb
import Derived.Test.YtbjijbgjnammhaaDoorVo
namespace Go.Proofs.YtbjijbgjnammhaaDoor
open Go.RowKit
theorem owns_lit (W : World) (l : List Nat) (hl : l.length ≤ 1000) : (W.alloc (.cells (bytesL l).toArray 5)).ownsRow W.heap.size 5 1 (.slice (some ⟨W.heap.size, 0, none⟩) l.length l.length) l.length (bytesL l) := by
  refine ⟨by rw [bytesL_len]; omega, Or.inr ⟨W.heap.size, l.length, (bytesL l).toArray, rfl, Nat.le_refl _, heap_new W _, Nat.le_refl _, by unfold maxLen; omega, by simp [bytesL_len], ?_⟩⟩
  rw [List.take_of_length_le (by simp [bytesL_len])]
theorem owns_past {W W' : World} {B e s n : Nat} {v : Value} {xs : List Value} (h : W.ownsRow B e s v n xs) (k : Below W.heap.size W W') : W'.ownsRow B e s v n xs := by
  refine ⟨h.1, ?_⟩
  rcases h.2 with h2 | ⟨g, c, cur, h1, h2, h3, h4⟩
  · exact Or.inl h2
  · exact Or.inr ⟨g, c, cur, h1, h2, (k.block g (Array.getElem?_eq_some_iff.1 h3).1).trans h3, h4⟩
/-- block b is an array of 32 bytes -/
def T32 (W : World) (b : Nat) : Prop := ∃ c, W.heap[b]? = some (.cells c 29 (0, 0))
theorem T32.set {W : World} {b : Nat} (h : T32 W b) (o : Nat) (v : Value) : T32 (W.setCell ⟨b, o, none⟩ v) b := by
  obtain ⟨c, h⟩ := h
  unfold T32
  simp [World.setCell, Array.getElem?_modify, h]
theorem T32.sets {b : Nat} : ∀ (vs : List Value) (o : Nat) {W : World}, T32 W b → T32 (W.setCells b o vs) b
  | [], _, _, h => h
  | v :: vs, o, W, h => by
    have h1 := T32.sets vs (o + 1) (h.set o v)
    exact h1
theorem T32.past {W W' : World} {b : Nat} (h : T32 W b) (k : Below W.heap.size W W') : T32 W' b := by
  obtain ⟨c, h⟩ := h
  exact ⟨c, (k.block b (Array.getElem?_eq_some_iff.1 h).1).trans h⟩
theorem T32.ne {W : World} {B n b : Nat} {v : Value} {xs : List Value} (h : T32 W b) (k : W.ownsRow B 5 1 v n xs) : v.ownBlock ≠ some b := by
  obtain ⟨c, h⟩ := h
  rcases k.2 with ⟨h2, _⟩ | ⟨g, c', cur, h1, h2, h3, h4⟩
  · rw [h2]; exact fun e => by cases e
  · rw [h1]
    intro e
    injection e with e
    subst e
    rw [h] at h3
    injection h3 with h3
    injection h3 with _ h3
    exact absurd h3 (by decide)
theorem T32.grown {W W' : World} {row : Option Nat} {b : Nat} (h : T32 W b) (k : W.grownBy W' row) (hb : row ≠ some b) : T32 W' b := by
  obtain ⟨c, h⟩ := h
  exact ⟨c, (k.block b (Array.getElem?_eq_some_iff.1 h).1 (fun e => hb e.symm)).trans h⟩
theorem RowB.grown {W W' : World} {row : Option Nat} {b n : Nat} {f : Nat → Int} (h : RowB W b n f) (k : W.grownBy W' row) (hb : row ≠ some b) : RowB W' b n f := fun i hi => by
  have hl := World.block_lt_of_cell? W _ (h i hi).1
  have e := k.block b hl (fun e => hb e.symm)
  exact ⟨(World.cell?_of_block (w := W) (a := ⟨b, i, none⟩) e).trans (h i hi).1, (World.frozen?_of_block (w := W) (a := ⟨b, i, none⟩) e).trans (h i hi).2⟩
theorem new32t {ops : Array Oper} {rest : List Oper} {op1 op2 : Oper} {a : Act} {w : World} {Q : Exit → Act → World → Prop} (g : Nat → Int) (h1 : op1.guard = none) (o1 : op1.op = .alloc 29) (t : Tmp) (d1 : op1.dst = some t) (h2 : op2.guard = none) (y : Operand) (o2 : op2.op = .store 29 (.tmp t) y) (d2 : op2.dst = none)
    (hx : (a.put (some t) (.pointer (some ⟨w.heap.size, 0, none⟩))).eval (.tmp t) = .pointer (some ⟨w.heap.size, 0, none⟩)) (hy : (a.put (some t) (.pointer (some ⟨w.heap.size, 0, none⟩))).eval y = .agg (rowB 32 g).toArray)
    (h : ∀ W, RowB W w.heap.size 32 g → Below w.heap.size w W → T32 W w.heap.size → wpList Tryd.prog ops Q rest (a.put (some t) (.pointer (some ⟨w.heap.size, 0, none⟩))) W) : wpList Tryd.prog ops Q (op1 :: op2 :: rest) a w := by
  refine wpList_plain h1 fun K hK => ?_
  unfold Oper.wp execOp
  simp only [o1, Sem.run_bind, Instr.alloc, zero32a, newVar, newRow, run_newObj_alloc, Sem.run_pure, Result.andThen_ok, Value.cells]
  refine hK _ _ ?_
  rw [d1]
  refine wpList_store_mid h2 29 _ y o2 w.heap.size 0 (rowB 32 g).toArray hx hy ?_ (by rw [List.size_toArray, rowB_len]; kernel_rfl) (rowB_one 32 g) ?_
  · have e : (rowB 32 g).toArray.size = 32 := by rw [List.size_toArray, rowB_len]
    rw [e]; exact (RowB.new w _ 32 _).there
  · rw [d2]
    exact h _ (RowB.of_range (RowB.new w _ 32 _)) (Wds.below_setCellsB _ (Nat.le_refl _) _ _ _ ((Below.refl _ _).alloc (Nat.le_refl _) _)) (T32.sets _ _ ⟨_, heap_new w _⟩)
def base0 : List Nat := [255] ++ List.replicate 12 0
theorem base_lit : (#[.int .u8 255, .int .u8 0, .int .u8 0, .int .u8 0, .int .u8 0, .int .u8 0, .int .u8 0, .int .u8 0, .int .u8 0, .int .u8 0, .int .u8 0, .int .u8 0, .int .u8 0] : Array Value) = (bytesL base0).toArray := rfl
/-- the first k bytes behind l -/
def addL (l : List Nat) (f : Nat → Nat) (k : Nat) : List Nat := l ++ (List.range k).map f
theorem addL_len (l : List Nat) (f : Nat → Nat) (k : Nat) : (addL l f k).length = l.length + k := by simp [addL]
theorem addL_next (l : List Nat) (f : Nat → Nat) (k : Nat) : bytesL (addL l f (k + 1)) = bytesL (addL l f k) ++ [.int .u8 (f k : Int)] := by
  unfold addL
  rw [List.range_succ, List.map_append, ← List.append_assoc, bytesL_app]
  rfl
theorem addL_zero (l : List Nat) (f : Nat → Nat) : addL l f 0 = l := by simp [addL]
theorem madeL_eq (u : Nat → Nat) (x : Wds.W4) : madeL u x = addL (addL base0 u 20) (Wds.bN x) 32 := rfl
theorem addL_byte {l : List Nat} {f : Nat → Nat} {k : Nat} (hl : ∀ i, l.getD i 0 < 256) (hf : ∀ i, f i < 256) (i : Nat) : (addL l f k).getD i 0 < 256 := by
  unfold addL
  by_cases h : i < l.length
  · have := hl i
    rw [List.getD_eq_getElem?_getD] at this ⊢
    rwa [List.getElem?_append_left h]
  · rw [List.getD_eq_getElem?_getD, List.getElem?_append_right (by omega), List.getElem?_map]
    by_cases h2 : i - l.length < k
    · rw [List.getElem?_range h2]; exact hf _
    · rw [List.getElem?_eq_none (by simp; omega)]; exact Nat.zero_lt_succ _
theorem base_byte (i : Nat) : base0.getD i 0 < 256 := by
  by_cases h : i < 13
  · have : ∀ i, i < 13 → base0.getD i 0 < 256 := by decide
    exact this i h
  · rw [List.getD_eq_getElem?_getD, List.getElem?_eq_none (by simp [base0]; omega)]; exact Nat.zero_lt_succ _
set_option maxHeartbeats 4000000 in
set_option maxRecDepth 100000 in
theorem rmade_is (w : World) (u : Nat → Nat) (hu : ∀ i, u i < 256) (x : Wds.W4) (hx : Wds.IsW (Wds.V x.a x.b x.c x.d) x.a x.b x.c x.d) : Calls Tryd.prog 5 #[.agg (rowB 20 (fun i => (u i : Int))).toArray, x.v] w fun e w' => e = .returned (.agg (rowB 20 (fun i => sumF (madeL u x) (12 + i))).toArray) ∧ Below w.heap.size w w' := by
  have HU : Hid (∀ i, u i < 256) := hu
  have BY : Hid (∀ W, Calls Tryd.prog 8 #[.agg #[.int .u64 x.a, .int .u64 x.b, .int .u64 x.c, .int .u64 x.d]] W fun e w' => e = .returned (.agg (rowB 32 (fun i => (Wds.bN x i : Int))).toArray) ∧ Below W.heap.size W w') := fun W => Wds.rbytesN W x hx
  clear hu hx
  unfold Wds.W4.v
  go_enter Tryd.func5, Tryd.ntmps5
  go_upto_region 1 with (first | (refine box20 (fun i => (u i : Int)) rfl _ rfl rfl ?_; intro W0 hW0) | (refine alloc20 rfl rfl ?_; intro W2 hW2))
  have K2 : Hid ((RowB W2 w.heap.size 20 (fun i => (u i : Int)) ∧ RowB W2 (W0.heap.size + 1) 20 (fun _ => 0)) ∧ (W2.cell? ⟨W0.heap.size, 0, none⟩ = some (.int .u64 x.a) ∧ W2.cell? ⟨W0.heap.size, 1, none⟩ = some (.int .u64 x.b) ∧ W2.cell? ⟨W0.heap.size, 2, none⟩ = some (.int .u64 x.c) ∧ W2.cell? ⟨W0.heap.size, 3, none⟩ = some (.int .u64 x.d)) ∧ Below w.heap.size w W2 ∧ W0.heap.size = w.heap.size + 1) := by
    have b1 : Below W0.heap.size W0 (W0.alloc (.cells #[.int .u64 x.a, .int .u64 x.b, .int .u64 x.c, .int .u64 x.d] 26)) := (Below.refl _ _).alloc (Nat.le_refl _) _
    have s1 : (W0.alloc (.cells #[.int .u64 x.a, .int .u64 x.b, .int .u64 x.c, .int .u64 x.d] 26)).heap.size = W0.heap.size + 1 := by simp
    have hb := Wds.Box.below (Wds.Box.new W0 26 x.a x.b x.c x.d) hW2.bel (by rw [s1]; omega)
    obtain ⟨c0, c1, c2, c3, _⟩ := Wds.Box.facts hb
    refine ⟨⟨(hW0.row.past b1).past hW2.bel, by rw [← s1]; exact hW2.row⟩, ⟨c0, c1, c2, c3⟩, ?_, hW0.siz⟩
    have z0 := hW0.bel.size
    exact (hW0.bel.trans (b1.mono z0)).trans (hW2.bel.mono (by rw [s1]; omega))
  clear hW0 hW2
  rw [show (W0.alloc (.cells #[.int .u64 x.a, .int .u64 x.b, .int .u64 x.c, .int .u64 x.d] 26)).heap.size = W0.heap.size + 1 by simp]
  generalize hp4 : W0.heap.size + 1 = p4 at K2 ⊢
  generalize hp3 : W0.heap.size = p3 at K2 hp4 ⊢
  clear hp3
  have P4 : Hid (w.heap.size ≤ p4) := by have := K2.out.2.2.2; show _ ≤ _; omega
  clear hp4
  go_upto_region 2 with fail
  rw [base_lit]
  have O0 : Hid ((W2.alloc (.cells (bytesL base0).toArray 5)).ownsRow W2.heap.size 5 1 (.slice (some ⟨W2.heap.size, 0, none⟩) 13 13) (13 + 0) (bytesL (addL base0 u 0))) := by
    have h := owns_lit W2 base0 (by decide)
    rw [addL_zero]
    exact h
  have B0 : Hid (Below W2.heap.size W2 (W2.alloc (.cells (bytesL base0).toArray 5))) := (Below.refl _ _).alloc (Nat.le_refl _) _
  generalize W2.alloc (.cells (bytesL base0).toArray 5) = V0 at O0 B0 ⊢
  go_wp2
  go_loopw [5, 6] (fun s5 s wr => ∃ k : Nat, k ≤ 20 ∧ s = .int .i64 (k : Int) ∧ wr.ownsRow W2.heap.size 5 1 s5 (13 + k) (bytesL (addL base0 u k)) ∧ Below W2.heap.size W2 wr) (fun _ s _ => 20 - (intOf s).toNat)
  case atStart => exact ⟨0, by omega, rfl, O0.out, B0.out⟩
  case round =>
    clear O0 B0
    obtain ⟨k, hk, rfl, hown, hB⟩ := hrel
    have HOW : Hid (wr.ownsRow W2.heap.size 5 1 u5 (13 + k) (bytesL (addL base0 u k))) := hown
    have HB : Hid (Below W2.heap.size W2 wr) := hB
    have hbs := hB.size
    clear hown hB
    by_cases hk5 : k < 20
    · have kI : (k : Int) < 20 := by omega
      have ck : wr.cell? ⟨w.heap.size, k, none⟩ = some (.int .u8 (u k : Int)) := ((K2.out.1.1.past HB.out) k hk5).1
      go_wp2_with (at_builtin; refine append_byte rfl _ _ rfl W2.heap.size u5 (13 + k) (bytesL (addL base0 u k)) rfl (u k : Int) HOW.out rfl (by omega) hbs ?_; intro v1 w1 hown' hgrow)
      have R : Hid (w1.ownsRow W2.heap.size 5 1 v1 (13 + (k + 1)) (bytesL (addL base0 u (k + 1))) ∧ Below W2.heap.size W2 w1) := ⟨by rw [addL_next]; exact hown', step8 HOW.out HB.out hbs hgrow⟩
      clear hown' hgrow HOW HB ck
      go_wp2
      go_roundw
      case rel => exact ⟨k + 1, by omega, by go_num, R.out⟩
      case measure => simp [intOf]; omega
    · obtain rfl : k = 20 := by omega
      have kI : ¬ ((20 : Nat) : Int) < 20 := by omega
      obtain ⟨c0, c1, c2, c3⟩ : wr.cell? ⟨p3, 0, none⟩ = some (.int .u64 x.a) ∧ wr.cell? ⟨p3, 1, none⟩ = some (.int .u64 x.b) ∧ wr.cell? ⟨p3, 2, none⟩ = some (.int .u64 x.c) ∧ wr.cell? ⟨p3, 3, none⟩ = some (.int .u64 x.d) := by
        obtain ⟨d0, d1, d2, d3⟩ := K2.out.2.1
        have hl : p3 < W2.heap.size := World.block_lt_of_cell? W2 _ d0
        exact ⟨(HB.out.cell (p := ⟨p3, 0, none⟩) hl).trans d0, (HB.out.cell (p := ⟨p3, 1, none⟩) hl).trans d1, (HB.out.cell (p := ⟨p3, 2, none⟩) hl).trans d2, (HB.out.cell (p := ⟨p3, 3, none⟩) hl).trans d3⟩
      have K3 : Hid (RowB W2 p4 20 (fun _ => 0) ∧ Below w.heap.size w W2) := ⟨K2.out.1.2, K2.out.2.2.1⟩
      clear K2
      go_upto_region 6 with fail
      go_upto_region 7 with (first | (go_at_call 8; refine (BY.out _).mono ?_; rintro e W5 ⟨rfl, hB5⟩) | (refine new32t (fun i => (Wds.bN x i : Int)) rfl rfl _ rfl rfl _ rfl rfl rfl rfl ?_; intro W6 hR6 hB6 hT6))
      have S6 : Hid ((W6.ownsRow W2.heap.size 5 1 u5 (33 + 0) (bytesL (addL (addL base0 u 20) (Wds.bN x) 0)) ∧ RowB W6 W5.heap.size 32 (fun i => (Wds.bN x i : Int)) ∧ T32 W6 W5.heap.size) ∧ Below W2.heap.size W2 W6) := by
        refine ⟨⟨?_, hR6, hT6⟩, ?_⟩
        · rw [addL_zero]
          exact owns_past (owns_past HOW.out hB5) hB6
        · have b5 := HB.out.trans (hB5.mono HB.out.size)
          exact b5.trans (hB6.mono b5.size)
      generalize W5.heap.size = p7 at S6 ⊢
      clear hR6 hB6 hT6 hB5 HOW HB hbs c0 c1 c2 c3 BY kI hk hk5
      go_wp2
      go_loopw [5, 8] (fun s5 s wr => ∃ k : Nat, k ≤ 32 ∧ s = .int .i64 (k : Int) ∧ (wr.ownsRow W2.heap.size 5 1 s5 (33 + k) (bytesL (addL (addL base0 u 20) (Wds.bN x) k)) ∧ RowB wr p7 32 (fun i => (Wds.bN x i : Int)) ∧ T32 wr p7) ∧ Below W2.heap.size W2 wr) (fun _ s _ => 32 - (intOf s).toNat)
      case atStart => exact ⟨0, by omega, rfl, S6.out⟩
      case round =>
        clear S6
        obtain ⟨k, hk, rfl, hown, hB⟩ := hrel
        have HOW : Hid (wr.ownsRow W2.heap.size 5 1 u5 (33 + k) (bytesL (addL (addL base0 u 20) (Wds.bN x) k)) ∧ RowB wr p7 32 (fun i => (Wds.bN x i : Int)) ∧ T32 wr p7) := hown
        have HB : Hid (Below W2.heap.size W2 wr) := hB
        have hbs := hB.size
        clear hown hB
        by_cases hk5 : k < 32
        · have kI : (k : Int) < 32 := by omega
          have ck : wr.cell? ⟨p7, k, none⟩ = some (.int .u8 (Wds.bN x k : Int)) := (HOW.out.2.1 k hk5).1
          go_wp2_with (at_builtin; refine append_byte rfl _ _ rfl W2.heap.size u5 (33 + k) (bytesL (addL (addL base0 u 20) (Wds.bN x) k)) rfl (Wds.bN x k : Int) HOW.out.1 rfl (by omega) hbs ?_; intro v1 w1 hown' hgrow)
          have R : Hid ((w1.ownsRow W2.heap.size 5 1 v1 (33 + (k + 1)) (bytesL (addL (addL base0 u 20) (Wds.bN x) (k + 1))) ∧ RowB w1 p7 32 (fun i => (Wds.bN x i : Int)) ∧ T32 w1 p7) ∧ Below W2.heap.size W2 w1) := by
            have bA : Below wr.heap.size wr (wr.alloc (.cells #[.int .u8 (Wds.bN x k : Int)] 5)) := (Below.refl _ _).alloc (Nat.le_refl _) _
            have hne := HOW.out.2.2.ne HOW.out.1
            exact ⟨⟨by rw [addL_next]; exact hown', (HOW.out.2.1.past bA).grown hgrow hne, (HOW.out.2.2.past bA).grown hgrow hne⟩, step8 HOW.out.1 HB.out hbs hgrow⟩
          clear hown' hgrow HOW HB ck
          go_wp2
          go_roundw
          case rel => exact ⟨k + 1, by omega, by go_num, R.out⟩
          case measure => simp [intOf]; omega
        · obtain rfl : k = 32 := by omega
          have kI : ¬ ((32 : Nat) : Int) < 32 := by omega
          obtain ⟨g, c, rfl⟩ : ∃ g c, u5 = .slice (some ⟨g, 0, none⟩) (33 + 32) c := by
            obtain ⟨_, ⟨_, e⟩ | ⟨g, c, cur, rfl, _⟩⟩ := id HOW.out.1
            · omega
            · exact ⟨g, c, rfl⟩
          have SG : Hid (Seg wr (.slice (some ⟨g, 0, none⟩) (33 + 32) c) (madeL u x)) := (owns_seg HOW.out.1).1
          have BW : Hid (Below w.heap.size w wr ∧ RowB wr p4 20 (fun _ => 0)) := ⟨K3.out.2.trans (HB.out.mono K3.out.2.size), K3.out.1.past HB.out⟩
          have ML : Hid ((∀ i, (madeL u x).getD i 0 < 256) ∧ (madeL u x).length ≤ 100000000) := ⟨fun i => addL_byte (fun i => addL_byte base_byte HU.out i) (Wds.bN_lt x) i, by rw [madeL_eq, addL_len, addL_len]; decide⟩
          clear HOW HB K3 hbs hk hk5
          go_upto_region 11 with fail
          have RS : Hid (Calls Tryd.prog 9 #[.slice (some ⟨wr.heap.size, 0, none⟩) 1 1] (wr.alloc (.cells #[.slice (some ⟨g, 0, none⟩) 65 c] 33)) fun e w' => e = .returned (.agg (rowB 32 (sumF (madeL u x))).toArray) ∧ Below (wr.alloc (.cells #[.slice (some ⟨g, 0, none⟩) 65 c] 33)).heap.size (wr.alloc (.cells #[.slice (some ⟨g, 0, none⟩) 65 c] 33)) w') := by
            refine rsum_is _ wr.heap.size (.slice (some ⟨g, 0, none⟩) 65 c) (madeL u x) ?_ (SG.out.below ((Below.refl _ _).alloc (Nat.le_refl _) _)) ML.out.1 ML.out.2
            have h9 := heap_new wr (.cells #[.slice (some ⟨g, 0, none⟩) 65 c] 33)
            unfold World.cell?
            rw [h9]
            rfl
          go_upto_region 12 with (first | (go_at_call 9; refine (RS.out).mono ?_; rintro e W7 ⟨rfl, hB7⟩) | (refine new32h (sumF (madeL u x)) rfl rfl _ rfl rfl _ rfl rfl rfl rfl ?_; intro W8 hR8 hB8))
          have S8 : Hid ((Below w.heap.size w W8 ∧ RowB W8 p4 20 (fun _ => 0)) ∧ RowB W8 W7.heap.size 32 (sumF (madeL u x))) := by
            have bA : Below wr.heap.size wr (wr.alloc (.cells #[.slice (some ⟨g, 0, none⟩) 65 c] 33)) := (Below.refl _ _).alloc (Nat.le_refl _) _
            have b7 := BW.out.1.trans (bA.mono BW.out.1.size)
            have b8 := b7.trans (hB7.mono b7.size)
            exact ⟨⟨b8.trans (hB8.mono b8.size), ((BW.out.2.past bA).past hB7).past hB8⟩, hR8⟩
          generalize W7.heap.size = b9 at S8 ⊢
          clear hR8 hB8 hB7 RS SG BW ML
          go_upto_region 13 with (refine alloc20 rfl rfl ?_; intro W9 hN)
          obtain ⟨F, eF⟩ : ∃ F : Nat → Int, F = fun i => sumF (madeL u x) (12 + i) := ⟨_, rfl⟩
          have EF : Hid (∀ i, sumF (madeL u x) (12 + i) = F i) := fun i => by rw [eF]
          have EF2 : Hid ((fun i => sumF (madeL u x) (12 + i)) = F) := eF.symm
          clear eF
          have S9 : Hid (RowB W9 W8.heap.size 20 (fun j => if j < 0 then F j else 0) ∧ Below W8.heap.size W8 W9) := ⟨hN.row.ext (fun i _ => by rw [if_neg (by omega)]), hN.bel⟩
          generalize hb10 : W8.heap.size = b10 at S9 ⊢
          have E10 : Hid (W8.heap.size = b10) := hb10
          clear hN hb10
          go_wp2
          go_loopw [11] (fun s wr => ∃ k : Nat, k ≤ 20 ∧ s = .int .i64 (k : Int) ∧ RowB wr b10 20 (fun j => if j < k then F j else 0) ∧ Below b10 W8 wr) (fun s _ => 20 - (intOf s).toNat)
          case atStart => exact ⟨0, by omega, rfl, S9.out⟩
          case round =>
            clear S9
            obtain ⟨k, hk, rfl, hR, hB⟩ := hrel
            have HR : Hid (RowB wr b10 20 (fun j => if j < k then F j else 0)) := hR
            have HB : Hid (Below b10 W8 wr) := hB
            have B8 : Hid (RowB wr b9 32 (sumF (madeL u x)) ∧ RowB wr p4 20 (fun _ => 0) ∧ Below w.heap.size w wr) := by
              have hB' : Below W8.heap.size W8 wr := by rw [E10.out]; exact hB
              exact ⟨S8.out.2.past hB', S8.out.1.2.past hB', S8.out.1.1.trans (hB'.mono S8.out.1.1.size)⟩
            clear hR hB
            by_cases hk5 : k < 20
            · have kI : (k : Int) < 20 := by omega
              obtain ⟨q, eq⟩ : ∃ q, q = 12 + k := ⟨_, rfl⟩
              have w1 : (12 : Int) + (k : Int) = (q : Int) := by omega
              have w2 : IntKind.i64.wrap (q : Int) = (q : Int) := by rw [IntKind.wrap_i64]; omega
              have qI : (q : Int) < 32 := by omega
              have cq := (B8.out.1 q (by omega)).1
              have cz := (HR.out k hk5).1
              have fz := (HR.out k hk5).2
              rw [eq, EF.out k, ← eq] at cq
              have N1 : Hid (RowB (wr.setCell ⟨b10, k, none⟩ (.int .u8 (F k))) b10 20 (fun j => if j < k + 1 then F j else 0) ∧ Below b10 W8 (wr.setCell ⟨b10, k, none⟩ (.int .u8 (F k)))) := by
                refine ⟨(RowB.set HR.out k (F k) hk5).ext (fun i hi => ?_), HB.out.setCell (Nat.le_refl _) _⟩
                by_cases h : i = k
                · subst h; rw [if_pos rfl, if_pos (by omega)]
                · rw [if_neg h]
                  by_cases h2 : i < k
                  · rw [if_pos h2, if_pos (by omega)]
                  · rw [if_neg h2, if_neg (by omega)]
              clear eq HR HB B8
              go_wp2
              go_roundw
              case rel => exact ⟨k + 1, by omega, by go_num, N1.out⟩
              case measure => simp [intOf]; omega
            · obtain rfl : k = 20 := by omega
              have kI : ¬ ((20 : Nat) : Int) < 20 := by omega
              have R2 : Hid (RowB wr b10 20 F) := HR.out.ext (fun i hi => by rw [if_pos hi])
              have HZ : Hid (wr.there p4 0 20) := B8.out.2.1.there
              clear HR HB
              go_wp2_with (first | refine load20 F b10 rfl _ rfl rfl R2.out ?_ | refine store20 F p4 rfl _ _ rfl rfl rfl HZ.out ?_)
              rw [EF2.out]
              refine bodyPost_ret (v := .agg (rowB 20 F).toArray) ?_ rfl ⟨rfl, Wds.below_setCellsB _ P4.out _ _ _ B8.out.2.2⟩
              exact results_cell Tryd.results5 _ _ _ ⟨p4, 0, none⟩ rfl (loadVar20 (RowB.of_range B8.out.2.1))
end Go.Proofs.YtbjijbgjnammhaaDoor
