/- A sponge's Sum: a copy is padded, permuted, squeezed. -/
import Derived.Test.YtbjijbgjnammhaaDoorKs
namespace Go.Proofs.YtbjijbgjnammhaaDoor
open Go.RowKit
def spoL (f : KSt) (p : Nat) : List Value := rowL 25 (iv f) ++ [.int .i64 (p : Int)]
theorem spoL_len (f : KSt) (p : Nat) : (spoL f p).length = 26 := by simp [spoL, rowL_len]
theorem spoL_one (f : KSt) (p : Nat) : (spoL f p).toArray.all (·.oneCell') = true := by
  refine all_oneCell_toArray ?_
  intro v hv
  rcases List.mem_append.1 hv with h | h
  · simp only [rowL, List.mem_map] at h; obtain ⟨i, _, rfl⟩ := h; rfl
  · rw [List.mem_singleton.1 h]; rfl
theorem spoL_at (f : KSt) (p j : Nat) (h : j < 25) : (spoL f p)[j]? = some (.int .u64 (iv f j)) := by
  rw [spoL, List.getElem?_append_left (by rw [rowL_len]; exact h), rowL_at 25 _ j h]
theorem spoL_last (f : KSt) (p : Nat) : (spoL f p)[25]? = some (.int .i64 (p : Int)) := by
  rw [spoL, List.getElem?_append_right (by rw [rowL_len]; omega), rowL_len]; rfl
theorem Spo.range {w : World} {b : Nat} {f : KSt} {p : Nat} (h : Spo w b f p) : w.rangeAt b 0 (spoL f p) := fun j x hx => by
  have hj : j < 26 := by have := (List.getElem?_eq_some_iff.1 hx).1; rwa [spoL_len] at this
  rw [Nat.zero_add]
  by_cases e : j < 25
  · rw [spoL_at f p j e] at hx; rw [← hx]; exact (h.1 j e).1
  · obtain rfl : j = 25 := by omega
    rw [spoL_last] at hx; rw [← hx]; exact h.2.1
theorem Spo.there {w : World} {b : Nat} {f : KSt} {p : Nat} (h : Spo w b f p) : w.there b 0 26 := fun j hj => by
  rw [Nat.zero_add]
  by_cases e : j < 25
  · rw [(h.1 j e).1]; exact ⟨rfl, (h.1 j e).2⟩
  · obtain rfl : j = 25 := by omega
    rw [h.2.1]; exact ⟨rfl, h.2.2⟩
theorem Spo.store {w : World} {b : Nat} {f : KSt} {p : Nat} (h : Spo w b f p) (g : KSt) (q : Nat) : Spo (w.setCells b 0 (spoL g q)) b g q := by
  have hr := World.rangeAt_setCells_same w b 0 (spoL g q) (by rw [spoL_len]; exact h.there)
  refine ⟨fun i hi => ⟨?_, ?_⟩, ?_, ?_⟩
  · have := hr i _ (spoL_at g q i hi); rwa [Nat.zero_add] at this
  · rw [World.frozen?_setCells]; exact (h.1 i hi).2
  · have := hr 25 _ (spoL_last g q); rwa [Nat.zero_add] at this
  · rw [World.frozen?_setCells]; exact h.2.2
/-- only the lanes are written -/
theorem Spo.lanes {w : World} {b : Nat} {f : KSt} {p : Nat} (h : Spo w b f p) (g : KSt) : Spo (w.setCells b 0 (rowL 25 (iv g))) b g p := by
  refine ⟨h.1.of_range, ?_, ?_⟩
  · rw [World.cell?_setCells_out _ _ _ _ _ (fun _ _ => Or.inr (by rw [rowL_len]; exact Nat.le_refl _))]; exact h.2.1
  · rw [World.frozen?_setCells]; exact h.2.2
def zeroK : KSt := fun _ => 0
theorem zero26 : (#[.int .u64 0, .int .u64 0, .int .u64 0, .int .u64 0, .int .u64 0, .int .u64 0, .int .u64 0, .int .u64 0, .int .u64 0, .int .u64 0, .int .u64 0, .int .u64 0, .int .u64 0, .int .u64 0, .int .u64 0, .int .u64 0, .int .u64 0, .int .u64 0, .int .u64 0, .int .u64 0, .int .u64 0, .int .u64 0, .int .u64 0, .int .u64 0, .int .u64 0, .int .i64 0] : Array Value) = (spoL zeroK 0).toArray := by rfl
theorem Spo.new (w : World) (t : TypeId) (f : KSt) (p : Nat) : Spo (w.alloc (.cells (spoL f p).toArray t)) w.heap.size f p := by
  refine ⟨fun i hi => ?_, ?_, ?_⟩
  · rw [World.cell?_alloc_at _ _ _ _ rfl]
    refine ⟨?_, by simp [World.frozen?_alloc_at]⟩
    show (spoL f p).toArray[i]? = _
    rw [List.getElem?_toArray, spoL_at f p i hi]
  · rw [World.cell?_alloc_at _ _ _ _ rfl]
    show (spoL f p).toArray[25]? = _
    rw [List.getElem?_toArray, spoL_last]
  · simp [World.frozen?_alloc_at]
theorem store26 {ops : Array Oper} {rest : List Oper} {op : Oper} {a : Act} {w : World} {Q : Exit → Act → World → Prop} (f : KSt) (p : Nat) (b : Nat) (hgd : op.guard = none) (x y : Operand) (ho : op.op = .store 38 x y)
    (hx : a.eval x = .pointer (some ⟨b, 0, none⟩)) (hy : a.eval y = .agg (spoL f p).toArray) (ht : w.there b 0 26)
    (h : wpList Tryd.prog ops Q rest (a.put op.dst undef) (w.setCells b 0 (spoL f p))) : wpList Tryd.prog ops Q (op :: rest) a w :=
  wpList_store_mid hgd 38 x y ho b 0 (spoL f p).toArray hx hy (by rw [List.size_toArray, spoL_len]; exact ht) (by rw [List.size_toArray, spoL_len]; kernel_rfl) (spoL_one f p) h
theorem load26 {ops : Array Oper} {rest : List Oper} {op : Oper} {a : Act} {w : World} {Q : Exit → Act → World → Prop} (f : KSt) (p : Nat) (b : Nat) (hgd : op.guard = none) (x : Operand) (ho : op.op = .load 38 x)
    (hx : a.eval x = .pointer (some ⟨b, 0, none⟩)) (hr : w.rangeAt b 0 (spoL f p))
    (h : wpList Tryd.prog ops Q rest (a.put op.dst (.agg (spoL f p).toArray)) w) : wpList Tryd.prog ops Q (op :: rest) a w :=
  wpList_load_mid hgd 38 x ho b 0 hx (spoL f p) _ hr Tryd.underlying38 rfl (by rw [spoL_len]; kernel_rfl) h
/-- the lanes behind padding at p and all rounds -/
def endF (f : KSt) (p : Nat) : KSt := rndsF 24 (layF (layF f p 1) 135 128)
/-- while the copy is padded: old memory, the result's room, the copy -/
def SumInv (w : World) (f : KSt) (q : Nat) (W : World) : Prop := Below w.heap.size w W ∧ RowB W w.heap.size 32 (fun _ => 0) ∧ Spo W (w.heap.size + 1) f q
theorem SumInv.past {w W W' : World} {f : KSt} {q : Nat} (h : SumInv w f q W) (k : Below W.heap.size W W') : SumInv w f q W' :=
  ⟨h.1.trans (k.mono h.1.size), h.2.1.below k (h.2.1.lt (by omega)), h.2.2.below k h.2.2.lt⟩
theorem SumInv.only {w W W' : World} {f g : KSt} {q r : Nat} (h : SumInv w f q W) (k : Only (w.heap.size + 1) W W') (hs : Spo W' (w.heap.size + 1) g r) : SumInv w g r W' := by
  refine ⟨h.1.trans (k.below (by omega) h.1.size), fun i hi => ?_, hs⟩
  have hl := h.2.1.lt (by omega)
  exact ⟨(k.cell (p := ⟨w.heap.size, i, none⟩) hl (by show w.heap.size ≠ w.heap.size + 1; omega)).trans (h.2.1 i hi).1, (k.frozen (p := ⟨w.heap.size, i, none⟩) hl (by show w.heap.size ≠ w.heap.size + 1; omega)).trans (h.2.1 i hi).2⟩
theorem store26_sum {ops : Array Oper} {rest : List Oper} {op : Oper} {a : Act} {w : World} {Q : Exit → Act → World → Prop} (f : KSt) (p : Nat) (hgd : op.guard = none) (x y : Operand) (ho : op.op = .store 38 x y)
    (hx : a.eval x = .pointer (some ⟨w.heap.size + 1, 0, none⟩)) (hy : a.eval y = .agg (spoL f p).toArray)
    (h : ∀ v0, SumInv w f p v0 → wpList Tryd.prog ops Q rest (a.put op.dst undef) v0) :
    wpList Tryd.prog ops Q (op :: rest) a ((w.alloc (.cells #[.int .u8 0, .int .u8 0, .int .u8 0, .int .u8 0, .int .u8 0, .int .u8 0, .int .u8 0, .int .u8 0, .int .u8 0, .int .u8 0, .int .u8 0, .int .u8 0, .int .u8 0, .int .u8 0, .int .u8 0, .int .u8 0, .int .u8 0, .int .u8 0, .int .u8 0, .int .u8 0, .int .u8 0, .int .u8 0, .int .u8 0, .int .u8 0, .int .u8 0, .int .u8 0, .int .u8 0, .int .u8 0, .int .u8 0, .int .u8 0, .int .u8 0, .int .u8 0] 31)).alloc (.cells #[.int .u64 0, .int .u64 0, .int .u64 0, .int .u64 0, .int .u64 0, .int .u64 0, .int .u64 0, .int .u64 0, .int .u64 0, .int .u64 0, .int .u64 0, .int .u64 0, .int .u64 0, .int .u64 0, .int .u64 0, .int .u64 0, .int .u64 0, .int .u64 0, .int .u64 0, .int .u64 0, .int .u64 0, .int .u64 0, .int .u64 0, .int .u64 0, .int .u64 0, .int .i64 0] 38)) := by
  rw [zeroB32, zero26]
  have s0 := Spo.new (w.alloc (.cells (rowB 32 fun _ => 0).toArray 31)) 38 zeroK 0
  rw [show (w.alloc (.cells (rowB 32 fun _ => 0).toArray 31)).heap.size = w.heap.size + 1 by simp] at s0
  refine store26 f p (w.heap.size + 1) hgd x y ho hx hy s0.there (h _ ?_)
  refine ⟨below_setCells _ (by omega) _ _ _ (((Below.refl _ _).alloc (by omega) _).alloc (by simp) _), ?_, s0.store f p⟩
  intro i hi
  have := ((RowB.new w 31 32 fun _ => 0).alloc (.cells (spoL zeroK 0).toArray 38)) i hi
  exact ⟨by rw [World.cell?_setCells_out _ _ _ _ _ (fun hb _ => absurd hb (by simp))]; exact this.1, by rw [World.frozen?_setCells]; exact this.2⟩
set_option maxHeartbeats 1000000 in
set_option maxRecDepth 100000 in
theorem sum_is (w : World) (b : Nat) (f : KSt) (p : Nat) (hT : Tabs w) (h : Spo w b f p) (hp : p < 136) :
    Calls Tryd.prog 11 #[.pointer (some ⟨b, 0, none⟩)] w fun e w' => e = .returned (.agg (rowB 32 (hashF (endF f p))).toArray) ∧ Below w.heap.size w w' := by
  have g2 := hT.lt
  have hb := h.lt
  have HT : Hid (Tabs w) := hT
  have HS : Hid (Spo w b f p) := h
  clear hT h
  go_enter Tryd.func11, Tryd.ntmps11
  go_wp2_with (first
    | refine load26 f p b rfl _ rfl rfl (World.rangeAt_alloc (Spo.range HS.out) _) ?_
    | (refine store26_sum f p rfl _ _ rfl rfl rfl ?_; intro v0 h0; (have c0 := (Below.cell h0.1 (p := ⟨b, 25, none⟩) hb).trans HS.out.2.1); (have H0 : Hid (SumInv w f p v0) := h0); clear h0)
    | (go_at_call_of 15 (1 : Int); refine (lay_is _ (w.heap.size + 1) f p p 1 H0.out.2.2 hp (by omega)).mono ?_; rintro e v1 ⟨rfl, hs, ho⟩; (have H1 : Hid (SumInv w (layF f p 1) p v1) := SumInv.only H0.out ho hs); clear hs ho c0)
    | (go_at_call 15; refine (lay_is _ (w.heap.size + 1) (layF f p 1) p 135 128 H1.out.2.2 (by omega) (by omega)).mono ?_; rintro e v2 ⟨rfl, hs, ho⟩; (have H2 : Hid (SumInv w (layF (layF f p 1) 135 128) p v2) := SumInv.only H1.out ho hs); clear hs ho)
    | refine load25 (iv (layF (layF f p 1) 135 128)) (w.heap.size + 1) rfl _ rfl rfl (H2.out.2.2.1.range) ?_
    | (go_at_call 16; refine (permute_is (layF (layF f p 1) 135 128) _ (Tabs.below HT.out H2.out.1 g2)).mono ?_; rintro e v3 ⟨rfl, hB⟩; (have H3 : Hid (SumInv w (layF (layF f p 1) 135 128) p v3) := SumInv.past H2.out hB); clear hB)
    | (go_at_call 17; refine (squeeze_is (rndsF 24 (layF (layF f p 1) 135 128)) _).mono ?_; rintro e v4 ⟨rfl, hB⟩; (have H4 : Hid (SumInv w (layF (layF f p 1) 135 128) p v4) := SumInv.past H3.out hB); clear hB)
    | refine store32 (hashF (rndsF 24 (layF (layF f p 1) 135 128))) w.heap.size rfl _ _ rfl rfl rfl H4.out.2.1.there ?_)
  refine bodyPost_ret (v := .agg (rowB 32 (hashF (endF f p))).toArray) ?_ rfl ⟨rfl, below_setCells _ (Nat.le_refl _) _ _ _ H4.out.1⟩
  exact results_cell Tryd.results11 _ _ _ ⟨w.heap.size, 0, none⟩ rfl (loadVar32 (H4.out.2.1.of_range.range))
end Go.Proofs.YtbjijbgjnammhaaDoor
