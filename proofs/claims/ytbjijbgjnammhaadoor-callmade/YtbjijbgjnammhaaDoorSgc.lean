/- call.Made. -/
import Derived.Test.YtbjijbgjnammhaaDoorSgb
import Derived.Test.YtbjijbgjnammhaaDoorVo
import Derived.Deep.RegionHeld3
namespace Go.Proofs.YtbjijbgjnammhaaDoor
open Go.RowKit
/-- pieces that lie in blocks of their own -/
def Fx (V : World) (l : List (Nat × List Nat)) : Prop := ∀ p ∈ l, BytesAt V ⟨p.1, 0, none⟩ p.2
theorem Fx.past {V V' : World} {l : List (Nat × List Nat)} (h : Fx V l) (k : Below V.heap.size V V') : Fx V' l := fun p hp => (h p hp).past k
theorem Fx.cons {V V' : World} {l : List (Nat × List Nat)} (h : Fx V l) (k : Below V.heap.size V V') {b : Nat} {m : List Nat} (hb : BytesAt V' ⟨b, 0, none⟩ m) : Fx V' ((b, m) :: l) := fun p hp => by
  rcases List.mem_cons.1 hp with rfl | hp
  · exact hb
  · exact (h p hp).past k
/-- blocks for a hash -/
def Hx (V : World) (B : Nat) (l : List Nat) : Prop := ∀ b ∈ l, B ≤ b ∧ RowB V b 32 (fun _ => 0)
theorem Hx.past {V V' : World} {B : Nat} {l : List Nat} (h : Hx V B l) (k : Below V.heap.size V V') : Hx V' B l := fun b hb => ⟨(h b hb).1, (h b hb).2.past k⟩
theorem Hx.cons {V V' : World} {B : Nat} {l : List Nat} (h : Hx V B l) (k : Below V.heap.size V V') {b : Nat} (hB : B ≤ b) (hb : RowB V' b 32 (fun _ => 0)) : Hx V' B (b :: l) := fun p hp => by
  rcases List.mem_cons.1 hp with rfl | hp
  · exact ⟨hB, hb⟩
  · exact ⟨(h p hp).1, (h p hp).2.past k⟩
/-- blocks as they lie -/
def Gx (V : World) (l : List (Nat × Obj)) : Prop := ∀ p ∈ l, V.heap[p.1]? = some p.2
theorem Gx.past {V V' : World} {l : List (Nat × Obj)} (h : Gx V l) (k : Below V.heap.size V V') : Gx V' l := fun p hp => (k.block p.1 (Array.getElem?_eq_some_iff.1 (h p hp)).1).trans (h p hp)
theorem Gx.cons {V V' : World} {l : List (Nat × Obj)} (h : Gx V l) (k : Below V.heap.size V V') {b : Nat} {o : Obj} (hb : V'.heap[b]? = some o) : Gx V' ((b, o) :: l) := fun p hp => by
  rcases List.mem_cons.1 hp with rfl | hp
  · exact hb
  · exact (k.block p.1 (Array.getElem?_eq_some_iff.1 (h p hp)).1).trans (h p hp)
theorem RowB.only {w w' : World} {b c n : Nat} {v : Nat → Int} (h : RowB w b n v) (k : Only c w w') (hb : b ≠ c) : RowB w' b n v := fun i hi =>
  have hl := World.block_lt_of_cell? w _ (h i hi).1
  ⟨(k.cell (p := ⟨b, i, none⟩) hl hb).trans (h i hi).1, (k.frozen (p := ⟨b, i, none⟩) hl hb).trans (h i hi).2⟩
/-- what Made holds while it hashes -/
structure MB (w : World) (u : Nat → Nat) (x : Wds.W4) (p4 p5 : Nat) (V : World) : Prop where
  by_ : RowB V w.heap.size 20 (fun i => (u i : Int))
  sal : RowB V p5 32 (fun i => (Wds.bN x i : Int))
  res : RowB V p4 20 (fun _ => 0)
  tab : Tabs V
  bel : Below w.heap.size w V
  low : w.heap.size ≤ p4
theorem MB.past {w : World} {u : Nat → Nat} {x : Wds.W4} {p4 p5 : Nat} {V V' : World} (h : MB w u x p4 p5 V) (k : Below V.heap.size V V') : MB w u x p4 p5 V' :=
  ⟨h.by_.past k, h.sal.past k, h.res.past k, h.tab.past k, h.bel.trans (k.mono h.bel.size), h.low⟩
theorem MB.drew {w : World} {u : Nat → Nat} {x : Wds.W4} {p4 p5 : Nat} {V : World} (h : MB w u x p4 p5 V) : MB w u x p4 p5 V.drew := h.past (Below.refl _ _).drew
theorem MB.sets {w : World} {u : Nat → Nat} {x : Wds.W4} {p4 p5 : Nat} {V : World} (h : MB w u x p4 p5 V) (b : Nat) (vs : List Value) (h4 : p4 < b) (h5 : p5 < b) (hT : 2 < b) : MB w u x p4 p5 (V.setCells b 0 vs) := by
  have k : Only b V (V.setCells b 0 vs) := (Only.refl b V).sets vs 0
  have hl := h.low
  exact ⟨h.by_.only k (by omega), h.sal.only k (by omega), h.res.only k (by omega), h.tab.only k hT, h.bel.trans ((k.below (B := w.heap.size) (by omega) h.bel.size)), h.low⟩
theorem there32 {V : World} {b : Nat} {f : Nat → Int} (h : RowB V b 32 f) (g : Nat → Int) : V.there b 0 (rowB 32 g).toArray.size := by
  have e : (rowB 32 g).toArray.size = 32 := by rw [List.size_toArray, rowB_len]
  rw [e]
  exact h.there
theorem bytesL_255 : (#[Value.int .u8 255] : Array Value) = (bytesL [255]).toArray := rfl
/-- the four pieces -/
theorem sum4 {w : World} {u : Nat → Nat} {x : Wds.W4} {p4 p5 : Nat} {V : World} (h : MB w u x p4 p5 V) (hu : ∀ i, u i < 256) (b10 b11 b14 : Nat) (h10 : BytesAt V ⟨b10, 0, none⟩ [255]) (h11 : BytesAt V ⟨b11, 0, none⟩ (List.replicate 12 0))
    (c0 : V.cell? ⟨b14, 0, none⟩ = some (.slice (some ⟨b10, 0, none⟩) 1 1)) (c1 : V.cell? ⟨b14, 1, none⟩ = some (.slice (some ⟨b11, 0, none⟩) 12 12)) (c2 : V.cell? ⟨b14, 2, none⟩ = some (.slice (some ⟨w.heap.size, 0, none⟩) 20 20)) (c3 : V.cell? ⟨b14, 3, none⟩ = some (.slice (some ⟨p5, 0, none⟩) 32 32)) :
    Calls Tryd.prog 7 #[.slice (some ⟨b14, 0, none⟩) 4 4] V fun e w' => e = .returned (.agg (rowB 32 (sumF (madeL u x))).toArray) ∧ Below V.heap.size V w' := by
  have pc : ∀ (b n : Nat) (l : List Nat), l.length = n → (∀ i, i < l.length → l.getD i 0 < 256) → n ≤ 32 → BytesAt V ⟨b, 0, none⟩ l → PieceAt V (.slice (some ⟨b, 0, none⟩) n n) l := fun b n l e hl hn hb => ⟨hl, by omega, some ⟨b, 0, none⟩, n, by rw [e], fun _ => ⟨b, 0, rfl, hb⟩⟩
  have hS := sumAll_is V (some ⟨b14, 0, none⟩) 4 4 (fun i => if i = 0 then .slice (some ⟨b10, 0, none⟩) 1 1 else if i = 1 then .slice (some ⟨b11, 0, none⟩) 12 12 else if i = 2 then .slice (some ⟨w.heap.size, 0, none⟩) 20 20 else .slice (some ⟨p5, 0, none⟩) 32 32)
    (fun i => if i = 0 then [255] else if i = 1 then List.replicate 12 0 else if i = 2 then (List.range 20).map u else (List.range 32).map (Wds.bN x)) h.tab (by omega) (fun _ => ⟨b14, 0, rfl, fun i hi => by
      rw [Nat.zero_add]
      have : i = 0 ∨ i = 1 ∨ i = 2 ∨ i = 3 := by omega
      rcases this with rfl | rfl | rfl | rfl
      · exact c0
      · exact c1
      · exact c2
      · exact c3⟩) (fun i hi => by
      have : i = 0 ∨ i = 1 ∨ i = 2 ∨ i = 3 := by omega
      have g : ∀ (f : Nat → Nat) (n j : Nat), (∀ k, f k < 256) → ((List.range n).map f).getD j 0 < 256 := fun f n j hf => by
        by_cases hj : j < n
        · rw [List.getD_eq_getElem?_getD, List.getElem?_map, List.getElem?_range hj]; exact hf j
        · rw [List.getD_eq_getElem?_getD, List.getElem?_eq_none (by simp; omega)]; exact Nat.zero_lt_succ _
      rcases this with rfl | rfl | rfl | rfl
      · exact pc b10 1 [255] rfl (fun i hi => by
          obtain rfl : i = 0 := by simpa using hi
          decide) (by omega) h10
      · exact pc b11 12 (List.replicate 12 0) rfl (fun i hi => by rw [List.getD_eq_getElem?_getD, List.getElem?_replicate]; split <;> decide) (by omega) h11
      · exact pc _ 20 _ (by simp) (fun i _ => g u 20 i hu) (by omega) h.by_.bytes
      · exact pc _ 32 _ (by simp) (fun i _ => g _ 32 i (Wds.bN_lt x)) (by omega) h.sal.bytes)
  have e : flat (fun i => if i = 0 then [255] else if i = 1 then List.replicate 12 0 else if i = 2 then (List.range 20).map u else (List.range 32).map (Wds.bN x)) 4 = madeL u x := rfl
  rw [e] at hS
  exact hS
set_option maxHeartbeats 4000000 in
set_option maxRecDepth 100000 in
theorem made_is (w : World) (hT : Tabs w) (u : Nat → Nat) (hu : ∀ i, u i < 256) (x : Wds.W4) : Calls Tryd.prog 4 #[.agg (rowB 20 (fun i => (u i : Int))).toArray, x.v] w fun e w' => e = .returned (.agg (rowB 20 (fun i => sumF (madeL u x) (12 + i))).toArray) ∧ Below w.heap.size w w' := by
  have HU : Hid (∀ i, u i < 256) := hu
  have HT : Hid (Tabs w) := hT
  clear hu hT
  unfold Wds.W4.v
  go_enter Tryd.func4, Tryd.ntmps4
  go_upto_region 1 with (first | (refine box20 (fun i => (u i : Int)) rfl _ rfl rfl ?_; intro W0 hW0) | (refine alloc20 rfl rfl ?_; intro W2 hW2))
  have K2 : Hid ((RowB W2 w.heap.size 20 (fun i => (u i : Int)) ∧ RowB W2 (W0.heap.size + 1) 20 (fun _ => 0)) ∧ (W2.cell? ⟨W0.heap.size, 0, none⟩ = some (.int .u64 x.a) ∧ W2.cell? ⟨W0.heap.size, 1, none⟩ = some (.int .u64 x.b) ∧ W2.cell? ⟨W0.heap.size, 2, none⟩ = some (.int .u64 x.c) ∧ W2.cell? ⟨W0.heap.size, 3, none⟩ = some (.int .u64 x.d)) ∧ Below w.heap.size w W2 ∧ W0.heap.size = w.heap.size + 1) := by
    have b1 : Below W0.heap.size W0 (W0.alloc (.cells #[.int .u64 x.a, .int .u64 x.b, .int .u64 x.c, .int .u64 x.d] 26)) := (Below.refl _ _).alloc (Nat.le_refl _) _
    have s1 : (W0.alloc (.cells #[.int .u64 x.a, .int .u64 x.b, .int .u64 x.c, .int .u64 x.d] 26)).heap.size = W0.heap.size + 1 := by simp
    have hb := Wds.Box.below (Wds.Box.new W0 26 x.a x.b x.c x.d) hW2.bel (by rw [s1]; omega)
    obtain ⟨c0, c1, c2, c3, _⟩ := Wds.Box.facts hb
    refine ⟨⟨(hW0.row.past b1).past hW2.bel, by rw [← s1]; exact hW2.row⟩, ⟨c0, c1, c2, c3⟩, ?_, hW0.siz⟩
    have z0 := hW0.bel.size
    exact (hW0.bel.trans (b1.mono z0)).trans (hW2.bel.mono (by rw [s1]; omega))
  clear hW0 hW2
  obtain ⟨c0, c1, c2, c3⟩ := K2.out.2.1
  rw [show (W0.alloc (.cells #[.int .u64 x.a, .int .u64 x.b, .int .u64 x.c, .int .u64 x.d] 26)).heap.size = W0.heap.size + 1 by simp]
  generalize hp4 : W0.heap.size + 1 = p4 at K2 ⊢
  generalize hp3 : W0.heap.size = p3 at K2 c0 c1 c2 c3 hp4 ⊢
  clear hp3
  have P4 : Hid (w.heap.size ≤ p4) := by have := K2.out.2.2.2; show _ ≤ _; omega
  have BY : Hid (∀ W, Calls Tryd.prog 6 #[.agg #[.int .u64 x.a, .int .u64 x.b, .int .u64 x.c, .int .u64 x.d]] W fun e w' => e = .returned (.agg (rowB 32 (fun i => (Wds.bN x i : Int))).toArray) ∧ Below W.heap.size W w') := fun W => Wds.bytesN W x
  go_upto_region 2 with (first | (go_at_call 6; refine (BY.out _).mono ?_; rintro e W3 ⟨rfl, hB3⟩) | (refine new32a (fun i => (Wds.bN x i : Int)) rfl rfl _ rfl rfl _ rfl rfl rfl rfl ?_; intro W4 hR4 hB4))
  have M4 : MB w u x p4 W3.heap.size W4 := by
    obtain ⟨⟨k1, k2⟩, _, k3, _⟩ := K2.out
    have b3 := k3.trans (hB3.mono k3.size)
    exact ⟨(k1.past hB3).past hB4, hR4, (k2.past hB3).past hB4, (HT.out.past (k3)).below (hB3.trans (hB4.mono hB3.size)) (by have := HT.out.lt; have := k3.size; omega) , b3.trans (hB4.mono b3.size), P4.out⟩
  generalize W3.heap.size = p5 at M4 ⊢
  clear K2 c0 c1 c2 c3 hR4 hB4 hB3 hp4 BY HT
  obtain ⟨B4, e4⟩ : ∃ B, B = W4.heap.size := ⟨_, rfl⟩
  have LT : Hid (p4 < B4 ∧ p5 < B4 ∧ w.heap.size < B4 ∧ 2 < B4) := by rw [e4]; exact ⟨M4.res.lt (by omega), M4.sal.lt (by omega), M4.by_.lt (by omega), M4.tab.lt⟩
  have FX : Fx W4.drew [] := fun p hp => by cases hp
  have GX : Gx W4.drew [] := fun p hp => by cases hp
  have HX : Hx W4.drew B4 [] := fun p hp => by cases hp
  have GE : Hid (B4 ≤ W4.drew.heap.size) := by rw [e4]; exact Nat.le_refl _
  refine wp_region_held_drew (S := MB w u x p4 p5) (by kernel_rfl) M4.drew (fun hHeld => ?_)
  generalize W4.drew = z0 at hHeld FX GX HX GE ⊢
  clear M4 e4
  refine wpAnyH_take (i := 2) (v := .slice (some ⟨w.heap.size, 0, none⟩) 20 20) ov2 (by kernel_rfl) (by kernel_rfl) (by kernel_rfl) (fun _ _ _ h => h) (Or.inl ⟨by rfl, fun V' hS => ?_⟩) hHeld ?_
  · have q1 := slice20 w.heap.size V'
    go_simp
  simp only [Act.put, List.setIfInBounds_toArray, List.set_cons_zero, List.set_cons_succ]
  refine wpAnyH_take (i := 3) (v := .slice (some ⟨p5, 0, none⟩) 32 32) ov3 (by kernel_rfl) (by kernel_rfl) (by kernel_rfl) (fun _ _ _ h => h) (Or.inl ⟨by rfl, fun V' hS => ?_⟩) hHeld ?_
  · have q1 := slice32a p5 V'
    go_simp
  simp only [Act.put, List.setIfInBounds_toArray, List.set_cons_zero, List.set_cons_succ]
  refine wpAnyH_ready (rs := [0, 1, 6]) (by kernel_rfl) (by simp) ?_
  refine AllReadyH.cons ov0 (fun K hK => ?_) (AllReadyH.cons ov1 (fun K hK => ?_) (AllReadyH.cons ov6 (fun K hK => ?_) AllReadyH.nil))
  · rw [if_pos (by rfl)]
    go_simp
    rw [bytesL_255]
    have BK : Below z0.heap.size z0 (z0.alloc (.cells (bytesL [255]).toArray 5)) := (Below.refl _ _).alloc (Nat.le_refl _) _
    obtain ⟨b10, eb10⟩ : ∃ b, b = z0.heap.size := ⟨_, rfl⟩
    have FX := FX.cons BK (bytes_new z0 5 (0, 0) [255])
    have GX := GX.past BK
    have HX := HX.past BK
    rw [← eb10] at FX ⊢
    clear eb10
    have hHeld := hHeld.past BK
    have GE : Hid (B4 ≤ (z0.alloc (.cells (bytesL [255]).toArray 5)).heap.size) := Nat.le_trans GE.out BK.size
    generalize z0.alloc (.cells (bytesL [255]).toArray 5) = z0 at hHeld FX GX HX GE ⊢
    refine hK.out _ _ hHeld (fun _ => ?_)
    clear hK K
    (try simp only [Act.put, List.setIfInBounds_toArray, List.set_cons_zero, List.set_cons_succ])
    refine wpAnyH_ready (rs := [1, 6]) (by kernel_rfl) (by simp) ?_
    refine AllReadyH.cons ov1 (fun K hK => ?_) (AllReadyH.cons ov6 (fun K hK => ?_) AllReadyH.nil)
    · rw [if_pos (by rfl)]
      obtain ⟨zm, hm, hm1, BK⟩ := make12 z0
      go_simp
      obtain ⟨b11, eb11⟩ : ∃ b, b = z0.heap.size := ⟨_, rfl⟩
      have FX := FX.cons BK hm1
      have GX := GX.past BK
      have HX := HX.past BK
      rw [← eb11] at FX ⊢
      clear eb11 hm hm1
      have hHeld := hHeld.past BK
      have GE : Hid (B4 ≤ (zm).heap.size) := Nat.le_trans GE.out BK.size
      generalize zm = z0 at hHeld FX GX HX GE ⊢
      refine hK.out _ _ hHeld (fun _ => ?_)
      clear hK K
      (try simp only [Act.put, List.setIfInBounds_toArray, List.set_cons_zero, List.set_cons_succ])
      refine wpAnyH_ready (rs := [4, 6]) (by kernel_rfl) (by simp) ?_
      refine AllReadyH.cons ov4 (fun K hK => ?_) (AllReadyH.cons ov6 (fun K hK => ?_) AllReadyH.nil)
      · rw [if_pos (by rfl)]
        go_simp
        have BK : Below z0.heap.size z0 (z0.alloc (.cells #[.slice (some ⟨b10, 0, none⟩) 1 1, .slice (some ⟨b11, 0, none⟩) 12 12, .slice (some ⟨w.heap.size, 0, none⟩) 20 20, .slice (some ⟨p5, 0, none⟩) 32 32] 33)) := (Below.refl _ _).alloc (Nat.le_refl _) _
        obtain ⟨b14, eb14⟩ : ∃ b, b = z0.heap.size := ⟨_, rfl⟩
        have FX := FX.past BK
        have GX := GX.cons BK (heap_new z0 (.cells #[.slice (some ⟨b10, 0, none⟩) 1 1, .slice (some ⟨b11, 0, none⟩) 12 12, .slice (some ⟨w.heap.size, 0, none⟩) 20 20, .slice (some ⟨p5, 0, none⟩) 32 32] 33))
        have HX := HX.past BK
        rw [← eb14] at GX ⊢
        clear eb14
        have hHeld := hHeld.past BK
        have GE : Hid (B4 ≤ (z0.alloc (.cells #[.slice (some ⟨b10, 0, none⟩) 1 1, .slice (some ⟨b11, 0, none⟩) 12 12, .slice (some ⟨w.heap.size, 0, none⟩) 20 20, .slice (some ⟨p5, 0, none⟩) 32 32] 33)).heap.size) := Nat.le_trans GE.out BK.size
        generalize z0.alloc (.cells #[.slice (some ⟨b10, 0, none⟩) 1 1, .slice (some ⟨b11, 0, none⟩) 12 12, .slice (some ⟨w.heap.size, 0, none⟩) 20 20, .slice (some ⟨p5, 0, none⟩) 32 32] 33) = z0 at hHeld FX GX HX GE ⊢
        refine hK.out _ _ hHeld (fun _ => ?_)
        clear hK K
        (try simp only [Act.put, List.setIfInBounds_toArray, List.set_cons_zero, List.set_cons_succ])
        refine wpAnyH_ready (rs := [5, 6]) (by kernel_rfl) (by simp) ?_
        refine AllReadyH.cons ov5 (fun K hK => ?_) (AllReadyH.cons ov6 (fun K hK => ?_) AllReadyH.nil)
        · rw [if_pos (by rfl)]
          go_simp
          refine ((by have hg := GX (b14, (.cells #[.slice (some ⟨b10, 0, none⟩) 1 1, .slice (some ⟨b11, 0, none⟩) 12 12, .slice (some ⟨w.heap.size, 0, none⟩) 20 20, .slice (some ⟨p5, 0, none⟩) 32 32] 33)) (by simp); exact sum4 hHeld HU.out b10 b11 b14 (FX (b10, [255]) (by simp)) (FX (b11, List.replicate 12 0) (by simp)) (by simp [World.cell?, hg]) (by simp [World.cell?, hg]) (by simp [World.cell?, hg]) (by simp [World.cell?, hg]) : Calls Tryd.prog 7 #[.slice (some ⟨b14, 0, none⟩) 4 4] z0 _)).mono ?_
          rintro e w9 ⟨rfl, BK⟩
          have FX := FX.past BK
          have GX := GX.past BK
          have HX := HX.past BK
          have hHeld := hHeld.past BK
          have GE : Hid (B4 ≤ (w9).heap.size) := Nat.le_trans GE.out BK.size
          generalize w9 = z0 at hHeld FX GX HX GE ⊢
          (try go_wp2_with fail)
          refine hK.out _ _ hHeld (fun _ => ?_)
          clear hK K
          (try simp only [Act.put, List.setIfInBounds_toArray, List.set_cons_zero, List.set_cons_succ])
          refine wpAnyH_ready (rs := [6]) (by kernel_rfl) (by simp) ?_
          refine AllReadyH.cons ov6 (fun K hK => ?_) AllReadyH.nil
          rw [if_pos (by rfl)]
          go_simp
          rw [zeroB32]
          have BK : Below z0.heap.size z0 (z0.alloc (.cells (rowB 32 fun _ => 0).toArray 31)) := (Below.refl _ _).alloc (Nat.le_refl _) _
          obtain ⟨b6, eb6⟩ : ∃ b, b = z0.heap.size := ⟨_, rfl⟩
          have FX := FX.past BK
          have GX := GX.past BK
          have HX := HX.cons BK GE.out (RowB.new z0 31 32 (fun _ => 0))
          rw [← eb6] at HX ⊢
          clear eb6
          have hHeld := hHeld.past BK
          have GE : Hid (B4 ≤ (z0.alloc (.cells (rowB 32 fun _ => 0).toArray 31)).heap.size) := Nat.le_trans GE.out BK.size
          generalize z0.alloc (.cells (rowB 32 fun _ => 0).toArray 31) = z0 at hHeld FX GX HX GE ⊢
          refine hK.out _ _ hHeld (fun _ => ?_)
          clear hK K
          (try simp only [Act.put, List.setIfInBounds_toArray, List.set_cons_zero, List.set_cons_succ])
          refine wpAnyH_ready (rs := [7]) (by kernel_rfl) (by simp) ?_
          refine AllReadyH.cons ov7 (fun K hK => ?_) AllReadyH.nil
          rw [if_pos (by rfl)]
          have h6 := HX b6 (by simp)
          have lt := LT.out
          refine wp_store_mid 31 _ _ rfl b6 0 (rowB 32 (sumF (madeL u x))).toArray rfl rfl (there32 h6.2 _) (by rw [List.size_toArray, rowB_len]; kernel_rfl) (rowB_one 32 _) ?_
          have hHeld := hHeld.sets b6 (rowB 32 (sumF (madeL u x))) (by omega) (by omega) (by omega)
          have HR : RowB (z0.setCells b6 0 (rowB 32 (sumF (madeL u x)))) b6 32 (sumF (madeL u x)) := RowB.of_range h6.2
          have L6 : w.heap.size ≤ b6 := by omega
          generalize z0.setCells b6 0 (rowB 32 (sumF (madeL u x))) = z0 at hHeld HR ⊢
          refine hK.out _ _ hHeld (fun _ => ?_)
          clear hK K
          (try simp only [Act.put])
          refine wpAnyH_done (by kernel_rfl) ?_ _
          clear FX GX HX LT GE
          have HH : Hid (MB w u x p4 p5 z0 ∧ RowB z0 b6 32 (sumF (madeL u x))) := ⟨hHeld, HR⟩
          clear hHeld HR h6 lt
          go_upto_region 4 with (refine alloc20 rfl rfl ?_; intro z7 hN)
          have N7 : Hid ((MB w u x p4 p5 z7.drew ∧ RowB z7.drew b6 32 (sumF (madeL u x))) ∧ (∃ t, z7.drew.heap[z0.heap.size]? = some (.cells (rowB 20 fun _ => 0).toArray t (0, 0))) ∧ w.heap.size ≤ z0.heap.size ∧ p4 < z0.heap.size) := ⟨⟨(HH.out.1.past hN.bel).drew, (HH.out.2.past hN.bel).drew⟩, hN.obj, HH.out.1.bel.size, HH.out.1.res.lt (by omega)⟩
          generalize z0.heap.size = b7 at N7 ⊢
          clear HH hN
          refine wp_region_held_drew (S := fun _ => True) (by kernel_rfl) trivial (fun hT => ?_)
          generalize z7.drew = y0 at N7 ⊢
          obtain ⟨ty, ho⟩ := N7.out.2.1
          obtain ⟨yc, hc, hc2, hc3⟩ := copy20 y0 b7 b6 ty _ _ ho N7.out.1.2
          have hcp := hc 3
          have E1 : Hid ((RowB yc b7 20 (fun i => sumF (madeL u x) (12 + i)) ∧ RowB yc p4 20 (fun _ => 0)) ∧ Below w.heap.size w yc) := ⟨⟨hc2, N7.out.1.1.res.below (hc3 b7 y0 (Below.refl _ _) (Nat.le_refl _)) N7.out.2.2.2⟩, hc3 _ _ N7.out.1.1.bel N7.out.2.2.1⟩
          clear hc hc2 hc3 ho N7
          refine wpAnyH_take (i := 0) (v := .slice (some ⟨b7, 0, none⟩) 20 20) ov0 (by kernel_rfl) (by kernel_rfl) (by kernel_rfl) (fun _ _ _ h => h) (Or.inl ⟨by rfl, fun V' hS => ?_⟩) hT ?_
          · have q1 := slice20 b7 V'
            go_simp
          simp only [Act.put, List.setIfInBounds_toArray, List.set_cons_zero, List.set_cons_succ]
          refine wpAnyH_take (i := 1) (v := .slice (some ⟨b6, 12, none⟩) 20 20) ov1 (by kernel_rfl) (by kernel_rfl) (by kernel_rfl) (fun _ _ _ h => h) (Or.inl ⟨by rfl, fun V' hS => ?_⟩) hT ?_
          · have q1 := slice12 b6 V'
            go_simp
          simp only [Act.put, List.setIfInBounds_toArray, List.set_cons_zero, List.set_cons_succ]
          refine wpAnyH_ready (rs := [2]) (by kernel_rfl) (by simp) ?_
          refine AllReadyH.cons ov2 (fun K hK => ?_) AllReadyH.nil
          rw [if_pos (by rfl)]
          go_simp
          refine hK.out _ _ trivial (fun _ => ?_)
          clear hK K
          (try simp only [Act.put, List.setIfInBounds_toArray, List.set_cons_zero, List.set_cons_succ])
          refine wpAnyH_done (by kernel_rfl) ?_ _
          clear hcp
          have HZ : Hid (yc.there p4 0 20) := E1.out.1.2.there
          go_wp2_with (first | refine load20 (fun i => sumF (madeL u x) (12 + i)) b7 rfl _ rfl rfl E1.out.1.1 ?_ | refine store20 (fun i => sumF (madeL u x) (12 + i)) p4 rfl _ _ rfl rfl rfl HZ.out ?_)
          refine bodyPost_ret (v := .agg (rowB 20 (fun i => sumF (madeL u x) (12 + i))).toArray) ?_ rfl ⟨rfl, Wds.below_setCellsB _ P4.out _ _ _ E1.out.2⟩
          exact results_cell Tryd.results4 _ _ _ ⟨p4, 0, none⟩ rfl (loadVar20 (RowB.of_range E1.out.1.2))
        · rw [if_pos (by rfl)]
          go_simp
          rw [zeroB32]
          have BK : Below z0.heap.size z0 (z0.alloc (.cells (rowB 32 fun _ => 0).toArray 31)) := (Below.refl _ _).alloc (Nat.le_refl _) _
          obtain ⟨b6, eb6⟩ : ∃ b, b = z0.heap.size := ⟨_, rfl⟩
          have FX := FX.past BK
          have GX := GX.past BK
          have HX := HX.cons BK GE.out (RowB.new z0 31 32 (fun _ => 0))
          rw [← eb6] at HX ⊢
          clear eb6
          have hHeld := hHeld.past BK
          have GE : Hid (B4 ≤ (z0.alloc (.cells (rowB 32 fun _ => 0).toArray 31)).heap.size) := Nat.le_trans GE.out BK.size
          generalize z0.alloc (.cells (rowB 32 fun _ => 0).toArray 31) = z0 at hHeld FX GX HX GE ⊢
          refine hK.out _ _ hHeld (fun _ => ?_)
          clear hK K
          (try simp only [Act.put, List.setIfInBounds_toArray, List.set_cons_zero, List.set_cons_succ])
          refine wpAnyH_ready (rs := [5]) (by kernel_rfl) (by simp) ?_
          refine AllReadyH.cons ov5 (fun K hK => ?_) AllReadyH.nil
          rw [if_pos (by rfl)]
          go_simp
          refine ((by have hg := GX (b14, (.cells #[.slice (some ⟨b10, 0, none⟩) 1 1, .slice (some ⟨b11, 0, none⟩) 12 12, .slice (some ⟨w.heap.size, 0, none⟩) 20 20, .slice (some ⟨p5, 0, none⟩) 32 32] 33)) (by simp); exact sum4 hHeld HU.out b10 b11 b14 (FX (b10, [255]) (by simp)) (FX (b11, List.replicate 12 0) (by simp)) (by simp [World.cell?, hg]) (by simp [World.cell?, hg]) (by simp [World.cell?, hg]) (by simp [World.cell?, hg]) : Calls Tryd.prog 7 #[.slice (some ⟨b14, 0, none⟩) 4 4] z0 _)).mono ?_
          rintro e w9 ⟨rfl, BK⟩
          have FX := FX.past BK
          have GX := GX.past BK
          have HX := HX.past BK
          have hHeld := hHeld.past BK
          have GE : Hid (B4 ≤ (w9).heap.size) := Nat.le_trans GE.out BK.size
          generalize w9 = z0 at hHeld FX GX HX GE ⊢
          (try go_wp2_with fail)
          refine hK.out _ _ hHeld (fun _ => ?_)
          clear hK K
          (try simp only [Act.put, List.setIfInBounds_toArray, List.set_cons_zero, List.set_cons_succ])
          refine wpAnyH_ready (rs := [7]) (by kernel_rfl) (by simp) ?_
          refine AllReadyH.cons ov7 (fun K hK => ?_) AllReadyH.nil
          rw [if_pos (by rfl)]
          have h6 := HX b6 (by simp)
          have lt := LT.out
          refine wp_store_mid 31 _ _ rfl b6 0 (rowB 32 (sumF (madeL u x))).toArray rfl rfl (there32 h6.2 _) (by rw [List.size_toArray, rowB_len]; kernel_rfl) (rowB_one 32 _) ?_
          have hHeld := hHeld.sets b6 (rowB 32 (sumF (madeL u x))) (by omega) (by omega) (by omega)
          have HR : RowB (z0.setCells b6 0 (rowB 32 (sumF (madeL u x)))) b6 32 (sumF (madeL u x)) := RowB.of_range h6.2
          have L6 : w.heap.size ≤ b6 := by omega
          generalize z0.setCells b6 0 (rowB 32 (sumF (madeL u x))) = z0 at hHeld HR ⊢
          refine hK.out _ _ hHeld (fun _ => ?_)
          clear hK K
          (try simp only [Act.put])
          refine wpAnyH_done (by kernel_rfl) ?_ _
          clear FX GX HX LT GE
          have HH : Hid (MB w u x p4 p5 z0 ∧ RowB z0 b6 32 (sumF (madeL u x))) := ⟨hHeld, HR⟩
          clear hHeld HR h6 lt
          go_upto_region 4 with (refine alloc20 rfl rfl ?_; intro z7 hN)
          have N7 : Hid ((MB w u x p4 p5 z7.drew ∧ RowB z7.drew b6 32 (sumF (madeL u x))) ∧ (∃ t, z7.drew.heap[z0.heap.size]? = some (.cells (rowB 20 fun _ => 0).toArray t (0, 0))) ∧ w.heap.size ≤ z0.heap.size ∧ p4 < z0.heap.size) := ⟨⟨(HH.out.1.past hN.bel).drew, (HH.out.2.past hN.bel).drew⟩, hN.obj, HH.out.1.bel.size, HH.out.1.res.lt (by omega)⟩
          generalize z0.heap.size = b7 at N7 ⊢
          clear HH hN
          refine wp_region_held_drew (S := fun _ => True) (by kernel_rfl) trivial (fun hT => ?_)
          generalize z7.drew = y0 at N7 ⊢
          obtain ⟨ty, ho⟩ := N7.out.2.1
          obtain ⟨yc, hc, hc2, hc3⟩ := copy20 y0 b7 b6 ty _ _ ho N7.out.1.2
          have hcp := hc 3
          have E1 : Hid ((RowB yc b7 20 (fun i => sumF (madeL u x) (12 + i)) ∧ RowB yc p4 20 (fun _ => 0)) ∧ Below w.heap.size w yc) := ⟨⟨hc2, N7.out.1.1.res.below (hc3 b7 y0 (Below.refl _ _) (Nat.le_refl _)) N7.out.2.2.2⟩, hc3 _ _ N7.out.1.1.bel N7.out.2.2.1⟩
          clear hc hc2 hc3 ho N7
          refine wpAnyH_take (i := 0) (v := .slice (some ⟨b7, 0, none⟩) 20 20) ov0 (by kernel_rfl) (by kernel_rfl) (by kernel_rfl) (fun _ _ _ h => h) (Or.inl ⟨by rfl, fun V' hS => ?_⟩) hT ?_
          · have q1 := slice20 b7 V'
            go_simp
          simp only [Act.put, List.setIfInBounds_toArray, List.set_cons_zero, List.set_cons_succ]
          refine wpAnyH_take (i := 1) (v := .slice (some ⟨b6, 12, none⟩) 20 20) ov1 (by kernel_rfl) (by kernel_rfl) (by kernel_rfl) (fun _ _ _ h => h) (Or.inl ⟨by rfl, fun V' hS => ?_⟩) hT ?_
          · have q1 := slice12 b6 V'
            go_simp
          simp only [Act.put, List.setIfInBounds_toArray, List.set_cons_zero, List.set_cons_succ]
          refine wpAnyH_ready (rs := [2]) (by kernel_rfl) (by simp) ?_
          refine AllReadyH.cons ov2 (fun K hK => ?_) AllReadyH.nil
          rw [if_pos (by rfl)]
          go_simp
          refine hK.out _ _ trivial (fun _ => ?_)
          clear hK K
          (try simp only [Act.put, List.setIfInBounds_toArray, List.set_cons_zero, List.set_cons_succ])
          refine wpAnyH_done (by kernel_rfl) ?_ _
          clear hcp
          have HZ : Hid (yc.there p4 0 20) := E1.out.1.2.there
          go_wp2_with (first | refine load20 (fun i => sumF (madeL u x) (12 + i)) b7 rfl _ rfl rfl E1.out.1.1 ?_ | refine store20 (fun i => sumF (madeL u x) (12 + i)) p4 rfl _ _ rfl rfl rfl HZ.out ?_)
          refine bodyPost_ret (v := .agg (rowB 20 (fun i => sumF (madeL u x) (12 + i))).toArray) ?_ rfl ⟨rfl, Wds.below_setCellsB _ P4.out _ _ _ E1.out.2⟩
          exact results_cell Tryd.results4 _ _ _ ⟨p4, 0, none⟩ rfl (loadVar20 (RowB.of_range E1.out.1.2))
      · rw [if_pos (by rfl)]
        go_simp
        rw [zeroB32]
        have BK : Below z0.heap.size z0 (z0.alloc (.cells (rowB 32 fun _ => 0).toArray 31)) := (Below.refl _ _).alloc (Nat.le_refl _) _
        obtain ⟨b6, eb6⟩ : ∃ b, b = z0.heap.size := ⟨_, rfl⟩
        have FX := FX.past BK
        have GX := GX.past BK
        have HX := HX.cons BK GE.out (RowB.new z0 31 32 (fun _ => 0))
        rw [← eb6] at HX ⊢
        clear eb6
        have hHeld := hHeld.past BK
        have GE : Hid (B4 ≤ (z0.alloc (.cells (rowB 32 fun _ => 0).toArray 31)).heap.size) := Nat.le_trans GE.out BK.size
        generalize z0.alloc (.cells (rowB 32 fun _ => 0).toArray 31) = z0 at hHeld FX GX HX GE ⊢
        refine hK.out _ _ hHeld (fun _ => ?_)
        clear hK K
        (try simp only [Act.put, List.setIfInBounds_toArray, List.set_cons_zero, List.set_cons_succ])
        refine wpAnyH_ready (rs := [4]) (by kernel_rfl) (by simp) ?_
        refine AllReadyH.cons ov4 (fun K hK => ?_) AllReadyH.nil
        rw [if_pos (by rfl)]
        go_simp
        have BK : Below z0.heap.size z0 (z0.alloc (.cells #[.slice (some ⟨b10, 0, none⟩) 1 1, .slice (some ⟨b11, 0, none⟩) 12 12, .slice (some ⟨w.heap.size, 0, none⟩) 20 20, .slice (some ⟨p5, 0, none⟩) 32 32] 33)) := (Below.refl _ _).alloc (Nat.le_refl _) _
        obtain ⟨b14, eb14⟩ : ∃ b, b = z0.heap.size := ⟨_, rfl⟩
        have FX := FX.past BK
        have GX := GX.cons BK (heap_new z0 (.cells #[.slice (some ⟨b10, 0, none⟩) 1 1, .slice (some ⟨b11, 0, none⟩) 12 12, .slice (some ⟨w.heap.size, 0, none⟩) 20 20, .slice (some ⟨p5, 0, none⟩) 32 32] 33))
        have HX := HX.past BK
        rw [← eb14] at GX ⊢
        clear eb14
        have hHeld := hHeld.past BK
        have GE : Hid (B4 ≤ (z0.alloc (.cells #[.slice (some ⟨b10, 0, none⟩) 1 1, .slice (some ⟨b11, 0, none⟩) 12 12, .slice (some ⟨w.heap.size, 0, none⟩) 20 20, .slice (some ⟨p5, 0, none⟩) 32 32] 33)).heap.size) := Nat.le_trans GE.out BK.size
        generalize z0.alloc (.cells #[.slice (some ⟨b10, 0, none⟩) 1 1, .slice (some ⟨b11, 0, none⟩) 12 12, .slice (some ⟨w.heap.size, 0, none⟩) 20 20, .slice (some ⟨p5, 0, none⟩) 32 32] 33) = z0 at hHeld FX GX HX GE ⊢
        refine hK.out _ _ hHeld (fun _ => ?_)
        clear hK K
        (try simp only [Act.put, List.setIfInBounds_toArray, List.set_cons_zero, List.set_cons_succ])
        refine wpAnyH_ready (rs := [5]) (by kernel_rfl) (by simp) ?_
        refine AllReadyH.cons ov5 (fun K hK => ?_) AllReadyH.nil
        rw [if_pos (by rfl)]
        go_simp
        refine ((by have hg := GX (b14, (.cells #[.slice (some ⟨b10, 0, none⟩) 1 1, .slice (some ⟨b11, 0, none⟩) 12 12, .slice (some ⟨w.heap.size, 0, none⟩) 20 20, .slice (some ⟨p5, 0, none⟩) 32 32] 33)) (by simp); exact sum4 hHeld HU.out b10 b11 b14 (FX (b10, [255]) (by simp)) (FX (b11, List.replicate 12 0) (by simp)) (by simp [World.cell?, hg]) (by simp [World.cell?, hg]) (by simp [World.cell?, hg]) (by simp [World.cell?, hg]) : Calls Tryd.prog 7 #[.slice (some ⟨b14, 0, none⟩) 4 4] z0 _)).mono ?_
        rintro e w9 ⟨rfl, BK⟩
        have FX := FX.past BK
        have GX := GX.past BK
        have HX := HX.past BK
        have hHeld := hHeld.past BK
        have GE : Hid (B4 ≤ (w9).heap.size) := Nat.le_trans GE.out BK.size
        generalize w9 = z0 at hHeld FX GX HX GE ⊢
        (try go_wp2_with fail)
        refine hK.out _ _ hHeld (fun _ => ?_)
        clear hK K
        (try simp only [Act.put, List.setIfInBounds_toArray, List.set_cons_zero, List.set_cons_succ])
        refine wpAnyH_ready (rs := [7]) (by kernel_rfl) (by simp) ?_
        refine AllReadyH.cons ov7 (fun K hK => ?_) AllReadyH.nil
        rw [if_pos (by rfl)]
        have h6 := HX b6 (by simp)
        have lt := LT.out
        refine wp_store_mid 31 _ _ rfl b6 0 (rowB 32 (sumF (madeL u x))).toArray rfl rfl (there32 h6.2 _) (by rw [List.size_toArray, rowB_len]; kernel_rfl) (rowB_one 32 _) ?_
        have hHeld := hHeld.sets b6 (rowB 32 (sumF (madeL u x))) (by omega) (by omega) (by omega)
        have HR : RowB (z0.setCells b6 0 (rowB 32 (sumF (madeL u x)))) b6 32 (sumF (madeL u x)) := RowB.of_range h6.2
        have L6 : w.heap.size ≤ b6 := by omega
        generalize z0.setCells b6 0 (rowB 32 (sumF (madeL u x))) = z0 at hHeld HR ⊢
        refine hK.out _ _ hHeld (fun _ => ?_)
        clear hK K
        (try simp only [Act.put])
        refine wpAnyH_done (by kernel_rfl) ?_ _
        clear FX GX HX LT GE
        have HH : Hid (MB w u x p4 p5 z0 ∧ RowB z0 b6 32 (sumF (madeL u x))) := ⟨hHeld, HR⟩
        clear hHeld HR h6 lt
        go_upto_region 4 with (refine alloc20 rfl rfl ?_; intro z7 hN)
        have N7 : Hid ((MB w u x p4 p5 z7.drew ∧ RowB z7.drew b6 32 (sumF (madeL u x))) ∧ (∃ t, z7.drew.heap[z0.heap.size]? = some (.cells (rowB 20 fun _ => 0).toArray t (0, 0))) ∧ w.heap.size ≤ z0.heap.size ∧ p4 < z0.heap.size) := ⟨⟨(HH.out.1.past hN.bel).drew, (HH.out.2.past hN.bel).drew⟩, hN.obj, HH.out.1.bel.size, HH.out.1.res.lt (by omega)⟩
        generalize z0.heap.size = b7 at N7 ⊢
        clear HH hN
        refine wp_region_held_drew (S := fun _ => True) (by kernel_rfl) trivial (fun hT => ?_)
        generalize z7.drew = y0 at N7 ⊢
        obtain ⟨ty, ho⟩ := N7.out.2.1
        obtain ⟨yc, hc, hc2, hc3⟩ := copy20 y0 b7 b6 ty _ _ ho N7.out.1.2
        have hcp := hc 3
        have E1 : Hid ((RowB yc b7 20 (fun i => sumF (madeL u x) (12 + i)) ∧ RowB yc p4 20 (fun _ => 0)) ∧ Below w.heap.size w yc) := ⟨⟨hc2, N7.out.1.1.res.below (hc3 b7 y0 (Below.refl _ _) (Nat.le_refl _)) N7.out.2.2.2⟩, hc3 _ _ N7.out.1.1.bel N7.out.2.2.1⟩
        clear hc hc2 hc3 ho N7
        refine wpAnyH_take (i := 0) (v := .slice (some ⟨b7, 0, none⟩) 20 20) ov0 (by kernel_rfl) (by kernel_rfl) (by kernel_rfl) (fun _ _ _ h => h) (Or.inl ⟨by rfl, fun V' hS => ?_⟩) hT ?_
        · have q1 := slice20 b7 V'
          go_simp
        simp only [Act.put, List.setIfInBounds_toArray, List.set_cons_zero, List.set_cons_succ]
        refine wpAnyH_take (i := 1) (v := .slice (some ⟨b6, 12, none⟩) 20 20) ov1 (by kernel_rfl) (by kernel_rfl) (by kernel_rfl) (fun _ _ _ h => h) (Or.inl ⟨by rfl, fun V' hS => ?_⟩) hT ?_
        · have q1 := slice12 b6 V'
          go_simp
        simp only [Act.put, List.setIfInBounds_toArray, List.set_cons_zero, List.set_cons_succ]
        refine wpAnyH_ready (rs := [2]) (by kernel_rfl) (by simp) ?_
        refine AllReadyH.cons ov2 (fun K hK => ?_) AllReadyH.nil
        rw [if_pos (by rfl)]
        go_simp
        refine hK.out _ _ trivial (fun _ => ?_)
        clear hK K
        (try simp only [Act.put, List.setIfInBounds_toArray, List.set_cons_zero, List.set_cons_succ])
        refine wpAnyH_done (by kernel_rfl) ?_ _
        clear hcp
        have HZ : Hid (yc.there p4 0 20) := E1.out.1.2.there
        go_wp2_with (first | refine load20 (fun i => sumF (madeL u x) (12 + i)) b7 rfl _ rfl rfl E1.out.1.1 ?_ | refine store20 (fun i => sumF (madeL u x) (12 + i)) p4 rfl _ _ rfl rfl rfl HZ.out ?_)
        refine bodyPost_ret (v := .agg (rowB 20 (fun i => sumF (madeL u x) (12 + i))).toArray) ?_ rfl ⟨rfl, Wds.below_setCellsB _ P4.out _ _ _ E1.out.2⟩
        exact results_cell Tryd.results4 _ _ _ ⟨p4, 0, none⟩ rfl (loadVar20 (RowB.of_range E1.out.1.2))
    · rw [if_pos (by rfl)]
      go_simp
      rw [zeroB32]
      have BK : Below z0.heap.size z0 (z0.alloc (.cells (rowB 32 fun _ => 0).toArray 31)) := (Below.refl _ _).alloc (Nat.le_refl _) _
      obtain ⟨b6, eb6⟩ : ∃ b, b = z0.heap.size := ⟨_, rfl⟩
      have FX := FX.past BK
      have GX := GX.past BK
      have HX := HX.cons BK GE.out (RowB.new z0 31 32 (fun _ => 0))
      rw [← eb6] at HX ⊢
      clear eb6
      have hHeld := hHeld.past BK
      have GE : Hid (B4 ≤ (z0.alloc (.cells (rowB 32 fun _ => 0).toArray 31)).heap.size) := Nat.le_trans GE.out BK.size
      generalize z0.alloc (.cells (rowB 32 fun _ => 0).toArray 31) = z0 at hHeld FX GX HX GE ⊢
      refine hK.out _ _ hHeld (fun _ => ?_)
      clear hK K
      (try simp only [Act.put, List.setIfInBounds_toArray, List.set_cons_zero, List.set_cons_succ])
      refine wpAnyH_ready (rs := [1]) (by kernel_rfl) (by simp) ?_
      refine AllReadyH.cons ov1 (fun K hK => ?_) AllReadyH.nil
      rw [if_pos (by rfl)]
      obtain ⟨zm, hm, hm1, BK⟩ := make12 z0
      go_simp
      obtain ⟨b11, eb11⟩ : ∃ b, b = z0.heap.size := ⟨_, rfl⟩
      have FX := FX.cons BK hm1
      have GX := GX.past BK
      have HX := HX.past BK
      rw [← eb11] at FX ⊢
      clear eb11 hm hm1
      have hHeld := hHeld.past BK
      have GE : Hid (B4 ≤ (zm).heap.size) := Nat.le_trans GE.out BK.size
      generalize zm = z0 at hHeld FX GX HX GE ⊢
      refine hK.out _ _ hHeld (fun _ => ?_)
      clear hK K
      (try simp only [Act.put, List.setIfInBounds_toArray, List.set_cons_zero, List.set_cons_succ])
      refine wpAnyH_ready (rs := [4]) (by kernel_rfl) (by simp) ?_
      refine AllReadyH.cons ov4 (fun K hK => ?_) AllReadyH.nil
      rw [if_pos (by rfl)]
      go_simp
      have BK : Below z0.heap.size z0 (z0.alloc (.cells #[.slice (some ⟨b10, 0, none⟩) 1 1, .slice (some ⟨b11, 0, none⟩) 12 12, .slice (some ⟨w.heap.size, 0, none⟩) 20 20, .slice (some ⟨p5, 0, none⟩) 32 32] 33)) := (Below.refl _ _).alloc (Nat.le_refl _) _
      obtain ⟨b14, eb14⟩ : ∃ b, b = z0.heap.size := ⟨_, rfl⟩
      have FX := FX.past BK
      have GX := GX.cons BK (heap_new z0 (.cells #[.slice (some ⟨b10, 0, none⟩) 1 1, .slice (some ⟨b11, 0, none⟩) 12 12, .slice (some ⟨w.heap.size, 0, none⟩) 20 20, .slice (some ⟨p5, 0, none⟩) 32 32] 33))
      have HX := HX.past BK
      rw [← eb14] at GX ⊢
      clear eb14
      have hHeld := hHeld.past BK
      have GE : Hid (B4 ≤ (z0.alloc (.cells #[.slice (some ⟨b10, 0, none⟩) 1 1, .slice (some ⟨b11, 0, none⟩) 12 12, .slice (some ⟨w.heap.size, 0, none⟩) 20 20, .slice (some ⟨p5, 0, none⟩) 32 32] 33)).heap.size) := Nat.le_trans GE.out BK.size
      generalize z0.alloc (.cells #[.slice (some ⟨b10, 0, none⟩) 1 1, .slice (some ⟨b11, 0, none⟩) 12 12, .slice (some ⟨w.heap.size, 0, none⟩) 20 20, .slice (some ⟨p5, 0, none⟩) 32 32] 33) = z0 at hHeld FX GX HX GE ⊢
      refine hK.out _ _ hHeld (fun _ => ?_)
      clear hK K
      (try simp only [Act.put, List.setIfInBounds_toArray, List.set_cons_zero, List.set_cons_succ])
      refine wpAnyH_ready (rs := [5]) (by kernel_rfl) (by simp) ?_
      refine AllReadyH.cons ov5 (fun K hK => ?_) AllReadyH.nil
      rw [if_pos (by rfl)]
      go_simp
      refine ((by have hg := GX (b14, (.cells #[.slice (some ⟨b10, 0, none⟩) 1 1, .slice (some ⟨b11, 0, none⟩) 12 12, .slice (some ⟨w.heap.size, 0, none⟩) 20 20, .slice (some ⟨p5, 0, none⟩) 32 32] 33)) (by simp); exact sum4 hHeld HU.out b10 b11 b14 (FX (b10, [255]) (by simp)) (FX (b11, List.replicate 12 0) (by simp)) (by simp [World.cell?, hg]) (by simp [World.cell?, hg]) (by simp [World.cell?, hg]) (by simp [World.cell?, hg]) : Calls Tryd.prog 7 #[.slice (some ⟨b14, 0, none⟩) 4 4] z0 _)).mono ?_
      rintro e w9 ⟨rfl, BK⟩
      have FX := FX.past BK
      have GX := GX.past BK
      have HX := HX.past BK
      have hHeld := hHeld.past BK
      have GE : Hid (B4 ≤ (w9).heap.size) := Nat.le_trans GE.out BK.size
      generalize w9 = z0 at hHeld FX GX HX GE ⊢
      (try go_wp2_with fail)
      refine hK.out _ _ hHeld (fun _ => ?_)
      clear hK K
      (try simp only [Act.put, List.setIfInBounds_toArray, List.set_cons_zero, List.set_cons_succ])
      refine wpAnyH_ready (rs := [7]) (by kernel_rfl) (by simp) ?_
      refine AllReadyH.cons ov7 (fun K hK => ?_) AllReadyH.nil
      rw [if_pos (by rfl)]
      have h6 := HX b6 (by simp)
      have lt := LT.out
      refine wp_store_mid 31 _ _ rfl b6 0 (rowB 32 (sumF (madeL u x))).toArray rfl rfl (there32 h6.2 _) (by rw [List.size_toArray, rowB_len]; kernel_rfl) (rowB_one 32 _) ?_
      have hHeld := hHeld.sets b6 (rowB 32 (sumF (madeL u x))) (by omega) (by omega) (by omega)
      have HR : RowB (z0.setCells b6 0 (rowB 32 (sumF (madeL u x)))) b6 32 (sumF (madeL u x)) := RowB.of_range h6.2
      have L6 : w.heap.size ≤ b6 := by omega
      generalize z0.setCells b6 0 (rowB 32 (sumF (madeL u x))) = z0 at hHeld HR ⊢
      refine hK.out _ _ hHeld (fun _ => ?_)
      clear hK K
      (try simp only [Act.put])
      refine wpAnyH_done (by kernel_rfl) ?_ _
      clear FX GX HX LT GE
      have HH : Hid (MB w u x p4 p5 z0 ∧ RowB z0 b6 32 (sumF (madeL u x))) := ⟨hHeld, HR⟩
      clear hHeld HR h6 lt
      go_upto_region 4 with (refine alloc20 rfl rfl ?_; intro z7 hN)
      have N7 : Hid ((MB w u x p4 p5 z7.drew ∧ RowB z7.drew b6 32 (sumF (madeL u x))) ∧ (∃ t, z7.drew.heap[z0.heap.size]? = some (.cells (rowB 20 fun _ => 0).toArray t (0, 0))) ∧ w.heap.size ≤ z0.heap.size ∧ p4 < z0.heap.size) := ⟨⟨(HH.out.1.past hN.bel).drew, (HH.out.2.past hN.bel).drew⟩, hN.obj, HH.out.1.bel.size, HH.out.1.res.lt (by omega)⟩
      generalize z0.heap.size = b7 at N7 ⊢
      clear HH hN
      refine wp_region_held_drew (S := fun _ => True) (by kernel_rfl) trivial (fun hT => ?_)
      generalize z7.drew = y0 at N7 ⊢
      obtain ⟨ty, ho⟩ := N7.out.2.1
      obtain ⟨yc, hc, hc2, hc3⟩ := copy20 y0 b7 b6 ty _ _ ho N7.out.1.2
      have hcp := hc 3
      have E1 : Hid ((RowB yc b7 20 (fun i => sumF (madeL u x) (12 + i)) ∧ RowB yc p4 20 (fun _ => 0)) ∧ Below w.heap.size w yc) := ⟨⟨hc2, N7.out.1.1.res.below (hc3 b7 y0 (Below.refl _ _) (Nat.le_refl _)) N7.out.2.2.2⟩, hc3 _ _ N7.out.1.1.bel N7.out.2.2.1⟩
      clear hc hc2 hc3 ho N7
      refine wpAnyH_take (i := 0) (v := .slice (some ⟨b7, 0, none⟩) 20 20) ov0 (by kernel_rfl) (by kernel_rfl) (by kernel_rfl) (fun _ _ _ h => h) (Or.inl ⟨by rfl, fun V' hS => ?_⟩) hT ?_
      · have q1 := slice20 b7 V'
        go_simp
      simp only [Act.put, List.setIfInBounds_toArray, List.set_cons_zero, List.set_cons_succ]
      refine wpAnyH_take (i := 1) (v := .slice (some ⟨b6, 12, none⟩) 20 20) ov1 (by kernel_rfl) (by kernel_rfl) (by kernel_rfl) (fun _ _ _ h => h) (Or.inl ⟨by rfl, fun V' hS => ?_⟩) hT ?_
      · have q1 := slice12 b6 V'
        go_simp
      simp only [Act.put, List.setIfInBounds_toArray, List.set_cons_zero, List.set_cons_succ]
      refine wpAnyH_ready (rs := [2]) (by kernel_rfl) (by simp) ?_
      refine AllReadyH.cons ov2 (fun K hK => ?_) AllReadyH.nil
      rw [if_pos (by rfl)]
      go_simp
      refine hK.out _ _ trivial (fun _ => ?_)
      clear hK K
      (try simp only [Act.put, List.setIfInBounds_toArray, List.set_cons_zero, List.set_cons_succ])
      refine wpAnyH_done (by kernel_rfl) ?_ _
      clear hcp
      have HZ : Hid (yc.there p4 0 20) := E1.out.1.2.there
      go_wp2_with (first | refine load20 (fun i => sumF (madeL u x) (12 + i)) b7 rfl _ rfl rfl E1.out.1.1 ?_ | refine store20 (fun i => sumF (madeL u x) (12 + i)) p4 rfl _ _ rfl rfl rfl HZ.out ?_)
      refine bodyPost_ret (v := .agg (rowB 20 (fun i => sumF (madeL u x) (12 + i))).toArray) ?_ rfl ⟨rfl, Wds.below_setCellsB _ P4.out _ _ _ E1.out.2⟩
      exact results_cell Tryd.results4 _ _ _ ⟨p4, 0, none⟩ rfl (loadVar20 (RowB.of_range E1.out.1.2))
  · rw [if_pos (by rfl)]
    obtain ⟨zm, hm, hm1, BK⟩ := make12 z0
    go_simp
    obtain ⟨b11, eb11⟩ : ∃ b, b = z0.heap.size := ⟨_, rfl⟩
    have FX := FX.cons BK hm1
    have GX := GX.past BK
    have HX := HX.past BK
    rw [← eb11] at FX ⊢
    clear eb11 hm hm1
    have hHeld := hHeld.past BK
    have GE : Hid (B4 ≤ (zm).heap.size) := Nat.le_trans GE.out BK.size
    generalize zm = z0 at hHeld FX GX HX GE ⊢
    refine hK.out _ _ hHeld (fun _ => ?_)
    clear hK K
    (try simp only [Act.put, List.setIfInBounds_toArray, List.set_cons_zero, List.set_cons_succ])
    refine wpAnyH_ready (rs := [0, 6]) (by kernel_rfl) (by simp) ?_
    refine AllReadyH.cons ov0 (fun K hK => ?_) (AllReadyH.cons ov6 (fun K hK => ?_) AllReadyH.nil)
    · rw [if_pos (by rfl)]
      go_simp
      rw [bytesL_255]
      have BK : Below z0.heap.size z0 (z0.alloc (.cells (bytesL [255]).toArray 5)) := (Below.refl _ _).alloc (Nat.le_refl _) _
      obtain ⟨b10, eb10⟩ : ∃ b, b = z0.heap.size := ⟨_, rfl⟩
      have FX := FX.cons BK (bytes_new z0 5 (0, 0) [255])
      have GX := GX.past BK
      have HX := HX.past BK
      rw [← eb10] at FX ⊢
      clear eb10
      have hHeld := hHeld.past BK
      have GE : Hid (B4 ≤ (z0.alloc (.cells (bytesL [255]).toArray 5)).heap.size) := Nat.le_trans GE.out BK.size
      generalize z0.alloc (.cells (bytesL [255]).toArray 5) = z0 at hHeld FX GX HX GE ⊢
      refine hK.out _ _ hHeld (fun _ => ?_)
      clear hK K
      (try simp only [Act.put, List.setIfInBounds_toArray, List.set_cons_zero, List.set_cons_succ])
      refine wpAnyH_ready (rs := [4, 6]) (by kernel_rfl) (by simp) ?_
      refine AllReadyH.cons ov4 (fun K hK => ?_) (AllReadyH.cons ov6 (fun K hK => ?_) AllReadyH.nil)
      · rw [if_pos (by rfl)]
        go_simp
        have BK : Below z0.heap.size z0 (z0.alloc (.cells #[.slice (some ⟨b10, 0, none⟩) 1 1, .slice (some ⟨b11, 0, none⟩) 12 12, .slice (some ⟨w.heap.size, 0, none⟩) 20 20, .slice (some ⟨p5, 0, none⟩) 32 32] 33)) := (Below.refl _ _).alloc (Nat.le_refl _) _
        obtain ⟨b14, eb14⟩ : ∃ b, b = z0.heap.size := ⟨_, rfl⟩
        have FX := FX.past BK
        have GX := GX.cons BK (heap_new z0 (.cells #[.slice (some ⟨b10, 0, none⟩) 1 1, .slice (some ⟨b11, 0, none⟩) 12 12, .slice (some ⟨w.heap.size, 0, none⟩) 20 20, .slice (some ⟨p5, 0, none⟩) 32 32] 33))
        have HX := HX.past BK
        rw [← eb14] at GX ⊢
        clear eb14
        have hHeld := hHeld.past BK
        have GE : Hid (B4 ≤ (z0.alloc (.cells #[.slice (some ⟨b10, 0, none⟩) 1 1, .slice (some ⟨b11, 0, none⟩) 12 12, .slice (some ⟨w.heap.size, 0, none⟩) 20 20, .slice (some ⟨p5, 0, none⟩) 32 32] 33)).heap.size) := Nat.le_trans GE.out BK.size
        generalize z0.alloc (.cells #[.slice (some ⟨b10, 0, none⟩) 1 1, .slice (some ⟨b11, 0, none⟩) 12 12, .slice (some ⟨w.heap.size, 0, none⟩) 20 20, .slice (some ⟨p5, 0, none⟩) 32 32] 33) = z0 at hHeld FX GX HX GE ⊢
        refine hK.out _ _ hHeld (fun _ => ?_)
        clear hK K
        (try simp only [Act.put, List.setIfInBounds_toArray, List.set_cons_zero, List.set_cons_succ])
        refine wpAnyH_ready (rs := [5, 6]) (by kernel_rfl) (by simp) ?_
        refine AllReadyH.cons ov5 (fun K hK => ?_) (AllReadyH.cons ov6 (fun K hK => ?_) AllReadyH.nil)
        · rw [if_pos (by rfl)]
          go_simp
          refine ((by have hg := GX (b14, (.cells #[.slice (some ⟨b10, 0, none⟩) 1 1, .slice (some ⟨b11, 0, none⟩) 12 12, .slice (some ⟨w.heap.size, 0, none⟩) 20 20, .slice (some ⟨p5, 0, none⟩) 32 32] 33)) (by simp); exact sum4 hHeld HU.out b10 b11 b14 (FX (b10, [255]) (by simp)) (FX (b11, List.replicate 12 0) (by simp)) (by simp [World.cell?, hg]) (by simp [World.cell?, hg]) (by simp [World.cell?, hg]) (by simp [World.cell?, hg]) : Calls Tryd.prog 7 #[.slice (some ⟨b14, 0, none⟩) 4 4] z0 _)).mono ?_
          rintro e w9 ⟨rfl, BK⟩
          have FX := FX.past BK
          have GX := GX.past BK
          have HX := HX.past BK
          have hHeld := hHeld.past BK
          have GE : Hid (B4 ≤ (w9).heap.size) := Nat.le_trans GE.out BK.size
          generalize w9 = z0 at hHeld FX GX HX GE ⊢
          (try go_wp2_with fail)
          refine hK.out _ _ hHeld (fun _ => ?_)
          clear hK K
          (try simp only [Act.put, List.setIfInBounds_toArray, List.set_cons_zero, List.set_cons_succ])
          refine wpAnyH_ready (rs := [6]) (by kernel_rfl) (by simp) ?_
          refine AllReadyH.cons ov6 (fun K hK => ?_) AllReadyH.nil
          rw [if_pos (by rfl)]
          go_simp
          rw [zeroB32]
          have BK : Below z0.heap.size z0 (z0.alloc (.cells (rowB 32 fun _ => 0).toArray 31)) := (Below.refl _ _).alloc (Nat.le_refl _) _
          obtain ⟨b6, eb6⟩ : ∃ b, b = z0.heap.size := ⟨_, rfl⟩
          have FX := FX.past BK
          have GX := GX.past BK
          have HX := HX.cons BK GE.out (RowB.new z0 31 32 (fun _ => 0))
          rw [← eb6] at HX ⊢
          clear eb6
          have hHeld := hHeld.past BK
          have GE : Hid (B4 ≤ (z0.alloc (.cells (rowB 32 fun _ => 0).toArray 31)).heap.size) := Nat.le_trans GE.out BK.size
          generalize z0.alloc (.cells (rowB 32 fun _ => 0).toArray 31) = z0 at hHeld FX GX HX GE ⊢
          refine hK.out _ _ hHeld (fun _ => ?_)
          clear hK K
          (try simp only [Act.put, List.setIfInBounds_toArray, List.set_cons_zero, List.set_cons_succ])
          refine wpAnyH_ready (rs := [7]) (by kernel_rfl) (by simp) ?_
          refine AllReadyH.cons ov7 (fun K hK => ?_) AllReadyH.nil
          rw [if_pos (by rfl)]
          have h6 := HX b6 (by simp)
          have lt := LT.out
          refine wp_store_mid 31 _ _ rfl b6 0 (rowB 32 (sumF (madeL u x))).toArray rfl rfl (there32 h6.2 _) (by rw [List.size_toArray, rowB_len]; kernel_rfl) (rowB_one 32 _) ?_
          have hHeld := hHeld.sets b6 (rowB 32 (sumF (madeL u x))) (by omega) (by omega) (by omega)
          have HR : RowB (z0.setCells b6 0 (rowB 32 (sumF (madeL u x)))) b6 32 (sumF (madeL u x)) := RowB.of_range h6.2
          have L6 : w.heap.size ≤ b6 := by omega
          generalize z0.setCells b6 0 (rowB 32 (sumF (madeL u x))) = z0 at hHeld HR ⊢
          refine hK.out _ _ hHeld (fun _ => ?_)
          clear hK K
          (try simp only [Act.put])
          refine wpAnyH_done (by kernel_rfl) ?_ _
          clear FX GX HX LT GE
          have HH : Hid (MB w u x p4 p5 z0 ∧ RowB z0 b6 32 (sumF (madeL u x))) := ⟨hHeld, HR⟩
          clear hHeld HR h6 lt
          go_upto_region 4 with (refine alloc20 rfl rfl ?_; intro z7 hN)
          have N7 : Hid ((MB w u x p4 p5 z7.drew ∧ RowB z7.drew b6 32 (sumF (madeL u x))) ∧ (∃ t, z7.drew.heap[z0.heap.size]? = some (.cells (rowB 20 fun _ => 0).toArray t (0, 0))) ∧ w.heap.size ≤ z0.heap.size ∧ p4 < z0.heap.size) := ⟨⟨(HH.out.1.past hN.bel).drew, (HH.out.2.past hN.bel).drew⟩, hN.obj, HH.out.1.bel.size, HH.out.1.res.lt (by omega)⟩
          generalize z0.heap.size = b7 at N7 ⊢
          clear HH hN
          refine wp_region_held_drew (S := fun _ => True) (by kernel_rfl) trivial (fun hT => ?_)
          generalize z7.drew = y0 at N7 ⊢
          obtain ⟨ty, ho⟩ := N7.out.2.1
          obtain ⟨yc, hc, hc2, hc3⟩ := copy20 y0 b7 b6 ty _ _ ho N7.out.1.2
          have hcp := hc 3
          have E1 : Hid ((RowB yc b7 20 (fun i => sumF (madeL u x) (12 + i)) ∧ RowB yc p4 20 (fun _ => 0)) ∧ Below w.heap.size w yc) := ⟨⟨hc2, N7.out.1.1.res.below (hc3 b7 y0 (Below.refl _ _) (Nat.le_refl _)) N7.out.2.2.2⟩, hc3 _ _ N7.out.1.1.bel N7.out.2.2.1⟩
          clear hc hc2 hc3 ho N7
          refine wpAnyH_take (i := 0) (v := .slice (some ⟨b7, 0, none⟩) 20 20) ov0 (by kernel_rfl) (by kernel_rfl) (by kernel_rfl) (fun _ _ _ h => h) (Or.inl ⟨by rfl, fun V' hS => ?_⟩) hT ?_
          · have q1 := slice20 b7 V'
            go_simp
          simp only [Act.put, List.setIfInBounds_toArray, List.set_cons_zero, List.set_cons_succ]
          refine wpAnyH_take (i := 1) (v := .slice (some ⟨b6, 12, none⟩) 20 20) ov1 (by kernel_rfl) (by kernel_rfl) (by kernel_rfl) (fun _ _ _ h => h) (Or.inl ⟨by rfl, fun V' hS => ?_⟩) hT ?_
          · have q1 := slice12 b6 V'
            go_simp
          simp only [Act.put, List.setIfInBounds_toArray, List.set_cons_zero, List.set_cons_succ]
          refine wpAnyH_ready (rs := [2]) (by kernel_rfl) (by simp) ?_
          refine AllReadyH.cons ov2 (fun K hK => ?_) AllReadyH.nil
          rw [if_pos (by rfl)]
          go_simp
          refine hK.out _ _ trivial (fun _ => ?_)
          clear hK K
          (try simp only [Act.put, List.setIfInBounds_toArray, List.set_cons_zero, List.set_cons_succ])
          refine wpAnyH_done (by kernel_rfl) ?_ _
          clear hcp
          have HZ : Hid (yc.there p4 0 20) := E1.out.1.2.there
          go_wp2_with (first | refine load20 (fun i => sumF (madeL u x) (12 + i)) b7 rfl _ rfl rfl E1.out.1.1 ?_ | refine store20 (fun i => sumF (madeL u x) (12 + i)) p4 rfl _ _ rfl rfl rfl HZ.out ?_)
          refine bodyPost_ret (v := .agg (rowB 20 (fun i => sumF (madeL u x) (12 + i))).toArray) ?_ rfl ⟨rfl, Wds.below_setCellsB _ P4.out _ _ _ E1.out.2⟩
          exact results_cell Tryd.results4 _ _ _ ⟨p4, 0, none⟩ rfl (loadVar20 (RowB.of_range E1.out.1.2))
        · rw [if_pos (by rfl)]
          go_simp
          rw [zeroB32]
          have BK : Below z0.heap.size z0 (z0.alloc (.cells (rowB 32 fun _ => 0).toArray 31)) := (Below.refl _ _).alloc (Nat.le_refl _) _
          obtain ⟨b6, eb6⟩ : ∃ b, b = z0.heap.size := ⟨_, rfl⟩
          have FX := FX.past BK
          have GX := GX.past BK
          have HX := HX.cons BK GE.out (RowB.new z0 31 32 (fun _ => 0))
          rw [← eb6] at HX ⊢
          clear eb6
          have hHeld := hHeld.past BK
          have GE : Hid (B4 ≤ (z0.alloc (.cells (rowB 32 fun _ => 0).toArray 31)).heap.size) := Nat.le_trans GE.out BK.size
          generalize z0.alloc (.cells (rowB 32 fun _ => 0).toArray 31) = z0 at hHeld FX GX HX GE ⊢
          refine hK.out _ _ hHeld (fun _ => ?_)
          clear hK K
          (try simp only [Act.put, List.setIfInBounds_toArray, List.set_cons_zero, List.set_cons_succ])
          refine wpAnyH_ready (rs := [5]) (by kernel_rfl) (by simp) ?_
          refine AllReadyH.cons ov5 (fun K hK => ?_) AllReadyH.nil
          rw [if_pos (by rfl)]
          go_simp
          refine ((by have hg := GX (b14, (.cells #[.slice (some ⟨b10, 0, none⟩) 1 1, .slice (some ⟨b11, 0, none⟩) 12 12, .slice (some ⟨w.heap.size, 0, none⟩) 20 20, .slice (some ⟨p5, 0, none⟩) 32 32] 33)) (by simp); exact sum4 hHeld HU.out b10 b11 b14 (FX (b10, [255]) (by simp)) (FX (b11, List.replicate 12 0) (by simp)) (by simp [World.cell?, hg]) (by simp [World.cell?, hg]) (by simp [World.cell?, hg]) (by simp [World.cell?, hg]) : Calls Tryd.prog 7 #[.slice (some ⟨b14, 0, none⟩) 4 4] z0 _)).mono ?_
          rintro e w9 ⟨rfl, BK⟩
          have FX := FX.past BK
          have GX := GX.past BK
          have HX := HX.past BK
          have hHeld := hHeld.past BK
          have GE : Hid (B4 ≤ (w9).heap.size) := Nat.le_trans GE.out BK.size
          generalize w9 = z0 at hHeld FX GX HX GE ⊢
          (try go_wp2_with fail)
          refine hK.out _ _ hHeld (fun _ => ?_)
          clear hK K
          (try simp only [Act.put, List.setIfInBounds_toArray, List.set_cons_zero, List.set_cons_succ])
          refine wpAnyH_ready (rs := [7]) (by kernel_rfl) (by simp) ?_
          refine AllReadyH.cons ov7 (fun K hK => ?_) AllReadyH.nil
          rw [if_pos (by rfl)]
          have h6 := HX b6 (by simp)
          have lt := LT.out
          refine wp_store_mid 31 _ _ rfl b6 0 (rowB 32 (sumF (madeL u x))).toArray rfl rfl (there32 h6.2 _) (by rw [List.size_toArray, rowB_len]; kernel_rfl) (rowB_one 32 _) ?_
          have hHeld := hHeld.sets b6 (rowB 32 (sumF (madeL u x))) (by omega) (by omega) (by omega)
          have HR : RowB (z0.setCells b6 0 (rowB 32 (sumF (madeL u x)))) b6 32 (sumF (madeL u x)) := RowB.of_range h6.2
          have L6 : w.heap.size ≤ b6 := by omega
          generalize z0.setCells b6 0 (rowB 32 (sumF (madeL u x))) = z0 at hHeld HR ⊢
          refine hK.out _ _ hHeld (fun _ => ?_)
          clear hK K
          (try simp only [Act.put])
          refine wpAnyH_done (by kernel_rfl) ?_ _
          clear FX GX HX LT GE
          have HH : Hid (MB w u x p4 p5 z0 ∧ RowB z0 b6 32 (sumF (madeL u x))) := ⟨hHeld, HR⟩
          clear hHeld HR h6 lt
          go_upto_region 4 with (refine alloc20 rfl rfl ?_; intro z7 hN)
          have N7 : Hid ((MB w u x p4 p5 z7.drew ∧ RowB z7.drew b6 32 (sumF (madeL u x))) ∧ (∃ t, z7.drew.heap[z0.heap.size]? = some (.cells (rowB 20 fun _ => 0).toArray t (0, 0))) ∧ w.heap.size ≤ z0.heap.size ∧ p4 < z0.heap.size) := ⟨⟨(HH.out.1.past hN.bel).drew, (HH.out.2.past hN.bel).drew⟩, hN.obj, HH.out.1.bel.size, HH.out.1.res.lt (by omega)⟩
          generalize z0.heap.size = b7 at N7 ⊢
          clear HH hN
          refine wp_region_held_drew (S := fun _ => True) (by kernel_rfl) trivial (fun hT => ?_)
          generalize z7.drew = y0 at N7 ⊢
          obtain ⟨ty, ho⟩ := N7.out.2.1
          obtain ⟨yc, hc, hc2, hc3⟩ := copy20 y0 b7 b6 ty _ _ ho N7.out.1.2
          have hcp := hc 3
          have E1 : Hid ((RowB yc b7 20 (fun i => sumF (madeL u x) (12 + i)) ∧ RowB yc p4 20 (fun _ => 0)) ∧ Below w.heap.size w yc) := ⟨⟨hc2, N7.out.1.1.res.below (hc3 b7 y0 (Below.refl _ _) (Nat.le_refl _)) N7.out.2.2.2⟩, hc3 _ _ N7.out.1.1.bel N7.out.2.2.1⟩
          clear hc hc2 hc3 ho N7
          refine wpAnyH_take (i := 0) (v := .slice (some ⟨b7, 0, none⟩) 20 20) ov0 (by kernel_rfl) (by kernel_rfl) (by kernel_rfl) (fun _ _ _ h => h) (Or.inl ⟨by rfl, fun V' hS => ?_⟩) hT ?_
          · have q1 := slice20 b7 V'
            go_simp
          simp only [Act.put, List.setIfInBounds_toArray, List.set_cons_zero, List.set_cons_succ]
          refine wpAnyH_take (i := 1) (v := .slice (some ⟨b6, 12, none⟩) 20 20) ov1 (by kernel_rfl) (by kernel_rfl) (by kernel_rfl) (fun _ _ _ h => h) (Or.inl ⟨by rfl, fun V' hS => ?_⟩) hT ?_
          · have q1 := slice12 b6 V'
            go_simp
          simp only [Act.put, List.setIfInBounds_toArray, List.set_cons_zero, List.set_cons_succ]
          refine wpAnyH_ready (rs := [2]) (by kernel_rfl) (by simp) ?_
          refine AllReadyH.cons ov2 (fun K hK => ?_) AllReadyH.nil
          rw [if_pos (by rfl)]
          go_simp
          refine hK.out _ _ trivial (fun _ => ?_)
          clear hK K
          (try simp only [Act.put, List.setIfInBounds_toArray, List.set_cons_zero, List.set_cons_succ])
          refine wpAnyH_done (by kernel_rfl) ?_ _
          clear hcp
          have HZ : Hid (yc.there p4 0 20) := E1.out.1.2.there
          go_wp2_with (first | refine load20 (fun i => sumF (madeL u x) (12 + i)) b7 rfl _ rfl rfl E1.out.1.1 ?_ | refine store20 (fun i => sumF (madeL u x) (12 + i)) p4 rfl _ _ rfl rfl rfl HZ.out ?_)
          refine bodyPost_ret (v := .agg (rowB 20 (fun i => sumF (madeL u x) (12 + i))).toArray) ?_ rfl ⟨rfl, Wds.below_setCellsB _ P4.out _ _ _ E1.out.2⟩
          exact results_cell Tryd.results4 _ _ _ ⟨p4, 0, none⟩ rfl (loadVar20 (RowB.of_range E1.out.1.2))
      · rw [if_pos (by rfl)]
        go_simp
        rw [zeroB32]
        have BK : Below z0.heap.size z0 (z0.alloc (.cells (rowB 32 fun _ => 0).toArray 31)) := (Below.refl _ _).alloc (Nat.le_refl _) _
        obtain ⟨b6, eb6⟩ : ∃ b, b = z0.heap.size := ⟨_, rfl⟩
        have FX := FX.past BK
        have GX := GX.past BK
        have HX := HX.cons BK GE.out (RowB.new z0 31 32 (fun _ => 0))
        rw [← eb6] at HX ⊢
        clear eb6
        have hHeld := hHeld.past BK
        have GE : Hid (B4 ≤ (z0.alloc (.cells (rowB 32 fun _ => 0).toArray 31)).heap.size) := Nat.le_trans GE.out BK.size
        generalize z0.alloc (.cells (rowB 32 fun _ => 0).toArray 31) = z0 at hHeld FX GX HX GE ⊢
        refine hK.out _ _ hHeld (fun _ => ?_)
        clear hK K
        (try simp only [Act.put, List.setIfInBounds_toArray, List.set_cons_zero, List.set_cons_succ])
        refine wpAnyH_ready (rs := [4]) (by kernel_rfl) (by simp) ?_
        refine AllReadyH.cons ov4 (fun K hK => ?_) AllReadyH.nil
        rw [if_pos (by rfl)]
        go_simp
        have BK : Below z0.heap.size z0 (z0.alloc (.cells #[.slice (some ⟨b10, 0, none⟩) 1 1, .slice (some ⟨b11, 0, none⟩) 12 12, .slice (some ⟨w.heap.size, 0, none⟩) 20 20, .slice (some ⟨p5, 0, none⟩) 32 32] 33)) := (Below.refl _ _).alloc (Nat.le_refl _) _
        obtain ⟨b14, eb14⟩ : ∃ b, b = z0.heap.size := ⟨_, rfl⟩
        have FX := FX.past BK
        have GX := GX.cons BK (heap_new z0 (.cells #[.slice (some ⟨b10, 0, none⟩) 1 1, .slice (some ⟨b11, 0, none⟩) 12 12, .slice (some ⟨w.heap.size, 0, none⟩) 20 20, .slice (some ⟨p5, 0, none⟩) 32 32] 33))
        have HX := HX.past BK
        rw [← eb14] at GX ⊢
        clear eb14
        have hHeld := hHeld.past BK
        have GE : Hid (B4 ≤ (z0.alloc (.cells #[.slice (some ⟨b10, 0, none⟩) 1 1, .slice (some ⟨b11, 0, none⟩) 12 12, .slice (some ⟨w.heap.size, 0, none⟩) 20 20, .slice (some ⟨p5, 0, none⟩) 32 32] 33)).heap.size) := Nat.le_trans GE.out BK.size
        generalize z0.alloc (.cells #[.slice (some ⟨b10, 0, none⟩) 1 1, .slice (some ⟨b11, 0, none⟩) 12 12, .slice (some ⟨w.heap.size, 0, none⟩) 20 20, .slice (some ⟨p5, 0, none⟩) 32 32] 33) = z0 at hHeld FX GX HX GE ⊢
        refine hK.out _ _ hHeld (fun _ => ?_)
        clear hK K
        (try simp only [Act.put, List.setIfInBounds_toArray, List.set_cons_zero, List.set_cons_succ])
        refine wpAnyH_ready (rs := [5]) (by kernel_rfl) (by simp) ?_
        refine AllReadyH.cons ov5 (fun K hK => ?_) AllReadyH.nil
        rw [if_pos (by rfl)]
        go_simp
        refine ((by have hg := GX (b14, (.cells #[.slice (some ⟨b10, 0, none⟩) 1 1, .slice (some ⟨b11, 0, none⟩) 12 12, .slice (some ⟨w.heap.size, 0, none⟩) 20 20, .slice (some ⟨p5, 0, none⟩) 32 32] 33)) (by simp); exact sum4 hHeld HU.out b10 b11 b14 (FX (b10, [255]) (by simp)) (FX (b11, List.replicate 12 0) (by simp)) (by simp [World.cell?, hg]) (by simp [World.cell?, hg]) (by simp [World.cell?, hg]) (by simp [World.cell?, hg]) : Calls Tryd.prog 7 #[.slice (some ⟨b14, 0, none⟩) 4 4] z0 _)).mono ?_
        rintro e w9 ⟨rfl, BK⟩
        have FX := FX.past BK
        have GX := GX.past BK
        have HX := HX.past BK
        have hHeld := hHeld.past BK
        have GE : Hid (B4 ≤ (w9).heap.size) := Nat.le_trans GE.out BK.size
        generalize w9 = z0 at hHeld FX GX HX GE ⊢
        (try go_wp2_with fail)
        refine hK.out _ _ hHeld (fun _ => ?_)
        clear hK K
        (try simp only [Act.put, List.setIfInBounds_toArray, List.set_cons_zero, List.set_cons_succ])
        refine wpAnyH_ready (rs := [7]) (by kernel_rfl) (by simp) ?_
        refine AllReadyH.cons ov7 (fun K hK => ?_) AllReadyH.nil
        rw [if_pos (by rfl)]
        have h6 := HX b6 (by simp)
        have lt := LT.out
        refine wp_store_mid 31 _ _ rfl b6 0 (rowB 32 (sumF (madeL u x))).toArray rfl rfl (there32 h6.2 _) (by rw [List.size_toArray, rowB_len]; kernel_rfl) (rowB_one 32 _) ?_
        have hHeld := hHeld.sets b6 (rowB 32 (sumF (madeL u x))) (by omega) (by omega) (by omega)
        have HR : RowB (z0.setCells b6 0 (rowB 32 (sumF (madeL u x)))) b6 32 (sumF (madeL u x)) := RowB.of_range h6.2
        have L6 : w.heap.size ≤ b6 := by omega
        generalize z0.setCells b6 0 (rowB 32 (sumF (madeL u x))) = z0 at hHeld HR ⊢
        refine hK.out _ _ hHeld (fun _ => ?_)
        clear hK K
        (try simp only [Act.put])
        refine wpAnyH_done (by kernel_rfl) ?_ _
        clear FX GX HX LT GE
        have HH : Hid (MB w u x p4 p5 z0 ∧ RowB z0 b6 32 (sumF (madeL u x))) := ⟨hHeld, HR⟩
        clear hHeld HR h6 lt
        go_upto_region 4 with (refine alloc20 rfl rfl ?_; intro z7 hN)
        have N7 : Hid ((MB w u x p4 p5 z7.drew ∧ RowB z7.drew b6 32 (sumF (madeL u x))) ∧ (∃ t, z7.drew.heap[z0.heap.size]? = some (.cells (rowB 20 fun _ => 0).toArray t (0, 0))) ∧ w.heap.size ≤ z0.heap.size ∧ p4 < z0.heap.size) := ⟨⟨(HH.out.1.past hN.bel).drew, (HH.out.2.past hN.bel).drew⟩, hN.obj, HH.out.1.bel.size, HH.out.1.res.lt (by omega)⟩
        generalize z0.heap.size = b7 at N7 ⊢
        clear HH hN
        refine wp_region_held_drew (S := fun _ => True) (by kernel_rfl) trivial (fun hT => ?_)
        generalize z7.drew = y0 at N7 ⊢
        obtain ⟨ty, ho⟩ := N7.out.2.1
        obtain ⟨yc, hc, hc2, hc3⟩ := copy20 y0 b7 b6 ty _ _ ho N7.out.1.2
        have hcp := hc 3
        have E1 : Hid ((RowB yc b7 20 (fun i => sumF (madeL u x) (12 + i)) ∧ RowB yc p4 20 (fun _ => 0)) ∧ Below w.heap.size w yc) := ⟨⟨hc2, N7.out.1.1.res.below (hc3 b7 y0 (Below.refl _ _) (Nat.le_refl _)) N7.out.2.2.2⟩, hc3 _ _ N7.out.1.1.bel N7.out.2.2.1⟩
        clear hc hc2 hc3 ho N7
        refine wpAnyH_take (i := 0) (v := .slice (some ⟨b7, 0, none⟩) 20 20) ov0 (by kernel_rfl) (by kernel_rfl) (by kernel_rfl) (fun _ _ _ h => h) (Or.inl ⟨by rfl, fun V' hS => ?_⟩) hT ?_
        · have q1 := slice20 b7 V'
          go_simp
        simp only [Act.put, List.setIfInBounds_toArray, List.set_cons_zero, List.set_cons_succ]
        refine wpAnyH_take (i := 1) (v := .slice (some ⟨b6, 12, none⟩) 20 20) ov1 (by kernel_rfl) (by kernel_rfl) (by kernel_rfl) (fun _ _ _ h => h) (Or.inl ⟨by rfl, fun V' hS => ?_⟩) hT ?_
        · have q1 := slice12 b6 V'
          go_simp
        simp only [Act.put, List.setIfInBounds_toArray, List.set_cons_zero, List.set_cons_succ]
        refine wpAnyH_ready (rs := [2]) (by kernel_rfl) (by simp) ?_
        refine AllReadyH.cons ov2 (fun K hK => ?_) AllReadyH.nil
        rw [if_pos (by rfl)]
        go_simp
        refine hK.out _ _ trivial (fun _ => ?_)
        clear hK K
        (try simp only [Act.put, List.setIfInBounds_toArray, List.set_cons_zero, List.set_cons_succ])
        refine wpAnyH_done (by kernel_rfl) ?_ _
        clear hcp
        have HZ : Hid (yc.there p4 0 20) := E1.out.1.2.there
        go_wp2_with (first | refine load20 (fun i => sumF (madeL u x) (12 + i)) b7 rfl _ rfl rfl E1.out.1.1 ?_ | refine store20 (fun i => sumF (madeL u x) (12 + i)) p4 rfl _ _ rfl rfl rfl HZ.out ?_)
        refine bodyPost_ret (v := .agg (rowB 20 (fun i => sumF (madeL u x) (12 + i))).toArray) ?_ rfl ⟨rfl, Wds.below_setCellsB _ P4.out _ _ _ E1.out.2⟩
        exact results_cell Tryd.results4 _ _ _ ⟨p4, 0, none⟩ rfl (loadVar20 (RowB.of_range E1.out.1.2))
    · rw [if_pos (by rfl)]
      go_simp
      rw [zeroB32]
      have BK : Below z0.heap.size z0 (z0.alloc (.cells (rowB 32 fun _ => 0).toArray 31)) := (Below.refl _ _).alloc (Nat.le_refl _) _
      obtain ⟨b6, eb6⟩ : ∃ b, b = z0.heap.size := ⟨_, rfl⟩
      have FX := FX.past BK
      have GX := GX.past BK
      have HX := HX.cons BK GE.out (RowB.new z0 31 32 (fun _ => 0))
      rw [← eb6] at HX ⊢
      clear eb6
      have hHeld := hHeld.past BK
      have GE : Hid (B4 ≤ (z0.alloc (.cells (rowB 32 fun _ => 0).toArray 31)).heap.size) := Nat.le_trans GE.out BK.size
      generalize z0.alloc (.cells (rowB 32 fun _ => 0).toArray 31) = z0 at hHeld FX GX HX GE ⊢
      refine hK.out _ _ hHeld (fun _ => ?_)
      clear hK K
      (try simp only [Act.put, List.setIfInBounds_toArray, List.set_cons_zero, List.set_cons_succ])
      refine wpAnyH_ready (rs := [0]) (by kernel_rfl) (by simp) ?_
      refine AllReadyH.cons ov0 (fun K hK => ?_) AllReadyH.nil
      rw [if_pos (by rfl)]
      go_simp
      rw [bytesL_255]
      have BK : Below z0.heap.size z0 (z0.alloc (.cells (bytesL [255]).toArray 5)) := (Below.refl _ _).alloc (Nat.le_refl _) _
      obtain ⟨b10, eb10⟩ : ∃ b, b = z0.heap.size := ⟨_, rfl⟩
      have FX := FX.cons BK (bytes_new z0 5 (0, 0) [255])
      have GX := GX.past BK
      have HX := HX.past BK
      rw [← eb10] at FX ⊢
      clear eb10
      have hHeld := hHeld.past BK
      have GE : Hid (B4 ≤ (z0.alloc (.cells (bytesL [255]).toArray 5)).heap.size) := Nat.le_trans GE.out BK.size
      generalize z0.alloc (.cells (bytesL [255]).toArray 5) = z0 at hHeld FX GX HX GE ⊢
      refine hK.out _ _ hHeld (fun _ => ?_)
      clear hK K
      (try simp only [Act.put, List.setIfInBounds_toArray, List.set_cons_zero, List.set_cons_succ])
      refine wpAnyH_ready (rs := [4]) (by kernel_rfl) (by simp) ?_
      refine AllReadyH.cons ov4 (fun K hK => ?_) AllReadyH.nil
      rw [if_pos (by rfl)]
      go_simp
      have BK : Below z0.heap.size z0 (z0.alloc (.cells #[.slice (some ⟨b10, 0, none⟩) 1 1, .slice (some ⟨b11, 0, none⟩) 12 12, .slice (some ⟨w.heap.size, 0, none⟩) 20 20, .slice (some ⟨p5, 0, none⟩) 32 32] 33)) := (Below.refl _ _).alloc (Nat.le_refl _) _
      obtain ⟨b14, eb14⟩ : ∃ b, b = z0.heap.size := ⟨_, rfl⟩
      have FX := FX.past BK
      have GX := GX.cons BK (heap_new z0 (.cells #[.slice (some ⟨b10, 0, none⟩) 1 1, .slice (some ⟨b11, 0, none⟩) 12 12, .slice (some ⟨w.heap.size, 0, none⟩) 20 20, .slice (some ⟨p5, 0, none⟩) 32 32] 33))
      have HX := HX.past BK
      rw [← eb14] at GX ⊢
      clear eb14
      have hHeld := hHeld.past BK
      have GE : Hid (B4 ≤ (z0.alloc (.cells #[.slice (some ⟨b10, 0, none⟩) 1 1, .slice (some ⟨b11, 0, none⟩) 12 12, .slice (some ⟨w.heap.size, 0, none⟩) 20 20, .slice (some ⟨p5, 0, none⟩) 32 32] 33)).heap.size) := Nat.le_trans GE.out BK.size
      generalize z0.alloc (.cells #[.slice (some ⟨b10, 0, none⟩) 1 1, .slice (some ⟨b11, 0, none⟩) 12 12, .slice (some ⟨w.heap.size, 0, none⟩) 20 20, .slice (some ⟨p5, 0, none⟩) 32 32] 33) = z0 at hHeld FX GX HX GE ⊢
      refine hK.out _ _ hHeld (fun _ => ?_)
      clear hK K
      (try simp only [Act.put, List.setIfInBounds_toArray, List.set_cons_zero, List.set_cons_succ])
      refine wpAnyH_ready (rs := [5]) (by kernel_rfl) (by simp) ?_
      refine AllReadyH.cons ov5 (fun K hK => ?_) AllReadyH.nil
      rw [if_pos (by rfl)]
      go_simp
      refine ((by have hg := GX (b14, (.cells #[.slice (some ⟨b10, 0, none⟩) 1 1, .slice (some ⟨b11, 0, none⟩) 12 12, .slice (some ⟨w.heap.size, 0, none⟩) 20 20, .slice (some ⟨p5, 0, none⟩) 32 32] 33)) (by simp); exact sum4 hHeld HU.out b10 b11 b14 (FX (b10, [255]) (by simp)) (FX (b11, List.replicate 12 0) (by simp)) (by simp [World.cell?, hg]) (by simp [World.cell?, hg]) (by simp [World.cell?, hg]) (by simp [World.cell?, hg]) : Calls Tryd.prog 7 #[.slice (some ⟨b14, 0, none⟩) 4 4] z0 _)).mono ?_
      rintro e w9 ⟨rfl, BK⟩
      have FX := FX.past BK
      have GX := GX.past BK
      have HX := HX.past BK
      have hHeld := hHeld.past BK
      have GE : Hid (B4 ≤ (w9).heap.size) := Nat.le_trans GE.out BK.size
      generalize w9 = z0 at hHeld FX GX HX GE ⊢
      (try go_wp2_with fail)
      refine hK.out _ _ hHeld (fun _ => ?_)
      clear hK K
      (try simp only [Act.put, List.setIfInBounds_toArray, List.set_cons_zero, List.set_cons_succ])
      refine wpAnyH_ready (rs := [7]) (by kernel_rfl) (by simp) ?_
      refine AllReadyH.cons ov7 (fun K hK => ?_) AllReadyH.nil
      rw [if_pos (by rfl)]
      have h6 := HX b6 (by simp)
      have lt := LT.out
      refine wp_store_mid 31 _ _ rfl b6 0 (rowB 32 (sumF (madeL u x))).toArray rfl rfl (there32 h6.2 _) (by rw [List.size_toArray, rowB_len]; kernel_rfl) (rowB_one 32 _) ?_
      have hHeld := hHeld.sets b6 (rowB 32 (sumF (madeL u x))) (by omega) (by omega) (by omega)
      have HR : RowB (z0.setCells b6 0 (rowB 32 (sumF (madeL u x)))) b6 32 (sumF (madeL u x)) := RowB.of_range h6.2
      have L6 : w.heap.size ≤ b6 := by omega
      generalize z0.setCells b6 0 (rowB 32 (sumF (madeL u x))) = z0 at hHeld HR ⊢
      refine hK.out _ _ hHeld (fun _ => ?_)
      clear hK K
      (try simp only [Act.put])
      refine wpAnyH_done (by kernel_rfl) ?_ _
      clear FX GX HX LT GE
      have HH : Hid (MB w u x p4 p5 z0 ∧ RowB z0 b6 32 (sumF (madeL u x))) := ⟨hHeld, HR⟩
      clear hHeld HR h6 lt
      go_upto_region 4 with (refine alloc20 rfl rfl ?_; intro z7 hN)
      have N7 : Hid ((MB w u x p4 p5 z7.drew ∧ RowB z7.drew b6 32 (sumF (madeL u x))) ∧ (∃ t, z7.drew.heap[z0.heap.size]? = some (.cells (rowB 20 fun _ => 0).toArray t (0, 0))) ∧ w.heap.size ≤ z0.heap.size ∧ p4 < z0.heap.size) := ⟨⟨(HH.out.1.past hN.bel).drew, (HH.out.2.past hN.bel).drew⟩, hN.obj, HH.out.1.bel.size, HH.out.1.res.lt (by omega)⟩
      generalize z0.heap.size = b7 at N7 ⊢
      clear HH hN
      refine wp_region_held_drew (S := fun _ => True) (by kernel_rfl) trivial (fun hT => ?_)
      generalize z7.drew = y0 at N7 ⊢
      obtain ⟨ty, ho⟩ := N7.out.2.1
      obtain ⟨yc, hc, hc2, hc3⟩ := copy20 y0 b7 b6 ty _ _ ho N7.out.1.2
      have hcp := hc 3
      have E1 : Hid ((RowB yc b7 20 (fun i => sumF (madeL u x) (12 + i)) ∧ RowB yc p4 20 (fun _ => 0)) ∧ Below w.heap.size w yc) := ⟨⟨hc2, N7.out.1.1.res.below (hc3 b7 y0 (Below.refl _ _) (Nat.le_refl _)) N7.out.2.2.2⟩, hc3 _ _ N7.out.1.1.bel N7.out.2.2.1⟩
      clear hc hc2 hc3 ho N7
      refine wpAnyH_take (i := 0) (v := .slice (some ⟨b7, 0, none⟩) 20 20) ov0 (by kernel_rfl) (by kernel_rfl) (by kernel_rfl) (fun _ _ _ h => h) (Or.inl ⟨by rfl, fun V' hS => ?_⟩) hT ?_
      · have q1 := slice20 b7 V'
        go_simp
      simp only [Act.put, List.setIfInBounds_toArray, List.set_cons_zero, List.set_cons_succ]
      refine wpAnyH_take (i := 1) (v := .slice (some ⟨b6, 12, none⟩) 20 20) ov1 (by kernel_rfl) (by kernel_rfl) (by kernel_rfl) (fun _ _ _ h => h) (Or.inl ⟨by rfl, fun V' hS => ?_⟩) hT ?_
      · have q1 := slice12 b6 V'
        go_simp
      simp only [Act.put, List.setIfInBounds_toArray, List.set_cons_zero, List.set_cons_succ]
      refine wpAnyH_ready (rs := [2]) (by kernel_rfl) (by simp) ?_
      refine AllReadyH.cons ov2 (fun K hK => ?_) AllReadyH.nil
      rw [if_pos (by rfl)]
      go_simp
      refine hK.out _ _ trivial (fun _ => ?_)
      clear hK K
      (try simp only [Act.put, List.setIfInBounds_toArray, List.set_cons_zero, List.set_cons_succ])
      refine wpAnyH_done (by kernel_rfl) ?_ _
      clear hcp
      have HZ : Hid (yc.there p4 0 20) := E1.out.1.2.there
      go_wp2_with (first | refine load20 (fun i => sumF (madeL u x) (12 + i)) b7 rfl _ rfl rfl E1.out.1.1 ?_ | refine store20 (fun i => sumF (madeL u x) (12 + i)) p4 rfl _ _ rfl rfl rfl HZ.out ?_)
      refine bodyPost_ret (v := .agg (rowB 20 (fun i => sumF (madeL u x) (12 + i))).toArray) ?_ rfl ⟨rfl, Wds.below_setCellsB _ P4.out _ _ _ E1.out.2⟩
      exact results_cell Tryd.results4 _ _ _ ⟨p4, 0, none⟩ rfl (loadVar20 (RowB.of_range E1.out.1.2))
  · rw [if_pos (by rfl)]
    go_simp
    rw [zeroB32]
    have BK : Below z0.heap.size z0 (z0.alloc (.cells (rowB 32 fun _ => 0).toArray 31)) := (Below.refl _ _).alloc (Nat.le_refl _) _
    obtain ⟨b6, eb6⟩ : ∃ b, b = z0.heap.size := ⟨_, rfl⟩
    have FX := FX.past BK
    have GX := GX.past BK
    have HX := HX.cons BK GE.out (RowB.new z0 31 32 (fun _ => 0))
    rw [← eb6] at HX ⊢
    clear eb6
    have hHeld := hHeld.past BK
    have GE : Hid (B4 ≤ (z0.alloc (.cells (rowB 32 fun _ => 0).toArray 31)).heap.size) := Nat.le_trans GE.out BK.size
    generalize z0.alloc (.cells (rowB 32 fun _ => 0).toArray 31) = z0 at hHeld FX GX HX GE ⊢
    refine hK.out _ _ hHeld (fun _ => ?_)
    clear hK K
    (try simp only [Act.put, List.setIfInBounds_toArray, List.set_cons_zero, List.set_cons_succ])
    refine wpAnyH_ready (rs := [0, 1]) (by kernel_rfl) (by simp) ?_
    refine AllReadyH.cons ov0 (fun K hK => ?_) (AllReadyH.cons ov1 (fun K hK => ?_) AllReadyH.nil)
    · rw [if_pos (by rfl)]
      go_simp
      rw [bytesL_255]
      have BK : Below z0.heap.size z0 (z0.alloc (.cells (bytesL [255]).toArray 5)) := (Below.refl _ _).alloc (Nat.le_refl _) _
      obtain ⟨b10, eb10⟩ : ∃ b, b = z0.heap.size := ⟨_, rfl⟩
      have FX := FX.cons BK (bytes_new z0 5 (0, 0) [255])
      have GX := GX.past BK
      have HX := HX.past BK
      rw [← eb10] at FX ⊢
      clear eb10
      have hHeld := hHeld.past BK
      have GE : Hid (B4 ≤ (z0.alloc (.cells (bytesL [255]).toArray 5)).heap.size) := Nat.le_trans GE.out BK.size
      generalize z0.alloc (.cells (bytesL [255]).toArray 5) = z0 at hHeld FX GX HX GE ⊢
      refine hK.out _ _ hHeld (fun _ => ?_)
      clear hK K
      (try simp only [Act.put, List.setIfInBounds_toArray, List.set_cons_zero, List.set_cons_succ])
      refine wpAnyH_ready (rs := [1]) (by kernel_rfl) (by simp) ?_
      refine AllReadyH.cons ov1 (fun K hK => ?_) AllReadyH.nil
      rw [if_pos (by rfl)]
      obtain ⟨zm, hm, hm1, BK⟩ := make12 z0
      go_simp
      obtain ⟨b11, eb11⟩ : ∃ b, b = z0.heap.size := ⟨_, rfl⟩
      have FX := FX.cons BK hm1
      have GX := GX.past BK
      have HX := HX.past BK
      rw [← eb11] at FX ⊢
      clear eb11 hm hm1
      have hHeld := hHeld.past BK
      have GE : Hid (B4 ≤ (zm).heap.size) := Nat.le_trans GE.out BK.size
      generalize zm = z0 at hHeld FX GX HX GE ⊢
      refine hK.out _ _ hHeld (fun _ => ?_)
      clear hK K
      (try simp only [Act.put, List.setIfInBounds_toArray, List.set_cons_zero, List.set_cons_succ])
      refine wpAnyH_ready (rs := [4]) (by kernel_rfl) (by simp) ?_
      refine AllReadyH.cons ov4 (fun K hK => ?_) AllReadyH.nil
      rw [if_pos (by rfl)]
      go_simp
      have BK : Below z0.heap.size z0 (z0.alloc (.cells #[.slice (some ⟨b10, 0, none⟩) 1 1, .slice (some ⟨b11, 0, none⟩) 12 12, .slice (some ⟨w.heap.size, 0, none⟩) 20 20, .slice (some ⟨p5, 0, none⟩) 32 32] 33)) := (Below.refl _ _).alloc (Nat.le_refl _) _
      obtain ⟨b14, eb14⟩ : ∃ b, b = z0.heap.size := ⟨_, rfl⟩
      have FX := FX.past BK
      have GX := GX.cons BK (heap_new z0 (.cells #[.slice (some ⟨b10, 0, none⟩) 1 1, .slice (some ⟨b11, 0, none⟩) 12 12, .slice (some ⟨w.heap.size, 0, none⟩) 20 20, .slice (some ⟨p5, 0, none⟩) 32 32] 33))
      have HX := HX.past BK
      rw [← eb14] at GX ⊢
      clear eb14
      have hHeld := hHeld.past BK
      have GE : Hid (B4 ≤ (z0.alloc (.cells #[.slice (some ⟨b10, 0, none⟩) 1 1, .slice (some ⟨b11, 0, none⟩) 12 12, .slice (some ⟨w.heap.size, 0, none⟩) 20 20, .slice (some ⟨p5, 0, none⟩) 32 32] 33)).heap.size) := Nat.le_trans GE.out BK.size
      generalize z0.alloc (.cells #[.slice (some ⟨b10, 0, none⟩) 1 1, .slice (some ⟨b11, 0, none⟩) 12 12, .slice (some ⟨w.heap.size, 0, none⟩) 20 20, .slice (some ⟨p5, 0, none⟩) 32 32] 33) = z0 at hHeld FX GX HX GE ⊢
      refine hK.out _ _ hHeld (fun _ => ?_)
      clear hK K
      (try simp only [Act.put, List.setIfInBounds_toArray, List.set_cons_zero, List.set_cons_succ])
      refine wpAnyH_ready (rs := [5]) (by kernel_rfl) (by simp) ?_
      refine AllReadyH.cons ov5 (fun K hK => ?_) AllReadyH.nil
      rw [if_pos (by rfl)]
      go_simp
      refine ((by have hg := GX (b14, (.cells #[.slice (some ⟨b10, 0, none⟩) 1 1, .slice (some ⟨b11, 0, none⟩) 12 12, .slice (some ⟨w.heap.size, 0, none⟩) 20 20, .slice (some ⟨p5, 0, none⟩) 32 32] 33)) (by simp); exact sum4 hHeld HU.out b10 b11 b14 (FX (b10, [255]) (by simp)) (FX (b11, List.replicate 12 0) (by simp)) (by simp [World.cell?, hg]) (by simp [World.cell?, hg]) (by simp [World.cell?, hg]) (by simp [World.cell?, hg]) : Calls Tryd.prog 7 #[.slice (some ⟨b14, 0, none⟩) 4 4] z0 _)).mono ?_
      rintro e w9 ⟨rfl, BK⟩
      have FX := FX.past BK
      have GX := GX.past BK
      have HX := HX.past BK
      have hHeld := hHeld.past BK
      have GE : Hid (B4 ≤ (w9).heap.size) := Nat.le_trans GE.out BK.size
      generalize w9 = z0 at hHeld FX GX HX GE ⊢
      (try go_wp2_with fail)
      refine hK.out _ _ hHeld (fun _ => ?_)
      clear hK K
      (try simp only [Act.put, List.setIfInBounds_toArray, List.set_cons_zero, List.set_cons_succ])
      refine wpAnyH_ready (rs := [7]) (by kernel_rfl) (by simp) ?_
      refine AllReadyH.cons ov7 (fun K hK => ?_) AllReadyH.nil
      rw [if_pos (by rfl)]
      have h6 := HX b6 (by simp)
      have lt := LT.out
      refine wp_store_mid 31 _ _ rfl b6 0 (rowB 32 (sumF (madeL u x))).toArray rfl rfl (there32 h6.2 _) (by rw [List.size_toArray, rowB_len]; kernel_rfl) (rowB_one 32 _) ?_
      have hHeld := hHeld.sets b6 (rowB 32 (sumF (madeL u x))) (by omega) (by omega) (by omega)
      have HR : RowB (z0.setCells b6 0 (rowB 32 (sumF (madeL u x)))) b6 32 (sumF (madeL u x)) := RowB.of_range h6.2
      have L6 : w.heap.size ≤ b6 := by omega
      generalize z0.setCells b6 0 (rowB 32 (sumF (madeL u x))) = z0 at hHeld HR ⊢
      refine hK.out _ _ hHeld (fun _ => ?_)
      clear hK K
      (try simp only [Act.put])
      refine wpAnyH_done (by kernel_rfl) ?_ _
      clear FX GX HX LT GE
      have HH : Hid (MB w u x p4 p5 z0 ∧ RowB z0 b6 32 (sumF (madeL u x))) := ⟨hHeld, HR⟩
      clear hHeld HR h6 lt
      go_upto_region 4 with (refine alloc20 rfl rfl ?_; intro z7 hN)
      have N7 : Hid ((MB w u x p4 p5 z7.drew ∧ RowB z7.drew b6 32 (sumF (madeL u x))) ∧ (∃ t, z7.drew.heap[z0.heap.size]? = some (.cells (rowB 20 fun _ => 0).toArray t (0, 0))) ∧ w.heap.size ≤ z0.heap.size ∧ p4 < z0.heap.size) := ⟨⟨(HH.out.1.past hN.bel).drew, (HH.out.2.past hN.bel).drew⟩, hN.obj, HH.out.1.bel.size, HH.out.1.res.lt (by omega)⟩
      generalize z0.heap.size = b7 at N7 ⊢
      clear HH hN
      refine wp_region_held_drew (S := fun _ => True) (by kernel_rfl) trivial (fun hT => ?_)
      generalize z7.drew = y0 at N7 ⊢
      obtain ⟨ty, ho⟩ := N7.out.2.1
      obtain ⟨yc, hc, hc2, hc3⟩ := copy20 y0 b7 b6 ty _ _ ho N7.out.1.2
      have hcp := hc 3
      have E1 : Hid ((RowB yc b7 20 (fun i => sumF (madeL u x) (12 + i)) ∧ RowB yc p4 20 (fun _ => 0)) ∧ Below w.heap.size w yc) := ⟨⟨hc2, N7.out.1.1.res.below (hc3 b7 y0 (Below.refl _ _) (Nat.le_refl _)) N7.out.2.2.2⟩, hc3 _ _ N7.out.1.1.bel N7.out.2.2.1⟩
      clear hc hc2 hc3 ho N7
      refine wpAnyH_take (i := 0) (v := .slice (some ⟨b7, 0, none⟩) 20 20) ov0 (by kernel_rfl) (by kernel_rfl) (by kernel_rfl) (fun _ _ _ h => h) (Or.inl ⟨by rfl, fun V' hS => ?_⟩) hT ?_
      · have q1 := slice20 b7 V'
        go_simp
      simp only [Act.put, List.setIfInBounds_toArray, List.set_cons_zero, List.set_cons_succ]
      refine wpAnyH_take (i := 1) (v := .slice (some ⟨b6, 12, none⟩) 20 20) ov1 (by kernel_rfl) (by kernel_rfl) (by kernel_rfl) (fun _ _ _ h => h) (Or.inl ⟨by rfl, fun V' hS => ?_⟩) hT ?_
      · have q1 := slice12 b6 V'
        go_simp
      simp only [Act.put, List.setIfInBounds_toArray, List.set_cons_zero, List.set_cons_succ]
      refine wpAnyH_ready (rs := [2]) (by kernel_rfl) (by simp) ?_
      refine AllReadyH.cons ov2 (fun K hK => ?_) AllReadyH.nil
      rw [if_pos (by rfl)]
      go_simp
      refine hK.out _ _ trivial (fun _ => ?_)
      clear hK K
      (try simp only [Act.put, List.setIfInBounds_toArray, List.set_cons_zero, List.set_cons_succ])
      refine wpAnyH_done (by kernel_rfl) ?_ _
      clear hcp
      have HZ : Hid (yc.there p4 0 20) := E1.out.1.2.there
      go_wp2_with (first | refine load20 (fun i => sumF (madeL u x) (12 + i)) b7 rfl _ rfl rfl E1.out.1.1 ?_ | refine store20 (fun i => sumF (madeL u x) (12 + i)) p4 rfl _ _ rfl rfl rfl HZ.out ?_)
      refine bodyPost_ret (v := .agg (rowB 20 (fun i => sumF (madeL u x) (12 + i))).toArray) ?_ rfl ⟨rfl, Wds.below_setCellsB _ P4.out _ _ _ E1.out.2⟩
      exact results_cell Tryd.results4 _ _ _ ⟨p4, 0, none⟩ rfl (loadVar20 (RowB.of_range E1.out.1.2))
    · rw [if_pos (by rfl)]
      obtain ⟨zm, hm, hm1, BK⟩ := make12 z0
      go_simp
      obtain ⟨b11, eb11⟩ : ∃ b, b = z0.heap.size := ⟨_, rfl⟩
      have FX := FX.cons BK hm1
      have GX := GX.past BK
      have HX := HX.past BK
      rw [← eb11] at FX ⊢
      clear eb11 hm hm1
      have hHeld := hHeld.past BK
      have GE : Hid (B4 ≤ (zm).heap.size) := Nat.le_trans GE.out BK.size
      generalize zm = z0 at hHeld FX GX HX GE ⊢
      refine hK.out _ _ hHeld (fun _ => ?_)
      clear hK K
      (try simp only [Act.put, List.setIfInBounds_toArray, List.set_cons_zero, List.set_cons_succ])
      refine wpAnyH_ready (rs := [0]) (by kernel_rfl) (by simp) ?_
      refine AllReadyH.cons ov0 (fun K hK => ?_) AllReadyH.nil
      rw [if_pos (by rfl)]
      go_simp
      rw [bytesL_255]
      have BK : Below z0.heap.size z0 (z0.alloc (.cells (bytesL [255]).toArray 5)) := (Below.refl _ _).alloc (Nat.le_refl _) _
      obtain ⟨b10, eb10⟩ : ∃ b, b = z0.heap.size := ⟨_, rfl⟩
      have FX := FX.cons BK (bytes_new z0 5 (0, 0) [255])
      have GX := GX.past BK
      have HX := HX.past BK
      rw [← eb10] at FX ⊢
      clear eb10
      have hHeld := hHeld.past BK
      have GE : Hid (B4 ≤ (z0.alloc (.cells (bytesL [255]).toArray 5)).heap.size) := Nat.le_trans GE.out BK.size
      generalize z0.alloc (.cells (bytesL [255]).toArray 5) = z0 at hHeld FX GX HX GE ⊢
      refine hK.out _ _ hHeld (fun _ => ?_)
      clear hK K
      (try simp only [Act.put, List.setIfInBounds_toArray, List.set_cons_zero, List.set_cons_succ])
      refine wpAnyH_ready (rs := [4]) (by kernel_rfl) (by simp) ?_
      refine AllReadyH.cons ov4 (fun K hK => ?_) AllReadyH.nil
      rw [if_pos (by rfl)]
      go_simp
      have BK : Below z0.heap.size z0 (z0.alloc (.cells #[.slice (some ⟨b10, 0, none⟩) 1 1, .slice (some ⟨b11, 0, none⟩) 12 12, .slice (some ⟨w.heap.size, 0, none⟩) 20 20, .slice (some ⟨p5, 0, none⟩) 32 32] 33)) := (Below.refl _ _).alloc (Nat.le_refl _) _
      obtain ⟨b14, eb14⟩ : ∃ b, b = z0.heap.size := ⟨_, rfl⟩
      have FX := FX.past BK
      have GX := GX.cons BK (heap_new z0 (.cells #[.slice (some ⟨b10, 0, none⟩) 1 1, .slice (some ⟨b11, 0, none⟩) 12 12, .slice (some ⟨w.heap.size, 0, none⟩) 20 20, .slice (some ⟨p5, 0, none⟩) 32 32] 33))
      have HX := HX.past BK
      rw [← eb14] at GX ⊢
      clear eb14
      have hHeld := hHeld.past BK
      have GE : Hid (B4 ≤ (z0.alloc (.cells #[.slice (some ⟨b10, 0, none⟩) 1 1, .slice (some ⟨b11, 0, none⟩) 12 12, .slice (some ⟨w.heap.size, 0, none⟩) 20 20, .slice (some ⟨p5, 0, none⟩) 32 32] 33)).heap.size) := Nat.le_trans GE.out BK.size
      generalize z0.alloc (.cells #[.slice (some ⟨b10, 0, none⟩) 1 1, .slice (some ⟨b11, 0, none⟩) 12 12, .slice (some ⟨w.heap.size, 0, none⟩) 20 20, .slice (some ⟨p5, 0, none⟩) 32 32] 33) = z0 at hHeld FX GX HX GE ⊢
      refine hK.out _ _ hHeld (fun _ => ?_)
      clear hK K
      (try simp only [Act.put, List.setIfInBounds_toArray, List.set_cons_zero, List.set_cons_succ])
      refine wpAnyH_ready (rs := [5]) (by kernel_rfl) (by simp) ?_
      refine AllReadyH.cons ov5 (fun K hK => ?_) AllReadyH.nil
      rw [if_pos (by rfl)]
      go_simp
      refine ((by have hg := GX (b14, (.cells #[.slice (some ⟨b10, 0, none⟩) 1 1, .slice (some ⟨b11, 0, none⟩) 12 12, .slice (some ⟨w.heap.size, 0, none⟩) 20 20, .slice (some ⟨p5, 0, none⟩) 32 32] 33)) (by simp); exact sum4 hHeld HU.out b10 b11 b14 (FX (b10, [255]) (by simp)) (FX (b11, List.replicate 12 0) (by simp)) (by simp [World.cell?, hg]) (by simp [World.cell?, hg]) (by simp [World.cell?, hg]) (by simp [World.cell?, hg]) : Calls Tryd.prog 7 #[.slice (some ⟨b14, 0, none⟩) 4 4] z0 _)).mono ?_
      rintro e w9 ⟨rfl, BK⟩
      have FX := FX.past BK
      have GX := GX.past BK
      have HX := HX.past BK
      have hHeld := hHeld.past BK
      have GE : Hid (B4 ≤ (w9).heap.size) := Nat.le_trans GE.out BK.size
      generalize w9 = z0 at hHeld FX GX HX GE ⊢
      (try go_wp2_with fail)
      refine hK.out _ _ hHeld (fun _ => ?_)
      clear hK K
      (try simp only [Act.put, List.setIfInBounds_toArray, List.set_cons_zero, List.set_cons_succ])
      refine wpAnyH_ready (rs := [7]) (by kernel_rfl) (by simp) ?_
      refine AllReadyH.cons ov7 (fun K hK => ?_) AllReadyH.nil
      rw [if_pos (by rfl)]
      have h6 := HX b6 (by simp)
      have lt := LT.out
      refine wp_store_mid 31 _ _ rfl b6 0 (rowB 32 (sumF (madeL u x))).toArray rfl rfl (there32 h6.2 _) (by rw [List.size_toArray, rowB_len]; kernel_rfl) (rowB_one 32 _) ?_
      have hHeld := hHeld.sets b6 (rowB 32 (sumF (madeL u x))) (by omega) (by omega) (by omega)
      have HR : RowB (z0.setCells b6 0 (rowB 32 (sumF (madeL u x)))) b6 32 (sumF (madeL u x)) := RowB.of_range h6.2
      have L6 : w.heap.size ≤ b6 := by omega
      generalize z0.setCells b6 0 (rowB 32 (sumF (madeL u x))) = z0 at hHeld HR ⊢
      refine hK.out _ _ hHeld (fun _ => ?_)
      clear hK K
      (try simp only [Act.put])
      refine wpAnyH_done (by kernel_rfl) ?_ _
      clear FX GX HX LT GE
      have HH : Hid (MB w u x p4 p5 z0 ∧ RowB z0 b6 32 (sumF (madeL u x))) := ⟨hHeld, HR⟩
      clear hHeld HR h6 lt
      go_upto_region 4 with (refine alloc20 rfl rfl ?_; intro z7 hN)
      have N7 : Hid ((MB w u x p4 p5 z7.drew ∧ RowB z7.drew b6 32 (sumF (madeL u x))) ∧ (∃ t, z7.drew.heap[z0.heap.size]? = some (.cells (rowB 20 fun _ => 0).toArray t (0, 0))) ∧ w.heap.size ≤ z0.heap.size ∧ p4 < z0.heap.size) := ⟨⟨(HH.out.1.past hN.bel).drew, (HH.out.2.past hN.bel).drew⟩, hN.obj, HH.out.1.bel.size, HH.out.1.res.lt (by omega)⟩
      generalize z0.heap.size = b7 at N7 ⊢
      clear HH hN
      refine wp_region_held_drew (S := fun _ => True) (by kernel_rfl) trivial (fun hT => ?_)
      generalize z7.drew = y0 at N7 ⊢
      obtain ⟨ty, ho⟩ := N7.out.2.1
      obtain ⟨yc, hc, hc2, hc3⟩ := copy20 y0 b7 b6 ty _ _ ho N7.out.1.2
      have hcp := hc 3
      have E1 : Hid ((RowB yc b7 20 (fun i => sumF (madeL u x) (12 + i)) ∧ RowB yc p4 20 (fun _ => 0)) ∧ Below w.heap.size w yc) := ⟨⟨hc2, N7.out.1.1.res.below (hc3 b7 y0 (Below.refl _ _) (Nat.le_refl _)) N7.out.2.2.2⟩, hc3 _ _ N7.out.1.1.bel N7.out.2.2.1⟩
      clear hc hc2 hc3 ho N7
      refine wpAnyH_take (i := 0) (v := .slice (some ⟨b7, 0, none⟩) 20 20) ov0 (by kernel_rfl) (by kernel_rfl) (by kernel_rfl) (fun _ _ _ h => h) (Or.inl ⟨by rfl, fun V' hS => ?_⟩) hT ?_
      · have q1 := slice20 b7 V'
        go_simp
      simp only [Act.put, List.setIfInBounds_toArray, List.set_cons_zero, List.set_cons_succ]
      refine wpAnyH_take (i := 1) (v := .slice (some ⟨b6, 12, none⟩) 20 20) ov1 (by kernel_rfl) (by kernel_rfl) (by kernel_rfl) (fun _ _ _ h => h) (Or.inl ⟨by rfl, fun V' hS => ?_⟩) hT ?_
      · have q1 := slice12 b6 V'
        go_simp
      simp only [Act.put, List.setIfInBounds_toArray, List.set_cons_zero, List.set_cons_succ]
      refine wpAnyH_ready (rs := [2]) (by kernel_rfl) (by simp) ?_
      refine AllReadyH.cons ov2 (fun K hK => ?_) AllReadyH.nil
      rw [if_pos (by rfl)]
      go_simp
      refine hK.out _ _ trivial (fun _ => ?_)
      clear hK K
      (try simp only [Act.put, List.setIfInBounds_toArray, List.set_cons_zero, List.set_cons_succ])
      refine wpAnyH_done (by kernel_rfl) ?_ _
      clear hcp
      have HZ : Hid (yc.there p4 0 20) := E1.out.1.2.there
      go_wp2_with (first | refine load20 (fun i => sumF (madeL u x) (12 + i)) b7 rfl _ rfl rfl E1.out.1.1 ?_ | refine store20 (fun i => sumF (madeL u x) (12 + i)) p4 rfl _ _ rfl rfl rfl HZ.out ?_)
      refine bodyPost_ret (v := .agg (rowB 20 (fun i => sumF (madeL u x) (12 + i))).toArray) ?_ rfl ⟨rfl, Wds.below_setCellsB _ P4.out _ _ _ E1.out.2⟩
      exact results_cell Tryd.results4 _ _ _ ⟨p4, 0, none⟩ rfl (loadVar20 (RowB.of_range E1.out.1.2))
