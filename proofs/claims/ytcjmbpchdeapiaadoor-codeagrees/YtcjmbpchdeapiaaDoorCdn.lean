/- Package code: Starts, All. -/
import Derived.Test.YtcjmbpchdeapiaaDoorCdm
namespace Go.Proofs.YtcjmbpchdeapiaaDoor
open Go.RowKit Go.Shelf
attribute [local go_sem] Oper.semAt_some
/-- does one of the first k instructions begin at j? -/
def stA (b : Nat → Nat) (k j : Nat) : Bool := (List.range k).any fun i => posA b i == j
theorem stA_succ (b : Nat → Nat) (k j : Nat) : stA b (k + 1) j = (stA b k j || posA b k == j) := by simp [stA, List.range_succ]
theorem stA_iff (b : Nat → Nat) (k j : Nat) : stA b k j = true ↔ ∃ i, i < k ∧ posA b i = j := by simp [stA]
def stL (b : Nat → Nat) (L k : Nat) : List Value := (List.range L).map fun j => .bool (stA b k j)
theorem stL_len (b : Nat → Nat) (L k : Nat) : (stL b L k).length = L := by simp [stL]
theorem stL_get (b : Nat → Nat) (L k j : Nat) (h : j < L) : (stL b L k)[j]? = some (.bool (stA b k j)) := by simp [stL, h]
theorem stL_set (b : Nat → Nat) (L k : Nat) (h : posA b k < L) : (stL b L k).set (posA b k) (.bool true) = stL b L (k + 1) := by
  apply List.ext_getElem?
  intro j
  by_cases hj : j < L
  · rw [stL_get _ _ _ _ hj, List.getElem?_set, stL_len, stA_succ]
    by_cases e : posA b k = j
    · subst e; simp [h]
    · rw [if_neg e, stL_get _ _ _ _ hj]
      have : (posA b k == j) = false := by rw [beq_eq_false_iff_ne]; exact e
      rw [this, Bool.or_false]
  · rw [List.getElem?_eq_none (by rw [List.length_set, stL_len]; omega), List.getElem?_eq_none (by rw [stL_len]; omega)]
theorem infoBo : (Tryd.prog.info? 4).map (fun i => (i.zero, i.size, i.bytes)) = some (some (.bool false), 1, 1) := by kernel_rfl
theorem made_bools (L : Nat) : madeCells (Value.bool false).cells L = ((List.range L).map fun _ => Value.bool false).toArray := by
  apply Array.ext
  · simp [madeCells, Value.cells]
  · intro i h1 h2
    simp [madeCells, Value.cells] at h1 ⊢
    rw [Nat.mod_one]; rfl
theorem all_is (w : World) (v : Value) (m : Nat) (b : Nat → Nat) (hm : m ≤ 1000000) (hv : BytesOf w v m b) : Calls Tryd.prog 17 #[v] w fun e w' => e = .returned (.func (.func 33) #[] #[.pointer (some ⟨w.heap.size + 1, 0, none⟩)]) ∧ w' = (cpW w m b).alloc (.cells #[.slice (some ⟨w.heap.size, 0, none⟩) m m] 22) := by
  have HC : Hid (Calls Tryd.prog 29 #[v] w fun e w' => e = .returned (.slice (some ⟨w.heap.size, 0, none⟩) m m) ∧ w' = cpW w m b) := copied_is w v m b hm hv
  have HE : Hid (Calls Tryd.prog 23 #[.slice (some ⟨w.heap.size, 0, none⟩) m m] (cpW w m b) fun e w' => e = .returned (.func (.func 33) #[] #[.pointer (some ⟨w.heap.size + 1, 0, none⟩)]) ∧ w' = (cpW w m b).alloc (.cells #[.slice (some ⟨w.heap.size, 0, none⟩) m m] 22)) := by
    have := each_is (cpW w m b) (some ⟨w.heap.size, 0, none⟩) m m
    rw [World.size_alloc] at this; exact this
  obtain ⟨ad, cap, rfl, _⟩ := hv
  generalize cpW w m b = W1 at HC HE ⊢
  go_enter Tryd.func17, Tryd.ntmps17
  go_wp2_with (first
    | (go_at_call 29; refine HC.out.mono ?_; rintro e w' ⟨rfl, hw⟩; rw [hw]; clear hw HC)
    | (go_at_call 23; refine HE.out.mono ?_; rintro e w' ⟨rfl, hw⟩; rw [hw]; clear hw HE))
  go_ret
  exact ⟨rfl, rfl⟩
/-- what Starts' loop keeps -/
def StI (w : World) (b : Nat → Nat) (L : Nat) (pre : List (Nat × Nat × Nat)) (W : World) : Prop := Boxed W (w.heap.size + 1) 31 (.slice (some ⟨w.heap.size, 0, none⟩) L L) ∧ CBox W w.heap.size 4 (stL b L pre.length) ∧ Below w.heap.size w W ∧ w.heap.size + 3 ≤ W.heap.size
def StC (w : World) (b : Nat → Nat) (L : Nat) (pre : List (Nat × Nat × Nat)) (x : Nat × Nat × Nat) (W : World) : Prop := StI w b L pre W ∧ (w.heap.size + 3 ≤ x.2.2 ∧ x.2.2 < W.heap.size) ∧ x.1 = posA b pre.length ∧ posA b pre.length < L
theorem StI.own (w : World) (b : Nat → Nat) (L B : Nat) (hB : w.heap.size ≤ B) : OwnFrom B (StI w b L) := fun pre X Y row h hg hr => by
  have hr2 : ∀ r, row = some r → ∃ o : Obj, X.heap[r]? = some o ∧ o.isCells = false := fun r e => (hr r e).2
  obtain ⟨h1, h2, h3, h4⟩ := h
  exact ⟨boxed_own (β := Unit) _ _ (fun _ => _) () X Y row h1 hg hr2, CBox.own (β := Unit) _ _ (fun _ => _) () X Y row h2 hg hr2, ownFrom_below (β := Unit) (Nat.le_refl _) hB () X Y row h3 hg hr, Nat.le_trans h4 hg.size⟩
theorem StC.own (w : World) (b : Nat → Nat) (L : Nat) (pre : List (Nat × Nat × Nat)) (x : Nat × Nat × Nat) (B : Nat) (hB : w.heap.size ≤ B) : OwnFrom B (fun (_ : Unit) W => StC w b L pre x W) := fun _ X Y row h hg hr => by
  obtain ⟨h1, h2, h3⟩ := h
  exact ⟨StI.own w b L B hB pre X Y row h1 hg hr, ⟨h2.1, Nat.lt_of_lt_of_le h2.2 hg.size⟩, h3⟩
theorem StC.come {w : World} {b : Nat → Nat} {L : Nat} {pre : List (Nat × Nat × Nat)} {x : Nat × Nat × Nat} {W0 W1 : World} (h : StI w b L pre W0) (hc : ComeA b L pre x W0 W1) : StC w b L pre x W1 := by
  have hI := own_past (StI.own w b L w.heap.size (Nat.le_refl _)) h hc.1
  obtain ⟨hB, hu, _, hx, ⟨q1, q2, q3⟩, _⟩ := hc
  exact ⟨hI, ⟨by have := h.2.2.2; omega, q3⟩, hx, (okA_parts (hu pre.length (by omega))).1⟩
theorem makeBo (w : World) (L : Nat) (hL : L ≤ 1000000) : Sem.run Tryd.prog (Instr.makeSlice 31 (.int .i64 (L : Int)) (.int .i64 (L : Int))) w = .ok (.slice (some ⟨w.heap.size, 0, none⟩) L L) (w.alloc (.cells (stL (fun _ => 0) L 0).toArray 4)) := by
  obtain ⟨i0, hi, hz0, hz1, hz2⟩ := info_parts infoBo
  have hmk := run_makeSlice (P := Tryd.prog) w 31 4 i0 (.bool false) Tryd.underlying31 hi hz0 .i64 .i64 (L : Int) (L : Int) (by omega) (Int.le_refl _) (by rw [hz1]; simp; omega) (by rw [hz2]; omega) (by omega)
  simp only [Int.toNat_natCast, hz1, Nat.mul_one, made_bools] at hmk
  exact hmk
theorem stL_zero (b c : Nat → Nat) (L : Nat) : stL b L 0 = stL c L 0 := rfl
set_option maxRecDepth 100000 in
set_option maxHeartbeats 2000000 in
theorem starts_in (w : World) (v : Value) (L : Nat) (b : Nat → Nat) (hN : Nms w) (hv : BytesOf w v L b) (hcp : ∀ ad cap, v = .slice ad L cap → L ≤ cap) (hL : L ≤ 1000000) :
    CallsIn Fence.wide 10 Tryd.prog 12 #[v] w fun e w' => ∃ k, FullA b L k ∧ e = .returned (.slice (some ⟨w.heap.size, 0, none⟩) L L) ∧ Below w.heap.size w w' ∧ CBox w' w.heap.size 4 (stL b L k) := by
  have HV : Hid (BytesOf w v L b) := hv
  obtain ⟨ad, cap, rfl, hb, _, hc⟩ := hv
  have gl : ∀ g o, ad = some ⟨g, o, none⟩ → L ≠ 0 → g < w.heap.size := fun g o e h0 => by
    obtain ⟨g', o', e', hcc⟩ := hc h0
    rw [e'] at e; cases e
    exact World.block_lt_of_cell? w _ (hcc 0 (by omega))
  have GL : Hid (∀ g o, ad = some ⟨g, o, none⟩ → L ≠ 0 → g < w.heap.size) := gl
  have lI : (L : Int) ≤ 1000000 := by omega
  have HCP : Hid (∀ ad' cap', Value.slice ad L cap = .slice ad' L cap' → L ≤ cap') := hcp
  have hmk := makeBo w L hL
  rw [stL_zero _ b] at hmk
  clear hc hcp hb gl
  have bS : Boxed (((w.alloc (.cells (stL b L 0).toArray 4)).alloc (.cells #[.slice (some ⟨w.heap.size, 0, none⟩) L L] 31)).alloc (.cells #[.slice ad L cap] 22)) (w.heap.size + 1) 31 (.slice (some ⟨w.heap.size, 0, none⟩) L L) := by
    have := (Boxed.new (w.alloc (.cells (stL b L 0).toArray 4)) 31 (.slice (some ⟨w.heap.size, 0, none⟩) L L)).alloc (.cells #[.slice ad L cap] 22)
    rw [World.size_alloc] at this; exact this
  have cS : CBox (((w.alloc (.cells (stL b L 0).toArray 4)).alloc (.cells #[.slice (some ⟨w.heap.size, 0, none⟩) L L] 31)).alloc (.cells #[.slice ad L cap] 22)) w.heap.size 4 (stL b L 0) := ((CBox.new w 4 (stL b L 0)).alloc _).alloc _
  have cB : Boxed (((w.alloc (.cells (stL b L 0).toArray 4)).alloc (.cells #[.slice (some ⟨w.heap.size, 0, none⟩) L L] 31)).alloc (.cells #[.slice ad L cap] 22)) (w.heap.size + 1 + 1) 22 (.slice ad L cap) := by
    have := Boxed.new ((w.alloc (.cells (stL b L 0).toArray 4)).alloc (.cells #[.slice (some ⟨w.heap.size, 0, none⟩) L L] 31)) 22 (.slice ad L cap)
    simp only [World.size_alloc] at this; exact this
  have hB0 : Below w.heap.size w (((w.alloc (.cells (stL b L 0).toArray 4)).alloc (.cells #[.slice (some ⟨w.heap.size, 0, none⟩) L L] 31)).alloc (.cells #[.slice ad L cap] 22)) := (((Below.refl _ w).alloc (Nat.le_refl _) _).alloc (by simp) _).alloc (by simp; omega) _
  have hsz : (((w.alloc (.cells (stL b L 0).toArray 4)).alloc (.cells #[.slice (some ⟨w.heap.size, 0, none⟩) L L] 31)).alloc (.cells #[.slice ad L cap] 22)).heap.size = w.heap.size + 3 := by simp
  have BB : Hid (_ ∧ _ ∧ _ ∧ _ ∧ _) := ⟨bS, cS, cB, hB0, hsz⟩
  have hs1 : (w.alloc (.cells (stL b L 0).toArray 4)).heap.size = w.heap.size + 1 := by simp
  clear bS cS cB hB0 hsz
  generalize hW1 : w.alloc (.cells (stL b L 0).toArray 4) = W1 at hmk BB hs1
  clear hW1
  refine callsIn_of_wp_marks Tryd.func12 rfl trivial ?_ rfl
  simp only [Tryd.ntmps12, List.size_toArray, List.length_cons, List.length_nil, Nat.reduceAdd, Nat.reduceSub, Array.replicate_succ, Array.replicate_zero, List.push_toArray, List.append_toArray, List.nil_append, List.cons_append]
  gi_wp2_with (refine ⟨trivial, ?_⟩; gi_at_call 23; refine (callsIn_wide.2 (each_is _ _ _ _)).mono ?_; rintro e w' ⟨rfl, hw⟩; rw [hw]; clear hw)
  obtain ⟨bS, cS, cB, hB0, hsz⟩ := BB.out
  clear BB hmk
  generalize (W1.alloc (.cells #[.slice (some ⟨w.heap.size, 0, none⟩) L L] 31)).alloc (.cells #[.slice ad L cap] 22) = W0 at bS cS cB hB0 hsz ⊢
  have hS : EaS (fun k => k < w.heap.size ∨ k = w.heap.size + 2) (w.heap.size + 1 + 1) (.slice ad L cap) := ⟨Or.inr rfl, fun g' o' m c e hm => by cases e; exact Or.inl (GL.out _ _ rfl hm), fun k g' hk => Or.inl (World.block_lt_of_cell? w _ (hN k g' hk 0 (by omega)))⟩
  have hE : EaOk (w.heap.size + 1 + 1) (.slice ad L cap) L b W0 := ⟨cB.cell, HV.out.below rfl hB0, hN.past hB0⟩
  refine wpIn_rangeFunc_x (F := Fence.wide) (α := Nat × Nat × Nat) rfl (by omega) (gf := 33) (lb := #[.pointer (some ⟨w.heap.size + 1 + 1, 0, none⟩)]) rfl trivial (enters_of Tryd.func33 (by kernel_rfl) rfl)
    (each_seq 9 (by omega) (w.heap.size + 1 + 1) (.slice ad L cap) L b (fun k => k < w.heap.size ∨ k = w.heap.size + 2) hS HCP.out hL W0 hE)
    (fun _ _ _ _ h k => KeepC.trans h k) (fun _ W r o o' _ h ho => KeepC.put W r o o' h ho) (Below.refl _ _) (fun _ => rfl) (fun pre x V0 V1 hc => ⟨hc.1.size, fun k o _ hk _ => (hc.1.block k (Array.getElem?_eq_some_iff.1 hk).1).trans hk⟩)
    (StI w b L) (fun _ _ _ => False) (StC w b L) (StI.own w b L _ (by omega)) (fun _ _ _ _ _ hs _ _ => hs) (fun pre x => StC.own w b L pre x _ (by omega)) (fun pre x V0 V1 h hc => StC.come h hc) ⟨bS, cS, hB0, by omega⟩
    (fun x a' W => ∃ Bx, CBox W Bx 40 (insC b x) ∧ w.heap.size + 3 ≤ Bx ∧ a' = { tmps := #[.slice ad L cap, undef, .slice none 0 0, .pointer (some ⟨w.heap.size + 1, 0, none⟩), .pointer (some ⟨Bx, 0, none⟩), .slice ad L cap, .int .i64 (L : Int), .slice (some ⟨w.heap.size, 0, none⟩) L L, .slice ad L cap, .func (.func 33) #[] #[.pointer (some ⟨w.heap.size + 1 + 1, 0, none⟩)], insX b x, undef, undef, undef, undef, undef], defers := [] })
    (fun x a' _ X Y row hs hg hr => by
      have hr2 : ∀ r, row = some r → ∃ o : Obj, X.heap[r]? = some o ∧ o.isCells = false := fun r e => (hr r e).2
      obtain ⟨Bx, h3, h4, h5⟩ := hs
      exact ⟨Bx, CBox.own (β := Unit) _ _ (fun _ => insC b x) () X Y row h3 hg hr2, h4, h5⟩)
    ?assign ?body ?done ?stop
  case assign =>
    rintro l pre x W K hi hK
    have hx : insX b x = .agg #[.int .i64 (x.1 : Int), .int .i64 (b x.1 : Int), .slice (some ⟨x.2.1, 0, none⟩) (immA b x.1) (immA b x.1), .int .i64 (nxA b x.1 : Int)] := rfl
    have hBB : Below W.heap.size W (W.alloc (.cells #[.int .i64 (x.1 : Int), .int .i64 (b x.1 : Int), .slice (some ⟨x.2.1, 0, none⟩) (immA b x.1) (immA b x.1), .int .i64 (nxA b x.1 : Int)] 40)) := (Below.refl _ W).alloc (Nat.le_refl _) _
    gi_wp2
    exact hK _ _ ((KeepsOthers.alloc _ _).from _) (KeepC.past hBB) (own_past (StC.own w b L pre x w.heap.size (Nat.le_refl _)) (s := ()) hi hBB) ⟨W.heap.size, CBox.new W _ _, by have := hi.1.2.2.2; omega, rfl⟩
  case body =>
    rintro l pre x a' W hl ⟨r, hr⟩ ⟨⟨h1, h2, h3, h4⟩, h5, h6, h7⟩ ⟨Bx, h10, h11, rfl⟩
    have e0 := h1.cell
    have i0c := h10.cell 0
    simp only [insC, List.getElem?_cons_zero] at i0c
    have s0 := h2.cell (posA b pre.length)
    rw [stL_get _ _ _ _ h7] at s0
    have s1 := h2.frozen (posA b pre.length)
    have st := h2.set (posA b pre.length) (.bool true)
    rw [stL_set b L pre.length h7] at st
    have ST : Hid _ := st
    obtain ⟨A, hA⟩ : ∃ A, A = posA b pre.length := ⟨_, rfl⟩
    rw [h6] at i0c
    rw [← hA] at s0 s1 h7 i0c ST
    have aI : (A : Int) < (L : Int) := by omega
    have H : Hid (Boxed W (w.heap.size + 1) 31 (.slice (some ⟨w.heap.size, 0, none⟩) L L) ∧ Below w.heap.size w W ∧ w.heap.size + 3 ≤ W.heap.size ∧ w.heap.size + 3 ≤ x.2.2) := ⟨h1, h3, h4, h5.1⟩
    generalize stA b pre.length A = bo at s0
    clear h1 h2 h3 h4 h5 h6 h10 h11 st hA h7
    gi_wp2
    refine ⟨(KeepsOthers.setCell _ _ _).from _, KeepC.set _ _ _ ?_, (Below.heap_setCell W ⟨w.heap.size, A, none⟩ _ _ (by simp)).trans H.out.1, ?_, H.out.2.1.setCell (p := ⟨w.heap.size, A, none⟩) (Nat.le_refl _) _, ?_⟩
    · have := H.out.2.2.2
      dsimp only
      rintro ((h | h) | h) <;> omega
    · rw [List.length_append]; exact ST.out
    · simp [World.setCell]; exact H.out.2.2.1
  case done =>
    rintro D xs W hD ⟨hFit, hFull⟩ ⟨h1, h2, h3, h4⟩ hK
    have e0 := h1.cell
    gi_wp2
    refine ⟨by simp, .inl ⟨_, _, rfl, run_takeDeferred hK, ?_⟩⟩
    refine ⟨_, results_tmp rfl _ _ _, xs.length, hFull, rfl, ?_, ?_⟩
    · exact h3.trans ⟨rfl, rfl, rfl, by simp, fun j hj => World.putObj_heap_other (by omega)⟩
    · exact (World.putObj_heap_other (by omega)).trans h2
  case stop =>
    rintro D c pre W _ _ h _
    exact h.elim
theorem starts_is (w : World) (v : Value) (L : Nat) (b : Nat → Nat) (hN : Nms w) (hv : BytesOf w v L b) (hcp : ∀ ad cap, v = .slice ad L cap → L ≤ cap) (hL : L ≤ 1000000) : Calls Tryd.prog 12 #[v] w fun e w' => ∃ k, FullA b L k ∧ e = .returned (.slice (some ⟨w.heap.size, 0, none⟩) L L) ∧ Below w.heap.size w w' ∧ CBox w' w.heap.size 4 (stL b L k) :=
  callsIn_wide.1 (starts_in w v L b hN hv hcp hL)
end Go.Proofs.YtcjmbpchdeapiaaDoor
