/- SpongeMany: many sponges beside one another, and the list that leads to them. -/
import Derived.Test.YteggikojfkmbkaaDoorKcd
namespace Go.Proofs.YteggikojfkmbkaaDoor
open Go.RowKit
theorem Tryd.info42 : (Tryd.prog.info? 42).map (fun i => (i.zero, i.size, i.bytes)) = some (some (.pointer none), 1, 8) := by kernel_rfl
/-- N sponges, each in a block of its own -/
structure Many (w : World) (N : Nat) (b : Nat → Nat) (F : Nat → KSt × Nat) (W : World) : Prop where
  bel : Below w.heap.size w W
  ge : ∀ i, i < N → w.heap.size ≤ b i
  sp : ∀ i, i < N → Spo W (b i) (F i).1 (F i).2
  inj : ∀ i j, i < N → j < N → b i = b j → i = j
theorem Many.past {w W W' : World} {N : Nat} {b : Nat → Nat} {F : Nat → KSt × Nat} (h : Many w N b F W) (k : Below W.heap.size W W') : Many w N b F W' :=
  ⟨h.bel.trans (k.mono h.bel.size), h.ge, fun i hi => (h.sp i hi).below k (h.sp i hi).lt, h.inj⟩
theorem Many.one {w W W' : World} {N : Nat} {b : Nat → Nat} {F : Nat → KSt × Nat} (h : Many w N b F W) (i : Nat) (hi : i < N) {s' : KSt × Nat} (hs : Spo W' (b i) s'.1 s'.2) (k : Only (b i) W W') : Many w N b (fun j => if j = i then s' else F j) W' := by
  refine ⟨h.bel.trans (k.below (h.ge i hi) h.bel.size), h.ge, fun j hj => ?_, h.inj⟩
  by_cases e : j = i
  · subst e; simp only [if_true]; exact hs
  · simp only [e, if_false]; exact (h.sp j hj).only k (fun e' => e (h.inj j i hj hi e'))
theorem Many.ext {w W : World} {N : Nat} {b : Nat → Nat} {F G : Nat → KSt × Nat} (h : Many w N b F W) (e : ∀ i, i < N → F i = G i) : Many w N b G W :=
  ⟨h.bel, h.ge, fun i hi => by rw [← e i hi]; exact h.sp i hi, h.inj⟩
def ptrs (b : Nat → Nat) (N : Nat) : List Value := (List.range N).map fun i => .pointer (some ⟨b i, 0, none⟩)
theorem ptrs_at (b : Nat → Nat) (N i : Nat) (h : i < N) : (ptrs b N)[i]? = some (.pointer (some ⟨b i, 0, none⟩)) := by simp [ptrs, h]
def zeroS : Nat → KSt × Nat := fun _ => (zeroK, 0)
/-- while the sponges are made -/
def M1 (w : World) (k : Nat) (s7 : Value) (W : World) : Prop := ∃ b, Many w k b zeroS W ∧ W.ownsRow w.heap.size 42 1 s7 k (ptrs b k) ∧ ∀ i, i < k → s7.ownBlock ≠ some (b i)
theorem grown_of_below {w w' : World} (h : Below w.heap.size w w') : w.grownBy w' none := ⟨h.os, h.tape, h.output, h.size, fun k hk _ => h.block k hk⟩
theorem owns_below {w w' : World} {B n : Nat} {T : TypeId} {v : Value} {xs : List Value} (h : w.ownsRow B T 1 v n xs) (k : Below w.heap.size w w') : w'.ownsRow B T 1 v n xs :=
  h.kept (grown_of_below k) (by cases e : v.ownBlock with | none => exact Or.inl rfl | some x => exact Or.inr (by simp))
theorem M1.start (w : World) {W : World} (h : Below w.heap.size w W) : M1 w 0 (.slice none 0 0) W :=
  ⟨fun _ => 0, ⟨h, fun i hi => absurd hi (by omega), fun i hi => absurd hi (by omega), fun i _ hi => absurd hi (by omega)⟩, World.ownsRow_nil _ _ _ _, fun i hi => absurd hi (by omega)⟩
theorem m1_step {w wr v1 w2 : World} {k : Nat} {b : Nat → Nat} {s7 v' : Value} {ob : Obj} (hM : Many w k b zeroS wr) (hown : wr.ownsRow w.heap.size 42 1 s7 k (ptrs b k)) (hne : ∀ i, i < k → s7.ownBlock ≠ some (b i)) (hB : Below wr.heap.size wr v1) (hs : Spo v1 wr.heap.size zeroK 0)
    (hown' : w2.ownsRow w.heap.size 42 1 v' (k + 1) (ptrs b k ++ [.pointer (some ⟨wr.heap.size, 0, none⟩)])) (hg : (v1.alloc ob).grownBy w2 s7.ownBlock) : M1 w (k + 1) v' w2 := by
  obtain ⟨c, ec⟩ : ∃ c : Nat → Nat, c = fun i => if i = k then wr.heap.size else b i := ⟨_, rfl⟩
  have ck : c k = wr.heap.size := by rw [ec]; simp
  have cl : ∀ i, i < k → c i = b i := fun i hi => by rw [ec]; simp only [show i ≠ k by omega, if_false]
  have hp : ptrs b k ++ [.pointer (some ⟨wr.heap.size, 0, none⟩)] = ptrs c (k + 1) := by
    rw [ptrs, ptrs, List.range_succ, List.map_append]
    congr 1
    · apply List.map_congr_left; intro i hi; rw [cl i (List.mem_range.1 hi)]
    · simp [ck]
  rw [hp] at hown'
  have hlt : ∀ i, i < k → b i < wr.heap.size := fun i hi => (hM.sp i hi).lt
  have hsp : ∀ i, i < k + 1 → Spo w2 (c i) zeroK 0 := by
    intro i hi
    have h1 : Spo (v1.alloc ob) (c i) zeroK 0 ∧ s7.ownBlock ≠ some (c i) := by
      have ha : Below v1.heap.size v1 (v1.alloc ob) := (Below.refl _ _).alloc (by omega) _
      by_cases e : i = k
      · subst e; rw [ck]
        exact ⟨hs.below ha hs.lt, fun e' => by have := (hown.lt _ e').2; omega⟩
      · rw [cl i (by omega)]
        have h0 := (hM.sp i (by omega)).below hB (hlt i (by omega))
        exact ⟨h0.below ha h0.lt, hne i (by omega)⟩
    have hb := hg.block (c i) h1.1.lt (fun e => h1.2 e.symm)
    exact ⟨fun j hj => ⟨(World.cell?_of_block (a := ⟨c i, j, none⟩) hb).trans (h1.1.1 j hj).1, (World.frozen?_of_block (a := ⟨c i, j, none⟩) hb).trans (h1.1.1 j hj).2⟩, (World.cell?_of_block (a := ⟨c i, 25, none⟩) hb).trans h1.1.2.1, (World.frozen?_of_block (a := ⟨c i, 25, none⟩) hb).trans h1.1.2.2⟩
  refine ⟨c, ⟨?_, fun i hi => ?_, hsp, fun i j hi hj e => ?_⟩, hown', fun i hi e => ?_⟩
  · have b1 := hM.bel.trans (hB.mono hM.bel.size)
    exact Below.grown (b1.alloc b1.size ob) hg (by have := b1.size; simp; omega) (fun x h => (hown.lt x h).1)
  · by_cases e : i = k
    · subst e; rw [ck]; exact hM.bel.size
    · rw [cl i (by omega)]; exact hM.ge i (by omega)
  · by_cases e1 : i = k <;> by_cases e2 : j = k
    · omega
    · subst e1; rw [ck, cl j (by omega)] at e; have := hlt j (by omega); omega
    · subst e2; rw [ck, cl i (by omega)] at e; have := hlt i (by omega); omega
    · rw [cl i (by omega), cl j (by omega)] at e; exact hM.inj i j (by omega) (by omega) e
  · have h0 := hown'.cells e 0 _ (ptrs_at c (k + 1) 0 (by omega))
    have h1 := ((hsp i hi).1 0 (by omega)).1
    rw [Addr.add_mid] at h0
    rw [h0] at h1
    simp at h1
/-- the list opened -/
theorem M1.open {w W : World} {N : Nat} {s7 : Value} (h : M1 w N s7 W) (hN : 0 < N) : ∃ g c b, s7 = .slice (some ⟨g, 0, none⟩) N c ∧ g < W.heap.size ∧ Many w N b zeroS W ∧ (∀ i, i < N → W.cell? ⟨g, i, none⟩ = some (.pointer (some ⟨b i, 0, none⟩))) ∧ ∀ i, i < N → g ≠ b i := by
  obtain ⟨b, hM, hown, hne⟩ := h
  have h' := hown
  obtain ⟨hlen, ⟨_, e⟩ | ⟨g, c, cur, rfl, hb, hh, _⟩⟩ := h'
  · omega
  · refine ⟨g, c, b, rfl, (hown.lt g rfl).2, hM, fun i hi => ?_, fun i hi e => hne i hi (by rw [e]; rfl)⟩
    rw [hown.cellAt i (by omega), ptrs_at b N i hi]
/-- sponge j behind k bytes -/
def stM (l : List Nat) (j : Nat) : Nat → KSt × Nat
  | 0 => (zeroK, 0)
  | k + 1 => absL (stM l j k) [(l.getD k 0 + j) % 256]
theorem stM_lt (l : List Nat) (j : Nat) : ∀ k, (stM l j k).2 < 136
  | 0 => by show (0 : Nat) < 136; omega
  | k + 1 => by rw [stM]; exact absL_lt _ (stM_lt l j k)
/-- the bytes of sponge j -/
def ownB (l : List Nat) (j k : Nat) : List Nat := (l.take k).map fun x => (x + j) % 256
theorem ownB_succ (l : List Nat) (j k : Nat) (h : k < l.length) : ownB l j (k + 1) = ownB l j k ++ [(l.getD k 0 + j) % 256] := by
  rw [ownB, List.take_add_one, List.map_append, List.getElem?_eq_getElem h, List.getD_eq_getElem?_getD, List.getElem?_eq_getElem h]; rfl
theorem stM_is (l : List Nat) (j : Nat) : ∀ k, k ≤ l.length → stM l j k = absL (zeroK, 0) (ownB l j k)
  | 0, _ => by simp [stM, ownB, absL]
  | k + 1, h => by rw [stM, stM_is l j k (by omega), ownB_succ l j k (by omega), absL, absL, absL, List.foldl_append]
theorem stM_sum (l : List Nat) (j : Nat) : hashF (endF (stM l j l.length).1 (stM l j l.length).2) = sumF (ownB l j l.length) := by rw [stM_is l j _ (Nat.le_refl _)]; rfl
theorem ownB_len (l : List Nat) (j k : Nat) (h : k ≤ l.length) : (ownB l j k).length = k := by simp [ownB]; omega
theorem ownB_byte (l : List Nat) (j k i : Nat) : (ownB l j k).getD i 0 < 256 := getD_of_mem (fun x hx => by
  simp only [ownB, List.mem_map] at hx; obtain ⟨y, _, rfl⟩ := hx; omega) i
theorem many_step {w wr v3 : World} {N : Nat} {b : Nat → Nat} {F : Nat → KSt × Nat} {g j : Nat} (hM : Many w N b F wr) (hc : ∀ i, i < N → wr.cell? ⟨g, i, none⟩ = some (.pointer (some ⟨b i, 0, none⟩))) (hj : j < N) (hne : g ≠ b j) (o : Obj) {s' : KSt × Nat} (hs : Spo v3 (b j) s'.1 s'.2) (hk : Only (b j) (wr.drew.alloc o) v3) :
    Many w N b (fun i => if i = j then s' else F i) v3 ∧ ∀ i, i < N → v3.cell? ⟨g, i, none⟩ = some (.pointer (some ⟨b i, 0, none⟩)) := by
  have hB : Below wr.heap.size wr (wr.drew.alloc o) := ((Below.refl _ _).drew).alloc (by show wr.heap.size ≤ wr.heap.size; omega) _
  refine ⟨(hM.past hB).one j hj hs hk, fun i hi => ?_⟩
  have hl : g < wr.heap.size := World.block_lt_of_cell? wr _ (hc i hi)
  exact ((hk.cell (p := ⟨g, i, none⟩) (Nat.lt_of_lt_of_le hl hB.size) hne).trans (hB.cell (p := ⟨g, i, none⟩) hl)).trans (hc i hi)
theorem owns_any {w : World} {B n : Nat} {v : Value} {L : List Nat} (h : w.ownsRow B 5 1 v n (bytesL L)) (hn : n = L.length) : ∃ ad cap, v = .slice ad n cap ∧ (L ≠ [] → ∃ sb so, ad = some ⟨sb, so, none⟩ ∧ BytesAt w ⟨sb, so, none⟩ L) := by
  have h' := h
  obtain ⟨_, ⟨rfl, rfl⟩ | ⟨g, c, cur, rfl, hb, hh, _⟩⟩ := h'
  · exact ⟨none, 0, rfl, fun e => absurd (List.eq_nil_of_length_eq_zero hn.symm) e⟩
  · refine ⟨_, c, rfl, fun _ => ⟨g, 0, rfl, fun i hi => ?_⟩⟩
    show w.cell? ⟨g, 0 + i, none⟩ = _
    rw [Nat.zero_add, h.cellAt i (by omega)]
    simp [bytesL, hi, List.getD_eq_getElem?_getD]
theorem own_step {W0 wr w1 : World} {v v' : Value} {o : Obj} {l : List Nat} {j k y : Nat} (hk : k < l.length) (hy : y = (l.getD k 0 + j) % 256) (hown : wr.ownsRow W0.heap.size 5 1 v k (bytesL (ownB l j k))) (hB : Below W0.heap.size W0 wr)
    (hown' : w1.ownsRow W0.heap.size 5 1 v' (k + 1) (bytesL (ownB l j k) ++ [.int .u8 (y : Int)])) (hg : (wr.alloc o).grownBy w1 v.ownBlock) :
    w1.ownsRow W0.heap.size 5 1 v' (k + 1) (bytesL (ownB l j (k + 1))) ∧ Below W0.heap.size W0 w1 := by
  have e : bytesL (ownB l j (k + 1)) = bytesL (ownB l j k) ++ [.int .u8 (y : Int)] := by
    rw [ownB_succ l j k hk, hy]; simp [bytesL]
  rw [e]
  exact ⟨hown', Below.grown (hB.alloc hB.size o) hg (by have := hB.size; simp; omega) (fun q h => (hown.lt q h).1)⟩
end Go.Proofs.YteggikojfkmbkaaDoor
