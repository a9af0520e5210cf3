/- Two tables. -/
import Derived.Test.YtohfkgfjcnldaaaTyfM
namespace Go.Proofs.Ytohfkgfjcnldaaa
open Go.RowKit Go.Shelf
/-- tables t = b1 (owner 1), u = b2 (owner 2) -/
structure U2 (w W : World) (b1 b2 N : Nat) (A1 : List (Int × Int)) (H1 : List (List (Int × Int))) (A2 : List (Int × Int)) (H2 : List (List (Int × Int))) : Prop where
  ex : ∃ ow, T1 W ow 1 b1 N A1 H1 ∧ T1 W ow 2 b2 N A2 H2 ∧ ∀ x, x < w.heap.size → ow x = 0
  bel : Below w.heap.size w W
section
variable {w W : World} {b1 b2 N : Nat} {A1 : List (Int × Int)} {H1 : List (List (Int × Int))} {A2 : List (Int × Int)} {H2 : List (List (Int × Int))}
theorem U2.past {W' : World} (h : U2 w W b1 b2 N A1 H1 A2 H2) (hB : Below W.heap.size W W') : U2 w W' b1 b2 N A1 H1 A2 H2 := by
  obtain ⟨⟨ow, h1, h2, h6⟩, h8⟩ := h
  exact ⟨⟨grow ow W.heap.size 0, h1.past hB, h2.past hB, fun x hx => (grow_lt (Nat.lt_of_lt_of_le hx h8.size)).trans (h6 x hx)⟩, h8.trans (hB.mono h8.size)⟩
theorem U2.mono {N' : Nat} (h : U2 w W b1 b2 N A1 H1 A2 H2) (hN : N ≤ N') : U2 w W b1 b2 N' A1 H1 A2 H2 := by
  obtain ⟨⟨ow, h1, h2, h6⟩, h8⟩ := h
  exact ⟨⟨ow, h1.mono hN, h2.mono hN, h6⟩, h8⟩
theorem U2.t {f : FuncId} {args : Array Value} {r : Value} {A' : List (Int × Int)} {H' : List (List (Int × Int))} (h : U2 w W b1 b2 N A1 H1 A2 H2) (q : ∀ ow, T1 W ow 1 b1 N A1 H1 → Calls Try.prog f args W fun e w' => e = .returned r ∧ ∃ ow', T1 w' ow' 1 b1 (N + 1) A' H' ∧ Mo (fun x => x = 1) ow ow' W w') : Calls Try.prog f args W fun e w' => e = .returned r ∧ U2 w w' b1 b2 (N + 1) A' H' A2 H2 := by
  obtain ⟨⟨ow, h1, h2, h6⟩, h8⟩ := h
  refine (q ow h1).mono ?_
  rintro e w' ⟨rfl, ow', q1, m⟩
  obtain ⟨l1, l2⟩ := m.low h6 (by omega) h8.size
  exact ⟨rfl, ⟨_, q1, (h2.mo m (by omega)).mono (by omega), l2⟩, h8.trans l1⟩
theorem U2.u {f : FuncId} {args : Array Value} {r : Value} {A' : List (Int × Int)} {H' : List (List (Int × Int))} (h : U2 w W b1 b2 N A1 H1 A2 H2) (q : ∀ ow, T1 W ow 2 b2 N A2 H2 → Calls Try.prog f args W fun e w' => e = .returned r ∧ ∃ ow', T1 w' ow' 2 b2 (N + 1) A' H' ∧ Mo (fun x => x = 2) ow ow' W w') : Calls Try.prog f args W fun e w' => e = .returned r ∧ U2 w w' b1 b2 (N + 1) A1 H1 A' H' := by
  obtain ⟨⟨ow, h1, h2, h6⟩, h8⟩ := h
  refine (q ow h2).mono ?_
  rintro e w' ⟨rfl, ow', q1, m⟩
  obtain ⟨l1, l2⟩ := m.low h6 (by omega) h8.size
  exact ⟨rfl, ⟨_, (h1.mo m (by omega)).mono (by omega), q1, l2⟩, h8.trans l1⟩
theorem mv_mo {f : FuncId} {args : Array Value} {r : Value} {i b M : Nat} {A' : List (Int × Int)} {H' : List (List (Int × Int))} {ow : Nat → Nat} (c : Calls Try.prog f args W fun e w' => e = .returned r ∧ T1 w' (grow ow W.heap.size i) i b M A' H' ∧ Mv ow i W w') : Calls Try.prog f args W fun e w' => e = .returned r ∧ ∃ ow', T1 w' ow' i b M A' H' ∧ Mo (fun x => x = i) ow ow' W w' := by
  refine c.mono ?_
  rintro e w' ⟨rfl, q1, q2⟩
  exact ⟨rfl, _, q1, Mo.of q2 rfl⟩
theorem U2.doT (h : U2 w W b1 b2 N A1 H1 A2 H2) (hN : N < 274877906944) (kd : Int) (two : Bool) (k v : Int) (hk : I64 k) : Calls Try.prog 38 #[.pointer (some ⟨b1, 0, none⟩), .agg #[.int .i64 kd, .bool two, .int .i64 k, .int .i64 v]] W fun e w' => e = .returned (.tuple #[]) ∧ U2 w w' b1 b2 (N + 1) (nxA kd k v A1 H1) (nxH kd k A1 H1) A2 H2 := h.t fun ow ht => do_is W ow 1 b1 N A1 H1 ht hN kd two k v hk
theorem U2.doU (h : U2 w W b1 b2 N A1 H1 A2 H2) (hN : N < 274877906944) (kd : Int) (two : Bool) (k v : Int) (hk : I64 k) : Calls Try.prog 38 #[.pointer (some ⟨b2, 0, none⟩), .agg #[.int .i64 kd, .bool two, .int .i64 k, .int .i64 v]] W fun e w' => e = .returned (.tuple #[]) ∧ U2 w w' b1 b2 (N + 1) A1 H1 (nxA kd k v A2 H2) (nxH kd k A2 H2) := h.u fun ow ht => do_is W ow 2 b2 N A2 H2 ht hN kd two k v hk
theorem U2.marksT (h : U2 w W b1 b2 N A1 H1 A2 H2) : Calls Try.prog 41 #[.pointer (some ⟨b1, 0, none⟩)] W fun e w' => e = .returned (.int .i64 (H1.length : Int)) ∧ w' = W := by
  obtain ⟨ow, h1, _⟩ := h.ex
  exact marks1 W ow 1 b1 N A1 H1 h1
theorem U2.marksU (h : U2 w W b1 b2 N A1 H1 A2 H2) : Calls Try.prog 41 #[.pointer (some ⟨b2, 0, none⟩)] W fun e w' => e = .returned (.int .i64 (H2.length : Int)) ∧ w' = W := by
  obtain ⟨ow, _, h1, _⟩ := h.ex
  exact marks1 W ow 2 b2 N A2 H2 h1
theorem U2.lenT (h : U2 w W b1 b2 N A1 H1 A2 H2) : Calls Try.prog 48 #[.pointer (some ⟨b1, 0, none⟩)] W fun e w' => e = .returned (.int .i64 (A1.length : Int)) ∧ w' = W := by
  obtain ⟨ow, h1, _⟩ := h.ex
  exact len1 W ow 1 b1 N A1 H1 h1
theorem U2.lenU (h : U2 w W b1 b2 N A1 H1 A2 H2) : Calls Try.prog 48 #[.pointer (some ⟨b2, 0, none⟩)] W fun e w' => e = .returned (.int .i64 (A2.length : Int)) ∧ w' = W := by
  obtain ⟨ow, _, h1, _⟩ := h.ex
  exact len1 W ow 2 b2 N A2 H2 h1
/-- what is seen of u, t tells too -/
theorem U2.seenU (h : U2 w W b1 b2 N A1 H1 A1 H2) (hN : N < 274877906944) : Calls Try.prog 40 #[.pointer (some ⟨b2, 0, none⟩)] W fun e w' => ∃ ka kc va vc n, e = .returned (.agg #[.slice ka n kc, .slice va n vc]) ∧ Calls Try.prog 46 #[.pointer (some ⟨b1, 0, none⟩), .agg #[.slice ka n kc, .slice va n vc]] w' fun e w2 => e = .returned (.bool true) ∧ U2 w w2 b1 b2 N A1 H1 A1 H2 := by
  obtain ⟨ow, h1, h2, _⟩ := h.ex
  refine (seen_is W ow 2 b2 N A1 H2 h2 hN).mono ?_
  rintro e w' ⟨vk', vv', rfl, hB, ⟨ka, kc, rfl, i1⟩, ⟨va, vc, rfl, i2⟩⟩
  refine ⟨ka, kc, va, vc, A1.length, by simp, ?_⟩
  have T := tells_is w' (grow ow W.heap.size 0) 1 b1 N A1 H1 (h1.past hB) hN _ _ ⟨ka, kc, rfl, i1⟩ ⟨va, vc, rfl, i2⟩
  rw [List.length_map, List.length_map] at T
  refine T.mono ?_
  rintro e w2 ⟨rfl, hB2⟩
  exact ⟨rfl, (h.past hB).past hB2⟩
theorem U2.seenT (h : U2 w W b1 b2 N A1 H1 A1 H2) (hN : N < 274877906944) : Calls Try.prog 40 #[.pointer (some ⟨b1, 0, none⟩)] W fun e w' => ∃ ka kc va vc n, e = .returned (.agg #[.slice ka n kc, .slice va n vc]) ∧ Calls Try.prog 46 #[.pointer (some ⟨b2, 0, none⟩), .agg #[.slice ka n kc, .slice va n vc]] w' fun e w2 => e = .returned (.bool true) ∧ U2 w w2 b1 b2 N A1 H1 A1 H2 := by
  obtain ⟨ow, h1, h2, _⟩ := h.ex
  refine (seen_is W ow 1 b1 N A1 H1 h1 hN).mono ?_
  rintro e w' ⟨vk', vv', rfl, hB, ⟨ka, kc, rfl, i1⟩, ⟨va, vc, rfl, i2⟩⟩
  refine ⟨ka, kc, va, vc, A1.length, by simp, ?_⟩
  have T := tells_is w' (grow ow W.heap.size 0) 2 b2 N A1 H2 (h2.past hB) hN _ _ ⟨ka, kc, rfl, i1⟩ ⟨va, vc, rfl, i2⟩
  rw [List.length_map, List.length_map] at T
  refine T.mono ?_
  rintro e w2 ⟨rfl, hB2⟩
  exact ⟨rfl, (h.past hB).past hB2⟩
end
/-- two tables and a box -/
structure U2B (w W : World) (b1 b2 N : Nat) (A1 : List (Int × Int)) (H1 : List (List (Int × Int))) (A2 : List (Int × Int)) (H2 : List (List (Int × Int))) (ob : Nat) (T : TypeId) (l : List Value) : Prop where
  ex : ∃ ow, T1 W ow 1 b1 N A1 H1 ∧ T1 W ow 2 b2 N A2 H2 ∧ ow ob = 0 ∧ ∀ x, x < w.heap.size → ow x = 0
  bx : CBox W ob T l
  bel : Below w.heap.size w W
section
variable {w W : World} {b1 b2 N ob : Nat} {A1 : List (Int × Int)} {H1 : List (List (Int × Int))} {A2 : List (Int × Int)} {H2 : List (List (Int × Int))} {T : TypeId} {l : List Value}
theorem U2.box (h : U2 w W b1 b2 N A1 H1 A2 H2) (T : TypeId) (l : List Value) : U2B w (W.alloc (.cells l.toArray T)) b1 b2 N A1 H1 A2 H2 W.heap.size T l := by
  have hB : Below W.heap.size W (W.alloc (.cells l.toArray T)) := (Below.refl _ _).alloc (Nat.le_refl _) _
  obtain ⟨⟨ow, h1, h2, h6⟩, h8⟩ := h
  exact ⟨⟨grow ow W.heap.size 0, h1.past hB, h2.past hB, grow_ge (Nat.le_refl _), fun x hx => (grow_lt (Nat.lt_of_lt_of_le hx h8.size)).trans (h6 x hx)⟩, CBox.new W T l, h8.trans (hB.mono h8.size)⟩
theorem U2B.out (h : U2B w W b1 b2 N A1 H1 A2 H2 ob T l) : U2 w W b1 b2 N A1 H1 A2 H2 := by
  obtain ⟨⟨ow, h1, h2, h5, h6⟩, h7, h8⟩ := h
  exact ⟨⟨ow, h1, h2, h6⟩, h8⟩
theorem U2B.doT (h : U2B w W b1 b2 N A1 H1 A2 H2 ob T l) (hN : N < 274877906944) (kd : Int) (two : Bool) (k v : Int) (hk : I64 k) : Calls Try.prog 38 #[.pointer (some ⟨b1, 0, none⟩), .agg #[.int .i64 kd, .bool two, .int .i64 k, .int .i64 v]] W fun e w' => e = .returned (.tuple #[]) ∧ U2B w w' b1 b2 (N + 1) (nxA kd k v A1 H1) (nxH kd k A1 H1) A2 H2 ob T l := by
  obtain ⟨⟨ow, h1, h2, h5, h6⟩, h7, h8⟩ := h
  refine (do_is W ow 1 b1 N A1 H1 h1 hN kd two k v hk).mono ?_
  rintro e w' ⟨rfl, ow', q1, m⟩
  obtain ⟨s1, s2⟩ := m.box h7 (by rw [h5]; omega)
  obtain ⟨l1, l2⟩ := m.low h6 (by omega) h8.size
  exact ⟨rfl, ⟨_, q1, (h2.mo m (by omega)).mono (by omega), s2.trans h5, l2⟩, s1, h8.trans l1⟩
theorem U2B.doU (h : U2B w W b1 b2 N A1 H1 A2 H2 ob T l) (hN : N < 274877906944) (kd : Int) (two : Bool) (k v : Int) (hk : I64 k) : Calls Try.prog 38 #[.pointer (some ⟨b2, 0, none⟩), .agg #[.int .i64 kd, .bool two, .int .i64 k, .int .i64 v]] W fun e w' => e = .returned (.tuple #[]) ∧ U2B w w' b1 b2 (N + 1) A1 H1 (nxA kd k v A2 H2) (nxH kd k A2 H2) ob T l := by
  obtain ⟨⟨ow, h1, h2, h5, h6⟩, h7, h8⟩ := h
  refine (do_is W ow 2 b2 N A2 H2 h2 hN kd two k v hk).mono ?_
  rintro e w' ⟨rfl, ow', q1, m⟩
  obtain ⟨s1, s2⟩ := m.box h7 (by rw [h5]; omega)
  obtain ⟨l1, l2⟩ := m.low h6 (by omega) h8.size
  exact ⟨rfl, ⟨_, (h1.mo m (by omega)).mono (by omega), q1, s2.trans h5, l2⟩, s1, h8.trans l1⟩
end
theorem U0.newU {w W : World} {b N : Nat} {A : List (Int × Int)} {H : List (List (Int × Int))} (h : U0 w W b N A H) : Calls Try.prog 37 #[] W fun e w' => ∃ b2, e = .returned (.pointer (some ⟨b2, 0, none⟩)) ∧ U2 w w' b b2 N A H [] [] := by
  obtain ⟨⟨ow, h1, h5⟩, h7⟩ := h
  refine (new1 W ow 2 N).mono ?_
  rintro e w' ⟨rfl, q1, hB⟩
  exact ⟨_, rfl, ⟨_, h1.past hB, q1, fun x hx => (grow_lt (Nat.lt_of_lt_of_le hx h7.size)).trans (h5 x hx)⟩, h7.trans (hB.mono h7.size)⟩
theorem isM_lt {H : List (List (Int × Int))} {m : Nat} (h : m < H.length) : isM H (m : Int) = true := by unfold isM; exact decide_eq_true (by omega)
theorem isM_ge {H : List (List (Int × Int))} {m : Nat} (h : H.length ≤ m) : isM H (m : Int) = false := by unfold isM; exact decide_eq_false (by omega)
theorem bk_lt {A : List (Int × Int)} {H : List (List (Int × Int))} {m : Nat} (h : m < H.length) : bkE H (m : Int) = 0 ∧ bkH H (m : Int) = H.take m ∧ bkA A H (m : Int) = H[m]?.getD [] := by
  unfold bkE bkH bkA
  rw [isM_lt h]
  exact ⟨rfl, rfl, rfl⟩
theorem bk_ge {A : List (Int × Int)} {H : List (List (Int × Int))} {m : Nat} (h : H.length ≤ m) : bkE H (m : Int) = 30 ∧ bkH H (m : Int) = H ∧ bkA A H (m : Int) = A := by
  unfold bkE bkH bkA
  rw [isM_ge h]
  exact ⟨rfl, rfl, rfl⟩
/-- the cells of a script, in a later world -/
theorem ops_at {w : World} {ad : Option Addr} {n : Nat} {x : Nat → OpR} (h : 0 < n → ∃ g a, ad = some ⟨g, a, none⟩ ∧ ∀ i, i < n → OpAt w g (a + i * 4) (x i) ∧ OpOk (x i)) {i : Nat} (hi : i < n) : ∃ g a, ad = some ⟨g, a, none⟩ ∧ I64 (x i).k ∧ ∀ W, Below w.heap.size w W → W.cell? ⟨g, a + i * 4, none⟩ = some (.int .i64 (x i).kd) ∧ W.cell? ⟨g, a + i * 4 + 1, none⟩ = some (.bool (x i).tw) ∧ W.cell? ⟨g, a + i * 4 + 2, none⟩ = some (.int .i64 (x i).k) ∧ W.cell? ⟨g, a + i * 4 + 3, none⟩ = some (.int .i64 (x i).v) := by
  obtain ⟨g, a, e, hat⟩ := h (by omega)
  obtain ⟨⟨d0, d1, d2, d3⟩, ok⟩ := hat i hi
  have lt0 : g < w.heap.size := World.block_lt_of_cell? w _ d0
  exact ⟨g, a, e, ok, fun W bl => ⟨(bl.cell (p := ⟨g, _, none⟩) lt0).trans d0, (bl.cell (p := ⟨g, _, none⟩) lt0).trans d1, (bl.cell (p := ⟨g, _, none⟩) lt0).trans d2, (bl.cell (p := ⟨g, _, none⟩) lt0).trans d3⟩⟩
theorem nx_hist {kd k v : Int} (h : kd = 1 ∨ kd = 2) (A : List (Int × Int)) (H H' : List (List (Int × Int))) : nxA kd k v A H = nxA kd k v A H' ∧ nxH kd k A H = H := by
  unfold nxA nxH
  rcases h with rfl | rfl
  · exact ⟨rfl, rfl⟩
  · exact ⟨rfl, rfl⟩
theorem take_app {l : List (List (Int × Int))} {A : List (Int × Int)} {m : Nat} (h : m ≤ l.length) : (l ++ [A]).take m = l.take m := List.take_append_of_le_length h
end Go.Proofs.Ytohfkgfjcnldaaa
/- A table, and what else the law holds. -/
namespace Go.Proofs.Ytohfkgfjcnldaaa
open Go.RowKit Go.Shelf
/-- what no other owner's step changes -/
def Stb (R : (Nat → Nat) → World → Prop) : Prop := ∀ (P : Nat → Prop) (ow ow' : Nat → Nat) (W W' : World), ¬ P 0 → Mo P ow ow' W W' → R ow W → R ow' W'
theorem Stb.and {R R' : (Nat → Nat) → World → Prop} (h : Stb R) (h' : Stb R') : Stb fun ow W => R ow W ∧ R' ow W := fun P ow ow' W W' h0 m r => ⟨h P ow ow' W W' h0 m r.1, h' P ow ow' W W' h0 m r.2⟩
theorem Stb.box (B : Nat) (T : TypeId) (l : List Value) : Stb fun ow W => CBox W B T l ∧ ow B = 0 := fun P ow ow' W W' h0 m r => by
  obtain ⟨s1, s2⟩ := m.box r.1 (by rw [r.2]; exact h0)
  exact ⟨s1, s2.trans r.2⟩
theorem Stb.isI (v : Value) (l : List Int) : Stb fun ow W => IsI W ow v l := fun _ _ _ _ _ h0 m r => r.mo m h0
structure UY (w W : World) (b N : Nat) (A : List (Int × Int)) (H : List (List (Int × Int))) (R : (Nat → Nat) → World → Prop) : Prop where
  ex : ∃ ow, T1 W ow 1 b N A H ∧ R ow W ∧ ∀ x, x < w.heap.size → ow x = 0
  bel : Below w.heap.size w W
section
variable {w W : World} {b N : Nat} {A : List (Int × Int)} {H : List (List (Int × Int))} {R : (Nat → Nat) → World → Prop}
theorem UY.past {W' : World} (h : UY w W b N A H R) (hR : Stb R) (hB : Below W.heap.size W W') : UY w W' b N A H R := by
  obtain ⟨⟨ow, h1, h2, h6⟩, h8⟩ := h
  exact ⟨⟨grow ow W.heap.size 0, h1.past hB, hR (fun _ => False) ow _ W W' id (Mo.below hB) h2, fun x hx => (grow_lt (Nat.lt_of_lt_of_le hx h8.size)).trans (h6 x hx)⟩, h8.trans (hB.mono h8.size)⟩
theorem UY.mono {N' : Nat} (h : UY w W b N A H R) (hN : N ≤ N') : UY w W b N' A H R := by
  obtain ⟨⟨ow, h1, h2, h6⟩, h8⟩ := h
  exact ⟨⟨ow, h1.mono hN, h2, h6⟩, h8⟩
theorem UY.box (h : UY w W b N A H R) (hR : Stb R) (T : TypeId) (l : List Value) : UY w (W.alloc (.cells l.toArray T)) b N A H fun ow V => R ow V ∧ (CBox V W.heap.size T l ∧ ow W.heap.size = 0) := by
  have hB : Below W.heap.size W (W.alloc (.cells l.toArray T)) := (Below.refl _ _).alloc (Nat.le_refl _) _
  obtain ⟨⟨ow, h1, h2, h6⟩, h8⟩ := h
  exact ⟨⟨grow ow W.heap.size 0, h1.past hB, ⟨hR (fun _ => False) ow _ W _ id (Mo.below hB) h2, CBox.new W T l, grow_ge (Nat.le_refl _)⟩, fun x hx => (grow_lt (Nat.lt_of_lt_of_le hx h8.size)).trans (h6 x hx)⟩, h8.trans (hB.mono h8.size)⟩
theorem UY.t {f : FuncId} {args : Array Value} {r : Value} {A' : List (Int × Int)} {H' : List (List (Int × Int))} (h : UY w W b N A H R) (hR : Stb R) (q : ∀ ow, T1 W ow 1 b N A H → Calls Try.prog f args W fun e w' => e = .returned r ∧ ∃ ow', T1 w' ow' 1 b (N + 1) A' H' ∧ Mo (fun x => x = 1) ow ow' W w') : Calls Try.prog f args W fun e w' => e = .returned r ∧ UY w w' b (N + 1) A' H' R := by
  obtain ⟨⟨ow, h1, h2, h6⟩, h8⟩ := h
  refine (q ow h1).mono ?_
  rintro e w' ⟨rfl, ow', q1, m⟩
  obtain ⟨l1, l2⟩ := m.low h6 (by omega) h8.size
  exact ⟨rfl, ⟨_, q1, hR _ _ _ _ _ (by omega) m h2, l2⟩, h8.trans l1⟩
theorem UY.do (h : UY w W b N A H R) (hR : Stb R) (hN : N < 274877906944) (kd : Int) (two : Bool) (k v : Int) (hk : I64 k) : Calls Try.prog 38 #[.pointer (some ⟨b, 0, none⟩), .agg #[.int .i64 kd, .bool two, .int .i64 k, .int .i64 v]] W fun e w' => e = .returned (.tuple #[]) ∧ UY w w' b (N + 1) (nxA kd k v A H) (nxH kd k A H) R := h.t hR fun ow ht => do_is W ow 1 b N A H ht hN kd two k v hk
theorem UY.marks (h : UY w W b N A H R) : Calls Try.prog 41 #[.pointer (some ⟨b, 0, none⟩)] W fun e w' => e = .returned (.int .i64 (H.length : Int)) ∧ w' = W := by
  obtain ⟨ow, h1, _⟩ := h.ex
  exact marks1 W ow 1 b N A H h1
theorem UY.len (h : UY w W b N A H R) : Calls Try.prog 48 #[.pointer (some ⟨b, 0, none⟩)] W fun e w' => e = .returned (.int .i64 (A.length : Int)) ∧ w' = W := by
  obtain ⟨ow, h1, _⟩ := h.ex
  exact len1 W ow 1 b N A H h1
theorem UY.get (h : UY w W b N A H R) (k : Int) (hk : I64 k) (hN : N < 274877906944) (r : Option Int) (hr : getR A k = r) : Calls Try.prog 44 #[.pointer (some ⟨b, 0, none⟩), .int .i64 k] W fun e w' => e = .returned (.tuple #[.int .i64 (r.getD 0), .bool r.isSome]) ∧ w' = W := by
  obtain ⟨ow, h1, _⟩ := h.ex
  rw [← hr]
  exact get1 W ow 1 b N A H h1 k hk (by omega)
theorem UY.ris (h : UY w W b N A H R) : Ris A ∧ A.length ≤ N ∧ H.length ≤ N ∧ ∀ p ∈ A, I64 p.1 := by
  obtain ⟨ow, h1, _⟩ := h.ex
  exact ⟨h1.ris, h1.lA, h1.lH, h1.i64⟩
theorem UY.tells {vk vv : Value} (h : UY w W b N A H R) (hR : Stb R) (hv : ∀ ow W, R ow W → IsI W ow vk (A.map Prod.fst) ∧ IsI W ow vv (A.map Prod.snd)) (hN : N < 274877906944) : Calls Try.prog 46 #[.pointer (some ⟨b, 0, none⟩), .agg #[vk, vv]] W fun e w' => e = .returned (.bool true) ∧ UY w w' b N A H R := by
  obtain ⟨ow, h1, h2, _⟩ := h.ex
  refine (tells_is W ow 1 b N A H h1 hN vk vv (hv ow W h2).1 (hv ow W h2).2).mono ?_
  rintro e w' ⟨rfl, hB⟩
  exact ⟨rfl, h.past hR hB⟩
theorem UY.have (h : UY w W b N A H R) : ∃ ow, R ow W := by
  obtain ⟨ow, _, h2, _⟩ := h.ex
  exact ⟨ow, h2⟩
end
/-- what was seen, in a box -/
def RV (xb : Nat) (vk vv : Value) (AS : List (Int × Int)) (ow : Nat → Nat) (W : World) : Prop := (IsI W ow vk (AS.map Prod.fst) ∧ IsI W ow vv (AS.map Prod.snd)) ∧ (CBox W xb 67 [vk, vv] ∧ ow xb = 0)
theorem RV.stb (xb : Nat) (vk vv : Value) (AS : List (Int × Int)) : Stb (RV xb vk vv AS) := ((Stb.isI _ _).and (Stb.isI _ _)).and (Stb.box _ _ _)
theorem UV.uy {w W : World} {b xb N : Nat} {A : List (Int × Int)} {H : List (List (Int × Int))} {vk vv : Value} {AS : List (Int × Int)} (h : UV w W b xb N A H vk vv AS) : UY w W b N A H (RV xb vk vv AS) := by
  obtain ⟨⟨ow, h1, h2, h3, h4, h5⟩, h6, h7⟩ := h
  exact ⟨⟨ow, h1, ⟨⟨h2, h3⟩, h6, h4⟩, h5⟩, h7⟩
theorem U0.get7 {w W : World} {b N : Nat} {A : List (Int × Int)} {H : List (List (Int × Int))} (h : U0 w W b N A H) : H.length ≤ N ∧ A.length ≤ N := by
  obtain ⟨ow, h1, _⟩ := h.ex
  exact ⟨h1.lH, h1.lA⟩
/-- a mark that stands stays, if marks ahead of it are not asked for -/
theorem nx_keep {kd k : Int} {m : Nat} {A : List (Int × Int)} {H X : List (List (Int × Int))} (hQ : kd = 4 ∨ kd = 5 → (m : Int) < k) (h1 : H.take (m + 1) = X) (h2 : m + 1 ≤ H.length) : (nxH kd k A H).take (m + 1) = X ∧ m + 1 ≤ (nxH kd k A H).length := by
  have hb : (m : Int) < k → (bkH H k).take (m + 1) = X ∧ m + 1 ≤ (bkH H k).length := fun hk => by
    unfold bkH
    split
    · rw [List.take_take, Nat.min_eq_left (by omega), List.length_take]
      exact ⟨h1, by omega⟩
    · exact ⟨h1, h2⟩
  unfold nxH
  split
  · rw [take_app h2, List.length_append]
    exact ⟨h1, by omega⟩
  · split
    · rename_i e
      exact hb (hQ (Or.inl e))
    · split
      · rename_i e
        exact hb (hQ (Or.inr e))
      · exact ⟨h1, h2⟩
theorem at_last {H X : List (List (Int × Int))} {A : List (Int × Int)} {m : Nat} (hX : X.length = m) (h1 : H.take (m + 1) = X ++ [A]) : H[m]?.getD [] = A ∧ H.take m = X := by
  have e1 : H[m]? = some A := by
    have : (H.take (m + 1))[m]? = some A := by rw [h1, ← hX, List.getElem?_concat_length]
    rwa [List.getElem?_take_of_lt (by omega)] at this
  refine ⟨by rw [e1]; rfl, ?_⟩
  have : (H.take (m + 1)).take m = X := by rw [h1, ← hX, List.take_left']; rfl
  rwa [List.take_take, Nat.min_eq_left (by omega)] at this
theorem and3 (X : Int) : ∃ A : Nat, A ≤ 3 ∧ bits BinOp.and IntKind.i64 X 3 = (A : Int) := by
  have h : (BitVec.ofInt 64 X &&& BitVec.ofInt 64 3).toNat ≤ 3 := by rw [BitVec.toNat_and]; exact Nat.and_le_right
  have e : bits BinOp.and IntKind.i64 X 3 = IntKind.i64.wrap (((BitVec.ofInt 64 X &&& BitVec.ofInt 64 3).toNat : Nat) : Int) := rfl
  exact ⟨_, h, e.trans (Go.IntWalk.i64_in _ (by omega))⟩
end Go.Proofs.Ytohfkgfjcnldaaa
