/- A range over a function, where the body may write maps: it keeps the records of loops and of deferred calls. -/
import Derived.Test.YtohfkgfjcnldaaaSqx
import Derived.Test.YtohfkgfjcnldaaaTyjM
import Derived.Test.YtohfkgfjcnldaaaTyt
import Derived.Deep.RegionHeld3
namespace Go.Proofs.Ytohfkgfjcnldaaa
open Go.RowKit
/-- a record of a loop, or of deferred calls -/
def isLD : Obj → Bool
  | .loop _ => true
  | .deferred _ => true
  | _ => false
structure KeepsLD (B : Nat) (W W' : World) : Prop where
  size : W.heap.size ≤ W'.heap.size
  same : ∀ (k : Nat) (o : Obj), B ≤ k → W.heap[k]? = some o → isLD o = true → W'.heap[k]? = some o
theorem KeepsLD.refl (B : Nat) (W : World) : KeepsLD B W W := ⟨Nat.le_refl _, fun _ _ _ h _ => h⟩
theorem KeepsLD.trans {B : Nat} {X Y Z : World} (h : KeepsLD B X Y) (k : KeepsLD B Y Z) : KeepsLD B X Z := ⟨Nat.le_trans h.size k.size, fun i o hB hi ho => k.same i o hB (h.same i o hB hi ho) ho⟩
theorem KeepsLD.mono {B B' : Nat} {X Y : World} (h : KeepsLD B X Y) (hB : B ≤ B') : KeepsLD B' X Y := ⟨h.size, fun k o hk => h.same k o (Nat.le_trans hB hk)⟩
theorem KeepsLD.below {B : Nat} {W W' : World} (h : Below W.heap.size W W') : KeepsLD B W W' := ⟨h.size, fun k _ _ ho _ => (h.block k (Array.getElem?_eq_some_iff.1 ho).1).trans ho⟩
theorem isLD_not {o : Obj} (h : isLD o = true) : o.isCells = false := by cases o <;> first | rfl | cases h
theorem KeepsLD.of {B : Nat} {W W' : World} (h : KeepsFrom B W W') : KeepsLD B W W' := ⟨h.size, fun k o hk h1 h2 => h.same k o hk h1 (isLD_not h2)⟩
def OwnLD {β : Type} (B : Nat) (I : β → World → Prop) : Prop :=
  ∀ s W W' row, I s W → W.grownBy W' row → (∀ r, row = some r → B ≤ r ∧ ∃ o : Obj, W.heap[r]? = some o ∧ isLD o = true) → I s W'
theorem OwnLD.putObj {β : Type} {B : Nat} {I : β → World → Prop} (h : OwnLD B I) {s : β} {W : World} {l : Nat} {o : Obj} (o' : Obj) (hs : I s W) (hB : B ≤ l) (hl : W.heap[l]? = some o) (ho : isLD o = true) : I s (W.putObj l o') :=
  h s W _ (some l) hs (grownBy_putObj' W l o') (fun r e => by cases e; exact ⟨hB, o, hl, ho⟩)
theorem OwnLD.and {β : Type} {B : Nat} {I I' : β → World → Prop} (h : OwnLD B I) (h' : OwnLD B I') : OwnLD B (fun s W => I s W ∧ I' s W) := fun s W W' row hs hg hr => ⟨h s W W' row hs.1 hg hr, h' s W W' row hs.2 hg hr⟩
theorem ownLD_past {β : Type} {B : Nat} {I : β → World → Prop} (h : OwnLD B I) {s : β} {W W' : World} (hs : I s W) (hb : Below W.heap.size W W') : I s W' := h s W W' none hs (grown_below hb) (fun r e => by cases e)
theorem ownLD_keeps {β : Type} {B B' : Nat} {w₀ : World} (hB : w₀.heap.size ≤ B') : OwnLD B' (fun (_ : β) W => KeepsLD B w₀ W) :=
  fun _ X Y row hs hg hr => ⟨Nat.le_trans hs.size hg.size, fun k o hk h0 ho => by
    have hX := hs.same k o hk h0 ho
    refine (hg.block k (Array.getElem?_eq_some_iff.1 hX).1 (fun e => ?_)).trans hX
    have h1 := (hr k e.symm).1
    have h2 := (Array.getElem?_eq_some_iff.1 h0).1
    omega⟩
theorem SeqW.inRound {α : Type} {F : Fence} {n : Nat} {P : Program} {g : Nat} {lb : Array Value} {encs : α → Array Value} {C : List α → α → World → World → Prop} {Kp : α → World → World → Prop} {S Sp : List α → Prop} {w : World} (l : Nat) (h : SeqW F n P g lb encs C Kp S Sp w) : SeqW (F.inRound l) n P g lb encs C Kp S Sp w := h
def ldPost {α : Type} (B : Nat) (Kp : World → World → Prop) (I : List α → World → Prop) (Ix : Code → List α → World → Prop) (xs : List α) (W : World) : Exit → Act → World → Prop
  | .normal, _, W' => KeepsLD B W W' ∧ Kp W W' ∧ I xs W'
  | .ret, _, W' => KeepsLD B W W' ∧ Ix .ret xs W'
  | .exit id, _, W' => KeepsLD B W W' ∧ Ix (.exit id) xs W'
  | .goto t, _, W' => KeepsLD B W W' ∧ Ix (.goto t) xs W'
  | .panic _, _, _ => False
  | .outgrown, _, _ => False
section
variable {F : Fence} {n : Nat} {P : Program} {α : Type} {g : Operand} {ps : Array Tmp} {assign body : Code} {Q : Exit → Act → World → Prop} {a : Act} {w : World}
/-- the loop's round, its record being block l -/
theorem round_y {fn : Nat} (hfn : F.fn fn) {B l : Nat} (hl : B ≤ l) (rec : LoopState → Option Code → Loop) (dd : Nat) (hrec : rec = fun st pe => { state := st, pending := pe, fn, tmps := a.tmps, params := ps, assign, body, defers := dd })
    {encs : α → Array Value} {Kp : α → World → World → Prop} (hps : ∀ x, (encs x).size = ps.size)
    (hKt : ∀ (x : α) (A0 B0 C0 : World), Kp x A0 B0 → Kp x B0 C0 → Kp x A0 C0) (hKb : ∀ (x : α) (W : World) (r : Nat) (o o' : Obj), B ≤ r → W.heap[r]? = some o → isLD o = true → Kp x W (W.putObj r o'))
    (I : List α → World → Prop) (Ix : Code → List α → World → Prop) (Ic : List α → α → World → Prop) (hI : OwnLD B I) (hIx : ∀ c, OwnLD B (Ix c)) (hIc : ∀ pre x, OwnLD B (fun (_ : Unit) W => Ic pre x W)) (Ax : α → Act → World → Prop) (hAx : ∀ x a', OwnLD B (fun (_ : Unit) W => Ax x a' W))
    (hassign : ∀ (pre : List α) (x : α) (W : World) (K : Act → World → Prop), Ic pre x W → (∀ a' W', KeepsLD B W W' → Kp x W W' → Ic pre x W' → Ax x a' W' → K a' W') →
      assign.wpIn (F.inRound l) (n - 1 - 1) P (Exit.then K (fun _ _ _ => False)) { tmps := (ps.zip (encs x)).foldl (fun t (p, v) => t.setIfInBounds p v) a.tmps, defers := [] } W)
    (hbody : ∀ (pre : List α) (x : α) (a' : Act) (W : World), (∃ r, W.heap[l]? = some (.loop r)) → Ic pre x W → Ax x a' W → body.wpIn (F.inRound l) (n - 1 - 1) P (ldPost B (Kp x) I Ix (pre ++ [x]) W) a' W)
    (X : World → Prop) (hX : ∀ W W', KeepsLD B W W' → X W → X W') (hXl : ∀ W o, X W → X (W.putObj l o))
    (pre : List α) (x : α) (W : World) (hi : Ic pre x W) (hlr : W.heap[l]? = some (.loop (rec .ready none))) (hx : X W) :
    YieldAt F (n - 1 - 1) P l (encs x) W fun e W' => (e = .returned (.bool true) ∧ (I (pre ++ [x]) W' ∧ W'.heap[l]? = some (.loop (rec .ready none)) ∧ X W') ∧ Kp x W W') ∨
      (e = .returned (.bool false) ∧ ∃ c, Ix c (pre ++ [x]) W' ∧ W'.heap[l]? = some (.loop (rec .done (some c))) ∧ X W') := by
  have hy := run_yield (P := P) (args := encs x) hlr (by rw [hrec]; exact hps x)
  rw [hrec] at hy
  refine ⟨fn, _, assign, body, hy, roundIn_of_wpIn hfn (hassign pre x W _ hi ?_)⟩
  clear hy
  intro a' V hkf hkp hic hax
  have hl1 := hkf.same _ _ hl hlr rfl
  have hlt : l < V.heap.size := (Array.getElem?_eq_some_iff.1 hl1).1
  refine ⟨_, run_beginRound hl1 (by rw [hrec]), ?_⟩
  have hl2 : (V.putObj l (.loop { rec .ready none with state := .busy })).heap[l]? = some (.loop { rec .ready none with state := .busy }) := World.putObj_heap_same hlt
  have hk2 : Kp x V (V.putObj l (.loop { rec .ready none with state := .busy })) := hKb _ _ _ _ _ hl hl1 rfl
  have hx2 := hXl _ (.loop { rec .ready none with state := .busy }) (hX _ _ hkf hx)
  have hi2 : Ic pre x (V.putObj l (.loop { rec .ready none with state := .busy })) := (hIc pre x).putObj (s := ()) _ hic hl hl1 rfl
  have ha2 : Ax x a' (V.putObj l (.loop { rec .ready none with state := .busy })) := (hAx x a').putObj (s := ()) _ hax hl hl1 rfl
  refine wpIn_mono (hbody pre x a' _ ⟨_, hl2⟩ hi2 ha2) ?_
  generalize V.putObj l (.loop { rec .ready none with state := .busy }) = V2 at hl2 hk2 hx2
  have fin : ∀ (jump : Option Code) (W3 : World), KeepsLD B V2 W3 →
      (Instr.endRound l jump).run P W3 = .ok (.bool jump.isNone) (W3.putObj l (.loop (rec (if jump.isNone then .ready else .done) jump))) ∧ W3.heap[l]? = some (.loop { rec .ready none with state := .busy }) ∧
      (W3.putObj l (.loop (rec (if jump.isNone then .ready else .done) jump))).heap[l]? = some (.loop (rec (if jump.isNone then .ready else .done) jump)) := fun jump W3 hk3 => by
    have hl3 := hk3.same _ _ hl hl2 rfl
    have h := run_endRound (P := P) jump hl3
    rw [hrec] at h ⊢
    exact ⟨h, by rw [hrec] at hl3; exact hl3, World.putObj_heap_same (Array.getElem?_eq_some_iff.1 hl3).1⟩
  have off : ∀ (c : Code) (W3 : World), KeepsLD B V2 W3 → Ix c (pre ++ [x]) W3 → ∃ v w', (Instr.endRound l (some c)).run P W3 = .ok v w' ∧ ((Ending.returned v = .returned (.bool true) ∧ (I (pre ++ [x]) w' ∧ w'.heap[l]? = some (.loop (rec .ready none)) ∧ X w') ∧ Kp x W w') ∨
      (Ending.returned v = .returned (.bool false) ∧ ∃ c, Ix c (pre ++ [x]) w' ∧ w'.heap[l]? = some (.loop (rec .done (some c))) ∧ X w')) := fun c W3 hk3 hi3 => by
    obtain ⟨hr, hl3, hl4⟩ := fin (some c) W3 hk3
    exact ⟨_, _, hr, .inr ⟨rfl, c, (hIx c).putObj _ hi3 hl hl3 rfl, hl4, hXl _ _ (hX _ _ hk3 hx2)⟩⟩
  rintro e a3 W3 hp
  cases e with
  | normal =>
    obtain ⟨hk3, hkp3, hi3⟩ := hp
    obtain ⟨hr, hl3, hl4⟩ := fin none W3 hk3
    exact ⟨_, _, hr, .inl ⟨rfl, ⟨hI.putObj _ hi3 hl hl3 rfl, hl4, hXl _ _ (hX _ _ hk3 hx2)⟩, hKt _ _ _ _ hkp (hKt _ _ _ _ (hKt _ _ _ _ hk2 hkp3) (hKb _ _ _ _ _ hl hl3 rfl))⟩⟩
  | ret => exact off .ret W3 hp.1 hp.2
  | exit id => exact off (.exit id) W3 hp.1 hp.2
  | goto t => exact off (.goto t) W3 hp.1 hp.2
  | panic ch => exact hp.elim
  | outgrown => exact hp.elim
/-- an outermost loop -/
theorem wpIn_rangeFunc_y (hro : F.round = none) (h1 : 1 ≤ n) {gf : Nat} {lb : Array Value} (hg : a.eval g = .func (.func gf) #[] lb) (hFg : F.fn gf) (eg : ∀ args w, (callFunc gf args).run P w = .ok (.enter gf args) w)
    {encs : α → Array Value} {C : List α → α → World → World → Prop} {Kp : α → World → World → Prop} {S Sp : List α → Prop} {w0 : World} (hseq : SeqW F (n - 1) P gf lb encs C Kp S Sp w0)
    (hKt : ∀ (x : α) (A B C : World), Kp x A B → Kp x B C → Kp x A C) (hKb : ∀ (x : α) (W : World) (r : Nat) (o o' : Obj), w.heap.size ≤ r → W.heap[r]? = some o → isLD o = true → Kp x W (W.putObj r o')) (hb0 : Below w0.heap.size w0 w) (hps : ∀ x, (encs x).size = ps.size)
    (hCk : ∀ pre x W0 W1, C pre x W0 W1 → KeepsLD w.heap.size W0 W1)
    (I : List α → World → Prop) (Ix : Code → List α → World → Prop) (Ic : List α → α → World → Prop) (hI : OwnLD w.heap.size I) (hIx : ∀ c, OwnLD w.heap.size (Ix c)) (hIc : ∀ pre x, OwnLD w.heap.size (fun (_ : Unit) W => Ic pre x W)) (hcome : ∀ pre x W0 W1, I pre W0 → C pre x W0 W1 → Ic pre x W1) (h0 : I [] w) (Ax : α → Act → World → Prop) (hAx : ∀ x a', OwnLD w.heap.size (fun (_ : Unit) W => Ax x a' W))
    (hassign : ∀ (l : Nat) (pre : List α) (x : α) (W : World) (K : Act → World → Prop), Ic pre x W → (∀ a' W', KeepsLD w.heap.size W W' → Kp x W W' → Ic pre x W' → Ax x a' W' → K a' W') →
      assign.wpIn (F.inRound l) (n - 1 - 1) P (Exit.then K (fun _ _ _ => False)) { tmps := (ps.zip (encs x)).foldl (fun t (p, v) => t.setIfInBounds p v) a.tmps, defers := [] } W)
    (hbody : ∀ (l : Nat) (pre : List α) (x : α) (a' : Act) (W : World), w.heap.size ≤ l → (∃ r, W.heap[l]? = some (.loop r)) → Ic pre x W → Ax x a' W → body.wpIn (F.inRound l) (n - 1 - 1) P (ldPost w.heap.size (Kp x) I Ix (pre ++ [x]) W) a' W)
    (hdone : ∀ (D : Nat) (xs : List α) (W : World), w.heap.size ≤ D → S xs → I xs W → W.heap[D]? = some (.deferred (some [])) → Q .normal { a with defers := { target := .collected D, args := #[] } :: a.defers } W)
    (hstop : ∀ (D : Nat) (c : Code) (pre : List α) (W : World), w.heap.size ≤ D → Sp pre → Ix c pre W → W.heap[D]? = some (.deferred (some [])) → c.wpIn F n P Q { a with defers := { target := .collected D, args := #[] } :: a.defers } W) :
    (Code.rangeFunc g ps assign body).wpIn F n P Q a w := by
  refine wpIn_rangeFunc ?_
  intro fn hfn
  rw [hro]
  obtain ⟨rec, hrec⟩ : ∃ rec : LoopState → Option Code → Loop, rec = fun st pe => { state := st, pending := pe, fn, tmps := a.tmps, params := ps, assign, body, defers := w.heap.size } := ⟨_, rfl⟩
  obtain ⟨W1, hW1⟩ : ∃ W1, (w.alloc (.deferred (some []))).alloc (.loop (rec .ready none)) = W1 := ⟨_, rfl⟩
  have hB1 : Below w.heap.size w W1 := by rw [← hW1]; exact ((Below.refl _ w).alloc (Nat.le_refl _) _).alloc (by simp) _
  have hL1 : W1.heap[w.heap.size + 1]? = some (.loop (rec .ready none)) := by
    rw [← hW1]; have := World.alloc_heap_new (w.alloc (.deferred (some []))) (.loop (rec .ready none)); rwa [World.size_alloc] at this
  have hD1 : W1.heap[w.heap.size]? = some (.deferred (some [])) := by
    rw [← hW1]; exact (Below.heap_alloc _ _ _ (by simp)).trans (World.alloc_heap_new w _)
  refine ⟨w.heap.size + 1, [{ target := .collected w.heap.size, args := #[] }], W1, { target := .fn (.func gf) lb, args := #[.func (.yield (w.heap.size + 1)) #[] #[]] }, W1, gf,
    #[.func (.yield (w.heap.size + 1)) #[] #[]] ++ lb, W1, ?_, ?_, ?_, ?_, fun _ => h1, ?_⟩
  · rw [← hW1, hrec]; exact run_enterLoop_outer _ _ _ _ _
  · simp only [resolve, hg]
    simp [go_sem]
  · intro f' hf'; simp [Target.leads] at hf'; subst hf'; exact hFg
  · simp [invoke, go_sem, eg]
  · refine (hseq (w.heap.size + 1)
      (fun pre W => I pre W ∧ W.heap[w.heap.size + 1]? = some (.loop (rec .ready none)) ∧ W.heap[w.heap.size]? = some (.deferred (some [])))
      (fun pre W => ∃ c, Ix c pre W ∧ W.heap[w.heap.size + 1]? = some (.loop (rec .done (some c))) ∧ W.heap[w.heap.size]? = some (.deferred (some [])))
      W1 (hb0.trans (hB1.mono hb0.size)) ?_ ⟨ownLD_past hI h0 hB1, hL1, hD1⟩).mono ?_
    · rintro pre x W V ⟨hi, hlr, hd⟩ hC
      have hkf := hCk _ _ _ _ hC
      exact round_y (n := n) (P := P) (Kp := Kp) hfn (Nat.le_succ _) rec w.heap.size hrec hps hKt hKb I Ix Ic hI hIx hIc Ax hAx (fun pre x W K => hassign _ pre x W K) (fun pre x a' W => hbody _ pre x a' W (Nat.le_succ _)) (fun W => W.heap[w.heap.size]? = some (.deferred (some []))) (fun W W' hk h => hk.same _ _ (Nat.le_refl _) h rfl) (fun W o h => (World.putObj_heap_other (by omega)).trans h) pre x V (hcome _ _ _ _ hi hC) (hkf.same _ _ (Nat.le_succ _) hlr rfl) (hkf.same _ _ (Nat.le_refl _) hd rfl)
    · rintro e W2 ⟨⟨v, rfl⟩, (⟨xs, hS, W0, ⟨hi, hlr, hd⟩, hbw⟩ | ⟨pre, hSp, c, hi, hlr, hd⟩)⟩
      · have hl2 := (hbw.block _ (Array.getElem?_eq_some_iff.1 hlr).1).trans hlr
        have hd2 := (hbw.block _ (Array.getElem?_eq_some_iff.1 hd).1).trans hd
        exact ⟨none, _, by have := run_endLoop (P := P) hl2 (by rw [hrec]; simp); rw [hrec] at this; exact this, hdone _ xs _ (Nat.le_refl _) hS (hI.putObj _ (ownLD_past hI hi hbw) (Nat.le_succ _) hl2 rfl) ((World.putObj_heap_other (by omega)).trans hd2)⟩
      · exact ⟨some c, _, by have := run_endLoop (P := P) hlr (by rw [hrec]; simp); rw [hrec] at this; exact this, hstop _ c pre _ (Nat.le_refl _) hSp ((hIx c).putObj _ hi (Nat.le_succ _) hlr rfl) ((World.putObj_heap_other (by omega)).trans hd)⟩
/-- a loop within a round of loop l₀ -/
theorem wpIn_rangeFunc_yN {l₀ : Nat} {r₀ : Loop} (hro : F.round = some l₀) (hl₀ : w.heap[l₀]? = some (.loop r₀)) (h1 : 1 ≤ n) {gf : Nat} {lb : Array Value} (hg : a.eval g = .func (.func gf) #[] lb) (hFg : F.fn gf) (eg : ∀ args w, (callFunc gf args).run P w = .ok (.enter gf args) w)
    {encs : α → Array Value} {C : List α → α → World → World → Prop} {Kp : α → World → World → Prop} {S Sp : List α → Prop} {w0 : World} (hseq : SeqW F (n - 1) P gf lb encs C Kp S Sp w0)
    (hKt : ∀ (x : α) (A B C : World), Kp x A B → Kp x B C → Kp x A C) (hKb : ∀ (x : α) (W : World) (r : Nat) (o o' : Obj), w.heap.size ≤ r → W.heap[r]? = some o → isLD o = true → Kp x W (W.putObj r o')) (hb0 : Below w0.heap.size w0 w) (hps : ∀ x, (encs x).size = ps.size)
    (hCk : ∀ pre x W0 W1, C pre x W0 W1 → KeepsLD w.heap.size W0 W1)
    (I : List α → World → Prop) (Ix : Code → List α → World → Prop) (Ic : List α → α → World → Prop) (hI : OwnLD w.heap.size I) (hIx : ∀ c, OwnLD w.heap.size (Ix c)) (hIc : ∀ pre x, OwnLD w.heap.size (fun (_ : Unit) W => Ic pre x W)) (hcome : ∀ pre x W0 W1, I pre W0 → C pre x W0 W1 → Ic pre x W1) (h0 : I [] w) (Ax : α → Act → World → Prop) (hAx : ∀ x a', OwnLD w.heap.size (fun (_ : Unit) W => Ax x a' W))
    (hassign : ∀ (l : Nat) (pre : List α) (x : α) (W : World) (K : Act → World → Prop), Ic pre x W → (∀ a' W', KeepsLD w.heap.size W W' → Kp x W W' → Ic pre x W' → Ax x a' W' → K a' W') →
      assign.wpIn (F.inRound l) (n - 1 - 1) P (Exit.then K (fun _ _ _ => False)) { tmps := (ps.zip (encs x)).foldl (fun t (p, v) => t.setIfInBounds p v) a.tmps, defers := [] } W)
    (hbody : ∀ (l : Nat) (pre : List α) (x : α) (a' : Act) (W : World), w.heap.size ≤ l → (∃ r, W.heap[l]? = some (.loop r)) → Ic pre x W → Ax x a' W → body.wpIn (F.inRound l) (n - 1 - 1) P (ldPost w.heap.size (Kp x) I Ix (pre ++ [x]) W) a' W)
    (hdone : ∀ (xs : List α) (W : World), S xs → I xs W → Q .normal a W)
    (hstop : ∀ (c : Code) (pre : List α) (W : World), Sp pre → Ix c pre W → c.wpIn F n P Q a W) :
    (Code.rangeFunc g ps assign body).wpIn F n P Q a w := by
  refine wpIn_rangeFunc ?_
  intro fn hfn
  rw [hro]
  obtain ⟨rec, hrec⟩ : ∃ rec : LoopState → Option Code → Loop, rec = fun st pe => { state := st, pending := pe, fn, tmps := a.tmps, params := ps, assign, body, defers := r₀.defers } := ⟨_, rfl⟩
  obtain ⟨W1, hW1⟩ : ∃ W1, w.alloc (.loop (rec .ready none)) = W1 := ⟨_, rfl⟩
  have hB1 : Below w.heap.size w W1 := by rw [← hW1]; exact (Below.refl _ w).alloc (Nat.le_refl _) _
  have hL1 : W1.heap[w.heap.size]? = some (.loop (rec .ready none)) := by rw [← hW1]; exact World.alloc_heap_new w _
  refine ⟨w.heap.size, [], W1, { target := .fn (.func gf) lb, args := #[.func (.yield w.heap.size) #[] #[]] }, W1, gf,
    #[.func (.yield w.heap.size) #[] #[]] ++ lb, W1, ?_, ?_, ?_, ?_, fun _ => h1, ?_⟩
  · rw [← hW1, hrec]; exact run_enterLoop_inner hl₀ _ _ _ _ _
  · simp only [resolve, hg]
    simp [go_sem]
  · intro f' hf'; simp [Target.leads] at hf'; subst hf'; exact hFg
  · simp [invoke, go_sem, eg]
  · refine (hseq w.heap.size
      (fun pre W => I pre W ∧ W.heap[w.heap.size]? = some (.loop (rec .ready none)) ∧ True)
      (fun pre W => ∃ c, Ix c pre W ∧ W.heap[w.heap.size]? = some (.loop (rec .done (some c))) ∧ True)
      W1 (hb0.trans (hB1.mono hb0.size)) ?_ ⟨ownLD_past hI h0 hB1, hL1, trivial⟩).mono ?_
    · rintro pre x W V ⟨hi, hlr, _⟩ hC
      have hkf := hCk _ _ _ _ hC
      exact round_y (n := n) (P := P) (Kp := Kp) hfn (Nat.le_refl _) rec _ hrec hps hKt hKb I Ix Ic hI hIx hIc Ax hAx (fun pre x W K => hassign _ pre x W K) (fun pre x a' W => hbody _ pre x a' W (Nat.le_refl _)) (fun _ => True) (fun _ _ _ _ => trivial) (fun _ _ _ => trivial) pre x V (hcome _ _ _ _ hi hC) (hkf.same _ _ (Nat.le_refl _) hlr rfl) trivial
    · rintro e W2 ⟨⟨v, rfl⟩, (⟨xs, hS, W0, ⟨hi, hlr, _⟩, hbw⟩ | ⟨pre, hSp, c, hi, hlr, _⟩)⟩
      · have hl2 := (hbw.block _ (Array.getElem?_eq_some_iff.1 hlr).1).trans hlr
        exact ⟨none, _, by have := run_endLoop (P := P) hl2 (by rw [hrec]; simp); rw [hrec] at this; exact this, hdone xs _ hS (hI.putObj _ (ownLD_past hI hi hbw) (Nat.le_refl _) hl2 rfl)⟩
      · exact ⟨some c, _, by have := run_endLoop (P := P) hlr (by rw [hrec]; simp); rw [hrec] at this; exact this, hstop c pre _ hSp ((hIx c).putObj _ hi (Nat.le_refl _) hlr rfl)⟩
end
end Go.Proofs.Ytohfkgfjcnldaaa
/- A table beside records of loops. -/
namespace Go.Proofs.Ytohfkgfjcnldaaa
open Go.RowKit Go.Shelf
/-- block x is a record -/
def LD (W : World) (x : Nat) : Prop := ∃ o, W.heap[x]? = some o ∧ isLD o = true
theorem cells_ld {W : World} {x : Nat} {c : Array Value} {t : TypeId} {z : Nat × Nat} (h : W.heap[x]? = some (.cells c t z)) : ¬ LD W x := fun ⟨o, h1, h2⟩ => by
  rw [h] at h1
  injection h1 with h1
  subst h1
  cases h2
theorem box_ld {W : World} {x : Nat} {t : TypeId} {l : List Value} (h : CBox W x t l) : ¬ LD W x := cells_ld h
theorem cell_ld {W : World} {p : Addr} {v : Value} (h : W.cell? p = some v) : ¬ LD W p.block := fun ⟨o, h1, h2⟩ => by
  unfold World.cell? at h
  rw [h1] at h
  cases o with
  | loop r => cases h
  | deferred r => cases h
  | _ => cases h2
theorem row_ld {W : World} {e : TypeId} {size n cap k j : Nat} {ad : Option Addr} {xs : List Value} (h : W.ownsRow 0 e size (.slice ad n cap) k xs) (hj : Own ad j) : ¬ LD W j := by
  obtain ⟨a, rfl, rfl⟩ := hj
  obtain ⟨_, _, cur, h1, _⟩ := owns_row_some h
  exact cells_ld h1
theorem map_ld {W : World} {pm n : Nat} {m : Int → Option Nat} (h : PM W pm n m) : ¬ LD W pm := fun ⟨o, h1, h2⟩ => by
  obtain ⟨D, ⟨es, c, h3, _⟩, _⟩ := h
  rw [h3] at h1
  injection h1 with h1
  subst h1
  cases h2
theorem TabU.ld {W : World} {b : Nat} {S : Nat → Prop} {L : List (Int × Int)} {V : List Un} {M : List Nat} (h : TabU W b S L V M) : (∀ j, S j → ¬ LD W j) ∧ ∀ j, UB V j → ¬ LD W j := by
  obtain ⟨pm, ra, rc, ba, bc, ma, mc, m, h1, rfl, h2⟩ := h
  refine ⟨?_, ?_⟩
  · rintro j (rfl | rfl | hj | hj | hj)
    · exact box_ld h1.box
    · exact map_ld h1.pl
    · exact row_ld h1.rows hj
    · exact row_ld h1.backs hj
    · exact row_ld h1.marks hj
  · rintro j ⟨u, hu, e⟩
    have hk := h2 u hu
    rcases e with rfl | rfl | ⟨e0, rfl⟩
    · exact box_ld hk.cx
    · exact box_ld hk.cy
    · exact box_ld (hk.cz e0)
theorem pr_ld {W : World} {j : Nat} (h : IsPr W j) : ¬ LD W j := by
  obtain ⟨v, l, hv, e⟩ := h
  obtain ⟨ad, cap, rfl⟩ := hv.form
  refine row_ld hv ?_
  cases ad with
  | none => cases e
  | some a => injection e with e; exact ⟨a, rfl, e.symm⟩
/-- what does not speak of records' owners -/
def NLD (R : (Nat → Nat) → World → Prop) : Prop := ∀ ow ow' W, (∀ x, ¬ LD W x → ow' x = ow x) → R ow W → R ow' W
theorem NLD.and {R R' : (Nat → Nat) → World → Prop} (h : NLD R) (h' : NLD R') : NLD fun ow W => R ow W ∧ R' ow W := fun ow ow' W e r => ⟨h ow ow' W e r.1, h' ow ow' W e r.2⟩
theorem NLD.box (B : Nat) (T : TypeId) (l : List Value) (j : Nat) : NLD fun ow W => CBox W B T l ∧ ow B = j := fun _ _ _ e r => ⟨r.1, (e B (box_ld r.1)).trans r.2⟩
theorem NLD.isI (v : Value) (l : List Int) : NLD fun ow W => IsI W ow v l := fun ow ow' W e r => by
  obtain ⟨ad, cap, e1, h1⟩ := r
  refine ⟨ad, cap, e1, fun i x hx => ?_⟩
  obtain ⟨g, e2, e3, c⟩ := h1 i x hx
  exact ⟨g, e2, (e g (cell_ld (p := ⟨g, i, none⟩) c)).trans e3, c⟩
theorem NLD.all (rb : Nat) (ad : Option Addr) (cap : Nat) (l : List (Int × Int)) : NLD fun ow W => AllI W ow rb ad cap l := fun ow ow' W e r => by
  obtain ⟨⟨h1, h2⟩, h3⟩ := r
  refine ⟨⟨h1, (e rb (cell_ld (p := ⟨rb, 0, none⟩) h1)).trans h2⟩, fun i p hp => ?_⟩
  obtain ⟨g, e1, e2, c0, c1⟩ := h3 i p hp
  exact ⟨g, e1, (e g (cell_ld (p := ⟨g, _, none⟩) c0)).trans e2, c0, c1⟩
/-- what no step of owners in Q changes -/
def Stq (Q : Nat → Prop) (R : (Nat → Nat) → World → Prop) : Prop := ∀ (P : Nat → Prop) (ow ow' : Nat → Nat) (W W' : World), (∀ x, P x → Q x) → Mo P ow ow' W W' → R ow W → R ow' W'
theorem Stq.and {Q : Nat → Prop} {R R' : (Nat → Nat) → World → Prop} (h : Stq Q R) (h' : Stq Q R') : Stq Q fun ow W => R ow W ∧ R' ow W := fun P ow ow' W W' h0 m r => ⟨h P ow ow' W W' h0 m r.1, h' P ow ow' W W' h0 m r.2⟩
theorem Stq.box {Q : Nat → Prop} (B : Nat) (T : TypeId) (l : List Value) (j : Nat) (hj : ¬ Q j) : Stq Q fun ow W => CBox W B T l ∧ ow B = j := fun P ow ow' W W' h0 m r => by
  obtain ⟨s1, s2⟩ := m.box r.1 (by rw [r.2]; exact fun e => hj (h0 _ e))
  exact ⟨s1, s2.trans r.2⟩
theorem Stq.isI {Q : Nat → Prop} (v : Value) (l : List Int) (hj : ¬ Q 0) : Stq Q fun ow W => IsI W ow v l := fun _ _ _ _ _ h0 m r => r.mo m (fun e => hj (h0 _ e))
theorem Stq.all {Q : Nat → Prop} (rb : Nat) (ad : Option Addr) (cap : Nat) (l : List (Int × Int)) (hj : ¬ Q 0) : Stq Q fun ow W => AllI W ow rb ad cap l := fun _ _ _ _ _ h0 m r => r.mo m (fun e => hj (h0 _ e))
/-- the steps of a table, of records -/
def Q0 (x : Nat) : Prop := x = 1 ∨ x = 7
structure Okr (R : (Nat → Nat) → World → Prop) : Prop where
  st : Stq Q0 R
  nl : NLD R
theorem Okr.and {R R' : (Nat → Nat) → World → Prop} (h : Okr R) (h' : Okr R') : Okr fun ow W => R ow W ∧ R' ow W := ⟨h.st.and h'.st, h.nl.and h'.nl⟩
theorem Okr.box (B : Nat) (T : TypeId) (l : List Value) (j : Nat) (hj : j ≠ 1 ∧ j ≠ 7) : Okr fun ow W => CBox W B T l ∧ ow B = j := ⟨Stq.box _ _ _ _ (by unfold Q0; omega), NLD.box _ _ _ _⟩
/-- all of it is the law's own -/
structure Ok0 (R : (Nat → Nat) → World → Prop) : Prop where
  st : Stb R
  nl : NLD R
theorem Ok0.and {R R' : (Nat → Nat) → World → Prop} (h : Ok0 R) (h' : Ok0 R') : Ok0 fun ow W => R ow W ∧ R' ow W := ⟨h.st.and h'.st, h.nl.and h'.nl⟩
theorem Ok0.box (B : Nat) (T : TypeId) (l : List Value) : Ok0 fun ow W => CBox W B T l ∧ ow B = 0 := ⟨Stb.box _ _ _, NLD.box _ _ _ _⟩
theorem Ok0.isI (v : Value) (l : List Int) : Ok0 fun ow W => IsI W ow v l := ⟨Stb.isI _ _, NLD.isI _ _⟩
theorem Ok0.all (rb : Nat) (ad : Option Addr) (cap : Nat) (l : List (Int × Int)) : Ok0 fun ow W => AllI W ow rb ad cap l := ⟨fun _ _ _ _ _ h0 m r => r.mo m h0, NLD.all _ _ _ _⟩
theorem Ok0.rv (xb : Nat) (vk vv : Value) (AS : List (Int × Int)) : Ok0 (RV xb vk vv AS) := ((Ok0.isI _ _).and (Ok0.isI _ _)).and (Ok0.box _ _ _)
theorem Ok0.stq {R : (Nat → Nat) → World → Prop} (h : Ok0 R) {Q : Nat → Prop} (hQ : ¬ Q 0) : Stq Q R := fun P ow ow' W W' h0 m r => h.st P ow ow' W W' (fun e => hQ (h0 _ e)) m r
theorem Ok0.okr {R : (Nat → Nat) → World → Prop} (h : Ok0 R) : Okr R := ⟨h.stq (by unfold Q0; omega), h.nl⟩
def ldB (W : World) (x : Nat) : Bool := match W.heap[x]? with
  | some o => isLD o
  | none => false
theorem ldB_of {W : World} {x : Nat} (h : LD W x) : ldB W x = true := by
  obtain ⟨o, h1, h2⟩ := h
  unfold ldB
  rw [h1]
  exact h2
theorem of_ldB {W : World} {x : Nat} (h : ldB W x = true) : LD W x := by
  unfold ldB at h
  cases e : W.heap[x]? with
  | none => rw [e] at h; cases h
  | some o => rw [e] at h; exact ⟨o, e, h⟩
/-- records have an owner of their own -/
def reOw (n : Nat) (W : World) (ow : Nat → Nat) (x : Nat) : Nat := if n ≤ x ∧ ldB W x = true then 7 else ow x
theorem reOw_no {n : Nat} {W : World} {ow : Nat → Nat} {x : Nat} (h : ¬ LD W x) : reOw n W ow x = ow x := if_neg fun e => h (of_ldB e.2)
theorem reOw_low {n : Nat} {W : World} {ow : Nat → Nat} {x : Nat} (h : x < n) : reOw n W ow x = ow x := if_neg fun e => by have := e.1; omega
theorem reOw_ld {n : Nat} {W : World} {ow : Nat → Nat} {x : Nat} (h : n ≤ x) (hx : LD W x) : reOw n W ow x = 7 := if_pos ⟨h, ldB_of hx⟩
theorem T1.re {W : World} {ow : Nat → Nat} {i b N : Nat} {A : List (Int × Int)} {H : List (List (Int × Int))} (n : Nat) (h : T1 W ow i b N A H) : T1 W (reOw n W ow) i b N A H := by
  obtain ⟨⟨S, L, V, M, h1, h2, h3, h4, h5, h6, h7, h8⟩, a, b, c⟩ := h
  exact ⟨⟨S, L, V, M, h1, h2, h3, h4, h5, h6, fun j hj => (reOw_no (h1.ld.1 j hj)).trans (h7 j hj), fun j hj => (reOw_no (h1.ld.2 j hj)).trans (h8 j hj)⟩, a, b, c⟩
section
variable {w W : World} {b N : Nat} {A : List (Int × Int)} {H : List (List (Int × Int))} {R : (Nat → Nat) → World → Prop}
theorem UY.re (h : UY w W b N A H R) (hZ : NLD R) : ∃ ow, T1 W ow 1 b N A H ∧ R ow W ∧ (∀ x, x < w.heap.size → ow x = 0) ∧ ∀ x, w.heap.size ≤ x → LD W x → ow x = 7 := by
  obtain ⟨⟨ow, h1, h2, h6⟩, h8⟩ := h
  exact ⟨reOw w.heap.size W ow, h1.re _, hZ ow _ W (fun x hx => reOw_no hx) h2, fun x hx => (reOw_low hx).trans (h6 x hx), fun x h hx => reOw_ld h hx⟩
/-- the law's own blocks are as they were -/
def Kept (R : (Nat → Nat) → World → Prop) (W W' : World) : Prop := ∃ ow, R ow W ∧ ∀ x, x < W.heap.size → ow x = 0 → W'.heap[x]? = W.heap[x]?
theorem Kept.alk {W' : World} (k : Kept R W W') {rb : Nat} {ad : Option Addr} {cap : Nat} {l : List (Int × Int)} (hA : ∀ ow V, R ow V → AllI V ow rb ad cap l) (h0 : 0 < l.length) (y : Int × Int) : AlK rb ad y W W' := by
  obtain ⟨ow, h1, h2⟩ := k
  obtain ⟨⟨h3, h4⟩, h5⟩ := hA ow W h1
  have go : ∀ (p : Addr) (v : Value), W.cell? p = some v → ow p.block = 0 → W'.cell? p = some v := fun p v hv e => by
    rw [← hv]
    exact World.cell?_of_block (w := W) (h2 _ (World.block_lt_of_cell? W _ hv) e)
  refine ⟨fun v hv => go _ v hv h4, fun g j v e hv => go _ v hv ?_⟩
  obtain ⟨g', e1, e2, _⟩ := h5 0 _ (List.getElem?_eq_getElem h0)
  rw [e] at e1
  injection e1 with e1
  injection e1 with e1
  subst e1
  exact e2
theorem UY.pastq {W' : World} (h : UY w W b N A H R) (hR : Okr R) (hB : Below W.heap.size W W') : UY w W' b N A H R := by
  obtain ⟨⟨ow, h1, h2, h6⟩, h8⟩ := h
  exact ⟨⟨grow ow W.heap.size 0, h1.past hB, hR.st (fun _ => False) ow _ W W' (fun _ e => e.elim) (Mo.below hB) h2, fun x hx => (grow_lt (Nat.lt_of_lt_of_le hx h8.size)).trans (h6 x hx)⟩, h8.trans (hB.mono h8.size)⟩
theorem UY.imp {R' : (Nat → Nat) → World → Prop} (h : UY w W b N A H R) (hR : ∀ ow V, R ow V → R' ow V) : UY w W b N A H R' := by
  obtain ⟨⟨ow, h1, h2, h6⟩, h8⟩ := h
  exact ⟨⟨ow, h1, hR _ _ h2, h6⟩, h8⟩
theorem UY.boxq (h : UY w W b N A H R) (hR : Stq (fun _ => False) R) (T : TypeId) (l : List Value) (j : Nat) : UY w (W.alloc (.cells l.toArray T)) b N A H fun ow V => R ow V ∧ (CBox V W.heap.size T l ∧ ow W.heap.size = j) := by
  have hB : Below W.heap.size W (W.alloc (.cells l.toArray T)) := (Below.refl _ _).alloc (Nat.le_refl _) _
  obtain ⟨⟨ow, h1, h2, h6⟩, h8⟩ := h
  exact ⟨⟨grow ow W.heap.size j, h1.past hB, ⟨hR (fun _ => False) ow _ W _ (fun _ e => e) (Mo.below hB) h2, CBox.new W T l, grow_ge (Nat.le_refl _)⟩, fun x hx => (grow_lt (Nat.lt_of_lt_of_le hx h8.size)).trans (h6 x hx)⟩, h8.trans (hB.mono h8.size)⟩
theorem Stq.none {Q : Nat → Prop} (h : Stq Q R) : Stq (fun _ => False) R := fun P ow ow' W W' h0 m r => h P ow ow' W W' (fun x e => (h0 x e).elim) m r
/-- a store into a number's box, whose owner is j -/
theorem UY.setq {nb j : Nat} {v : Value} (h : UY w W b N A H fun ow V => R ow V ∧ (CBox V nb 3 [v] ∧ ow nb = j)) (hR : Stq (fun x => x = j) R) (hj : j ≠ 1) (hj0 : j ≠ 0) (u : Value) : UY w (W.setCell ⟨nb, 0, none⟩ u) b N A H (fun ow V => R ow V ∧ (CBox V nb 3 [u] ∧ ow nb = j)) ∧ (∀ B, KeepsLD B W (W.setCell ⟨nb, 0, none⟩ u)) ∧ Kept R W (W.setCell ⟨nb, 0, none⟩ u) := by
  obtain ⟨⟨ow, h1, ⟨h2, h3, h4⟩, h6⟩, h8⟩ := h
  have hB : But (fun q => q = nb) W (W.setCell ⟨nb, 0, none⟩ u) := (But.refl (fun q => q = nb) W).setCell ⟨nb, 0, none⟩ _ (Or.inl rfl)
  have hp : ¬ IsPr W nb := fun ⟨v, l, hv, e⟩ => by
    obtain ⟨ad, cap, rfl⟩ := hv.form
    have ho : Own ad nb := by
      cases ad with
      | none => cases e
      | some a => injection e with e; exact ⟨a, rfl, e.symm⟩
    exact row_box hv h3 (by decide) ho rfl
  have m : Mo (fun x => x = j) ow ow W (W.setCell ⟨nb, 0, none⟩ u) := ⟨hB.mono fun x e => by subst e; exact ⟨h4, hp⟩, fun _ _ => rfl⟩
  obtain ⟨l1, l2⟩ := m.low h6 (fun e => hj0 e.symm) h8.size
  refine ⟨⟨⟨ow, h1.mo m (fun e => hj e.symm), ⟨hR _ _ _ _ _ (fun _ e => e) m h2, h3.set 0 u, h4⟩, l2⟩, h8.trans l1⟩, fun B => KeepsLD.of (keeps_box h3 hB), ow, h2, fun x hx e => hB.block x hx fun e9 => ?_⟩
  subst e9
  omega
/-- a step of the table keeps all records -/
theorem UY.tL {f : FuncId} {args : Array Value} {r : Value} {A' : List (Int × Int)} {H' : List (List (Int × Int))} (h : UY w W b N A H R) (hR : Okr R) (q : ∀ ow, T1 W ow 1 b N A H → Calls Try.prog f args W fun e w' => e = .returned r ∧ ∃ ow', T1 w' ow' 1 b (N + 1) A' H' ∧ Mo (fun x => x = 1) ow ow' W w') : Calls Try.prog f args W fun e w' => e = .returned r ∧ UY w w' b (N + 1) A' H' R ∧ (∀ B, KeepsLD B W w') ∧ Kept R W w' := by
  obtain ⟨ow, h1, h2, h6, h7⟩ := h.re hR.nl
  have h8 := h.bel
  refine (q ow h1).mono ?_
  rintro e w' ⟨rfl, ow', q1, m⟩
  obtain ⟨l1, l2⟩ := m.low h6 (by omega) h8.size
  refine ⟨rfl, ⟨⟨_, q1, hR.st _ _ _ _ _ (fun _ e => Or.inl e) m h2, l2⟩, h8.trans l1⟩, fun B => ⟨m.but.size, fun k o _ ho hL => ?_⟩, ow, h2, fun x hx e => m.but.block x hx fun e9 => ?_⟩
  · refine (m.but.block k (Array.getElem?_eq_some_iff.1 ho).1 fun e => ?_).trans ho
    have h9 := e.1
    rcases Nat.lt_or_ge k w.heap.size with h | h
    · have := h6 k h; omega
    · have := h7 k h ⟨o, ho, hL⟩; omega
  · have := e9.1
    omega
theorem UY.doL (h : UY w W b N A H R) (hR : Okr R) (hN : N < 274877906944) (kd : Int) (two : Bool) (k v : Int) (hk : I64 k) : Calls Try.prog 38 #[.pointer (some ⟨b, 0, none⟩), .agg #[.int .i64 kd, .bool two, .int .i64 k, .int .i64 v]] W fun e w' => e = .returned (.tuple #[]) ∧ UY w w' b (N + 1) (nxA kd k v A H) (nxH kd k A H) R ∧ (∀ B, KeepsLD B W w') ∧ Kept R W w' := h.tL hR fun ow ht => do_is W ow 1 b N A H ht hN kd two k v hk
/-- what the laws of ranges do to records leaves it -/
theorem UY.own {W' : World} {row : Option Nat} (h : UY w W b N A H R) (hR : Okr R) (hg : W.grownBy W' row) (hr : ∀ r, row = some r → w.heap.size ≤ r ∧ ∃ o : Obj, W.heap[r]? = some o ∧ isLD o = true) : UY w W' b N A H R := by
  obtain ⟨ow, h1, h2, h6, h7⟩ := h.re hR.nl
  have h8 := h.bel
  have m : Mo (fun x => x = 7) ow (grow ow W.heap.size 0) W W' := by
    refine ⟨⟨hg.os, hg.tape, hg.output, hg.size, fun k hk hn => hg.block k hk fun e => hn ?_⟩, fun x hx => grow_lt hx⟩
    obtain ⟨g1, o, g2, g3⟩ := hr k e.symm
    exact ⟨h7 k g1 ⟨o, g2, g3⟩, fun hp => pr_ld hp ⟨o, g2, g3⟩⟩
  obtain ⟨l1, l2⟩ := m.low h6 (by omega) h8.size
  exact ⟨⟨_, h1.mo m (by omega), hR.st _ _ _ _ _ (fun _ e => Or.inr e) m h2, l2⟩, h8.trans l1⟩
theorem UY.newq (hb : Below w.heap.size w W) (hW : R (fun _ => 0) W) (hR : Okr R) (N : Nat) : Calls Try.prog 37 #[] W fun e w' => ∃ b, e = .returned (.pointer (some ⟨b, 0, none⟩)) ∧ UY w w' b N [] [] R := by
  refine (new1 W (fun _ => 0) 1 N).mono ?_
  rintro e w' ⟨rfl, h1, h2⟩
  exact ⟨_, rfl, ⟨_, h1, hR.st (fun _ => False) _ _ W w' (fun _ e => e.elim) (Mo.below h2) hW, fun x hx => grow_lt (Nat.lt_of_lt_of_le hx hb.size)⟩, hb.trans (h2.mono hb.size)⟩
theorem UY.seenq (h : UY w W b N A H R) (hR : Okr R) (hN : N < 274877906944) : Calls Try.prog 40 #[.pointer (some ⟨b, 0, none⟩)] W fun e w' => ∃ ka kc va vc, e = .returned (.agg #[.slice ka A.length kc, .slice va A.length vc]) ∧ UY w (w'.alloc (.cells #[.slice ka A.length kc, .slice va A.length vc] 67)) b N A H fun ow V => R ow V ∧ RV w'.heap.size (.slice ka A.length kc) (.slice va A.length vc) A ow V := by
  obtain ⟨⟨ow, h1, h2, h6⟩, h8⟩ := h
  refine (seen_is W ow 1 b N A H h1 hN).mono ?_
  rintro e w' ⟨vk, vv, rfl, q1, q2, q3⟩
  obtain ⟨ka, kc, e1, q2'⟩ := q2
  obtain ⟨va, vc, e2, q3'⟩ := q3
  rw [List.length_map] at e1 e2
  subst e1 e2
  have hB : Below w'.heap.size w' (w'.alloc (.cells #[.slice ka A.length kc, .slice va A.length vc] 67)) := (Below.refl _ _).alloc (Nat.le_refl _) _
  have i2 : IsI w' (grow ow W.heap.size 0) (.slice ka A.length kc) (A.map Prod.fst) := ⟨ka, kc, by rw [List.length_map], q2'⟩
  have i3 : IsI w' (grow ow W.heap.size 0) (.slice va A.length vc) (A.map Prod.snd) := ⟨va, vc, by rw [List.length_map], q3'⟩
  have z1 := q1.size
  have z0 := h8.size
  have r1 := hR.st (fun _ => False) ow _ W w' (fun _ e => e.elim) (Mo.below (i := 0) q1) h2
  have r2 := hR.st (fun _ => False) _ _ w' _ (fun _ e => e.elim) (Mo.below (i := 0) hB) r1
  refine ⟨ka, kc, va, vc, rfl, ⟨grow (grow ow W.heap.size 0) w'.heap.size 0, (h1.past q1).past hB, ⟨r2, ⟨i2.past hB, i3.past hB⟩, CBox.new w' _ [_, _], grow_ge (Nat.le_refl _)⟩, fun x hx => ?_⟩, (h8.trans (q1.mono z0)).trans (hB.mono (by omega))⟩
  rw [grow_lt (by omega), grow_lt (by omega)]
  exact h6 x hx
theorem UY.allq (h : UY w W b N A H R) (hR : Okr R) (hN : N < 274877906944) : Calls Try.prog 53 #[.pointer (some ⟨b, 0, none⟩), .func (.func 54) #[] #[]] W fun e w' => ∃ rb ad cap, e = .returned (.func (.func 82) #[] #[.pointer (some ⟨rb, 0, none⟩)]) ∧ UY w w' b N A H fun ow V => R ow V ∧ AllI V ow rb ad cap A := by
  obtain ⟨⟨ow, h1, h2, h6⟩, h8⟩ := h
  refine (all1 W ow 1 b N A H h1 (by omega)).mono ?_
  rintro e w' ⟨rb, ad, cap, rfl, q1, q2, _⟩
  exact ⟨rb, ad, cap, rfl, ⟨grow ow W.heap.size 0, h1.past q2, ⟨hR.st (fun _ => False) ow _ W w' (fun _ e => e.elim) (Mo.below q2) h2, q1⟩, fun x hx => (grow_lt (Nat.lt_of_lt_of_le hx h8.size)).trans (h6 x hx)⟩, h8.trans (q2.mono h8.size)⟩
end
theorem AllI.ale {W : World} {ow : Nat → Nat} {rb : Nat} {ad : Option Addr} {cap : Nat} {l : List (Int × Int)} (h : AllI W ow rb ad cap l) : AlE rb ad cap l W := ⟨h.1.1, fun i p hp => by obtain ⟨g, e, _, c0, c1⟩ := h.2 i p hp; exact ⟨g, e, c0, c1⟩⟩
/-- marks among a frame's deferred calls -/
def Mrk (B r : Nat) (ds : List Deferred) (W : World) : Prop := ∃ Ds : List Nat, ds = Ds.map (fun D => { target := .collected D, args := #[] }) ∧ Ds.length = r ∧ Ds.Nodup ∧ ∀ D ∈ Ds, B ≤ D ∧ W.heap[D]? = some (.deferred (some []))
theorem Mrk.nil (B : Nat) (W : World) : Mrk B 0 [] W := ⟨[], rfl, rfl, List.nodup_nil, fun _ h => by cases h⟩
theorem Mrk.keep {B r : Nat} {ds : List Deferred} {W W' : World} (h : Mrk B r ds W) (k : KeepsLD 0 W W') : Mrk B r ds W' := by
  obtain ⟨Ds, h1, h2, h3, h4⟩ := h
  exact ⟨Ds, h1, h2, h3, fun D hD => ⟨(h4 D hD).1, k.same D _ (Nat.zero_le _) (h4 D hD).2 rfl⟩⟩
theorem Mrk.cons {B r D : Nat} {ds : List Deferred} {W W' : World} (h : Mrk B r ds W) (k : KeepsLD 0 W W') (hB : B ≤ W.heap.size) (hD : W.heap.size ≤ D) (hd : W'.heap[D]? = some (.deferred (some []))) : Mrk B (r + 1) ({ target := .collected D, args := #[] } :: ds) W' := by
  obtain ⟨Ds, h1, h2, h3, h4⟩ := h
  have lt : ∀ x ∈ Ds, x < W.heap.size := fun x hx => (Array.getElem?_eq_some_iff.1 (h4 x hx).2).1
  refine ⟨D :: Ds, by rw [h1]; rfl, by simp [h2], List.nodup_cons.2 ⟨fun e => by have := lt D e; omega, h3⟩, fun x hx => ?_⟩
  rcases List.mem_cons.1 hx with rfl | hx
  · exact ⟨by omega, hd⟩
  · exact ⟨(h4 x hx).1, k.same x _ (Nat.zero_le _) (h4 x hx).2 rfl⟩
theorem leaves_mrk {F : Fence} {n : Nat} {P : Program} {fn : Func} {tmps : Array Value} {R : Ending → World → Prop} {B : Nat} {J : World → Prop} (hJ : OwnLD B (fun (_ : Unit) W => J W)) (hR : ∀ W, J W → LeavesInM F n P fn tmps R [] .returning W) :
    ∀ (r : Nat) (ds : List Deferred) (W : World), Mrk B r ds W → J W → LeavesInM F n P fn tmps R ds .returning W := by
  intro r
  induction r with
  | zero =>
    rintro ds W ⟨Ds, rfl, h2, _⟩ hj
    obtain rfl : Ds = [] := List.eq_nil_of_length_eq_zero h2
    exact hR W hj
  | succ r ih =>
    rintro ds W ⟨Ds, rfl, h2, h3, h4⟩ hj
    obtain ⟨D, Ds', rfl⟩ : ∃ D Ds', Ds = D :: Ds' := by
      cases Ds with
      | nil => cases h2
      | cons D Ds' => exact ⟨D, Ds', rfl⟩
    obtain ⟨g1, g2⟩ := h4 D (List.mem_cons_self ..)
    have hn := List.nodup_cons.1 h3
    refine ⟨by simp, .inl ⟨_, _, rfl, run_takeDeferred g2, ?_⟩⟩
    refine ih _ _ ⟨Ds', rfl, by simpa using h2, hn.2, fun x hx => ⟨(h4 x (List.mem_cons_of_mem _ hx)).1, ?_⟩⟩ (hJ.putObj (s := ()) _ hj g1 g2 rfl)
    refine (World.putObj_heap_other (fun e => ?_)).trans (h4 x (List.mem_cons_of_mem _ hx)).2
    subst e
    exact hn.1 hx
end Go.Proofs.Ytohfkgfjcnldaaa
/- Regions inside a round of a loop over a function: walked by the laws for regions outside of one. -/
namespace Go.Proofs.Ytohfkgfjcnldaaa
open Go.RowKit
theorem upon_round {P : Program} {o : Oper} {a : Act} {next next' : Act → World → Prop} {Q : Exit → Act → World → Prop} (r n : Nat) (hn : ∀ a w, next a w → next' a w) (x : Result Next) (h : o.upon P a next Q x) : o.uponIn (Fence.wide.inRound r) n P a next' Q x := by
  cases x with
  | ok v w =>
    cases v with
    | value v => exact hn _ _ h
    | skip => exact hn _ _ h
    | defer d => exact hn _ _ h
    | enter f args =>
      refine ⟨fun hh => (by cases hh), CallsIn.inRound r (callsIn_wide.2 (Calls.mono h ?_))⟩
      intro e w' he
      cases e with
      | returned v => exact hn _ _ he
      | panicked ch => exact he
      | outgrown => exact he
    | row row args =>
      refine ⟨fun hh => (by cases hh), fun c cs _ => ?_⟩
      obtain ⟨v, w', hv, hs⟩ := h c cs
      exact ⟨v, w', hn _ _ hv, stepsIn_wide.2 hs⟩
    | _ => exact h.elim
  | halt e w =>
    cases e with
    | panic v => exact h
    | _ => exact h.elim
theorem ops_round {P : Program} {ops : Array Oper} {Q : Exit → Act → World → Prop} (hd : ∀ o ∈ ops.toList, ∀ c, o.op ≠ .defer c) (hQ : ¬ LetsOut Q) (r n : Nat) :
    ∀ (l : List Nat) (a : Act) (w : World), wpOps P ops Q l a w → wpOpsIn (Fence.wide.inRound r) n P ops Q l a w
  | [], _, _, h => h
  | i :: rest, a, w, h => by
    unfold wpOps at h
    unfold wpOpsIn
    cases ho : ops[i]? with
    | none => rw [ho] at h; exact ops_round hd hQ r n rest a w h
    | some o =>
      rw [ho] at h
      dsimp only at h ⊢
      have hm : ∀ c, o.op ≠ .defer c := hd o (by rw [← Array.getElem?_toList] at ho; exact List.mem_of_getElem? ho)
      split
      · rename_i hw
        rw [if_pos hw] at h
        refine ⟨fun _ _ => trivial, ?_⟩
        rw [Oper.semAt_eq _ _ _ hm]
        rcases h with h | h
        · exact upon_round r n (fun a w => ops_round hd hQ r n rest a w) _ h
        · exact absurd h.2 hQ
      · rename_i hw
        rw [if_neg hw] at h
        exact ⟨fun _ _ => trivial, ops_round hd hQ r n rest _ w h⟩
theorem wpIn_region_heldR {P : Program} {ops : Array Oper} {Q : Exit → Act → World → Prop} {S : World → Prop} {id : Nat} {a : Act} {w : World} {r n : Nat} (hm : P.follows .mixedOrders = true) (hd : ∀ o ∈ ops.toList, ∀ c, o.op ≠ .defer c) (hQ : ¬ LetsOut Q) (hS : S w.drew)
    (h : S w.drew → wpAnyH P .any ops Q S ops.size (Array.replicate ops.size false) a w.drew) : (Code.region id ops true).wpIn (Fence.wide.inRound r) n P Q a w :=
  wpIn_region_draw fun t => by
    simp only [Region.schedule, hm, Bool.true_or, if_true]
    exact ops_round hd hQ r n _ _ _ (wpAny_sound ops.size t _ a _ (wpAny_of_held _ _ _ _ (h hS)))
theorem wpIn_region_litR {P : Program} {l : List Oper} {Q : Exit → Act → World → Prop} {id : Nat} {a : Act} {w : World} {r n : Nat} (hd : ∀ o ∈ l.toArray.toList, ∀ c, o.op ≠ .defer c) (hQ : ¬ LetsOut Q) (h : wpList P l.toArray Q l a w) : (Code.region id l.toArray false).wpIn (Fence.wide.inRound r) n P Q a w :=
  wpIn_region (ops_round hd hQ r n _ _ _ (by rw [List.range_eq_range', ← Array.length_toList, wpOps_eq_wpList l.toArray.toList 0 (by simp)]; simpa using h))
end Go.Proofs.Ytohfkgfjcnldaaa
