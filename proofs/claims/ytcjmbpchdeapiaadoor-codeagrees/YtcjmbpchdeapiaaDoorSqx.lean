/- A range over a function whose elements bear memory of their own: what is told of an element is told of the world in which it comes. -/
import Derived.Test.YtcjmbpchdeapiaaDoorRows
import Derived.RangeFuncNested
import Derived.RangeFuncBound
import Derived.RangeFuncCalls
import Derived.RangeFuncLeaves
import Derived.WalkKit
namespace Go.Proofs.YtcjmbpchdeapiaaDoor
open Go.RowKit
/-- what a function that is ranged over promises: C: how an element comes (behind which world, in which one) -/
def SeqW {α : Type} (F : Fence) (n : Nat) (P : Program) (g : Nat) (lb : Array Value) (encs : α → Array Value) (C : List α → α → World → World → Prop) (Kp : α → World → World → Prop) (S Sp : List α → Prop) (w : World) : Prop :=
  ∀ (l : Nat) (J Jx : List α → World → Prop) (W : World), Below w.heap.size w W →
    (∀ pre x W0 W1, J pre W0 → C pre x W0 W1 → YieldAt F (n - 1) P l (encs x) W1 fun e W' =>
      (e = .returned (.bool true) ∧ J (pre ++ [x]) W' ∧ Kp x W1 W') ∨ (e = .returned (.bool false) ∧ Jx (pre ++ [x]) W')) →
    J [] W →
    CallsIn F n P g (#[.func (.yield l) #[] #[]] ++ lb) W fun e W' => (∃ v, e = .returned v) ∧
      ((∃ xs, S xs ∧ ∃ W0, J xs W0 ∧ Below W0.heap.size W0 W') ∨ (∃ pre, Sp pre ∧ Jx pre W'))
theorem grown_below {W W' : World} (h : Below W.heap.size W W') : W.grownBy W' none := ⟨h.os, h.tape, h.output, h.size, fun k hk _ => h.block k hk⟩
theorem own_past {β : Type} {B : Nat} {I : β → World → Prop} (h : OwnFrom B I) {s : β} {W W' : World} (hs : I s W) (hb : Below W.heap.size W W') : I s W' := h s W W' none hs (grown_below hb) (fun r e => by cases e)
section
variable {F : Fence} {n : Nat} {P : Program} {α : Type} {g : Operand} {ps : Array Tmp} {assign body : Code} {Q : Exit → Act → World → Prop} {a : Act} {w : World}
/-- the loop's round, its record being block l -/
theorem round_x {fn : Nat} (hfn : F.fn fn) {B l : Nat} (hl : B ≤ l) (rec : LoopState → Option Code → Loop) (dd : Nat) (hrec : rec = fun st pe => { state := st, pending := pe, fn, tmps := a.tmps, params := ps, assign, body, defers := dd })
    {encs : α → Array Value} {Kp : α → World → World → Prop} (hps : ∀ x, (encs x).size = ps.size)
    (hKt : ∀ (x : α) (A0 B0 C0 : World), Kp x A0 B0 → Kp x B0 C0 → Kp x A0 C0) (hKb : ∀ (x : α) (W : World) (r : Nat) (o o' : Obj), B ≤ r → W.heap[r]? = some o → o.isCells = false → Kp x W (W.putObj r o'))
    (I : List α → World → Prop) (Ix : Code → List α → World → Prop) (Ic : List α → α → World → Prop) (hI : OwnFrom B I) (hIx : ∀ c, OwnFrom B (Ix c)) (hIc : ∀ pre x, OwnFrom B (fun (_ : Unit) W => Ic pre x W)) (Ax : α → Act → World → Prop) (hAx : ∀ x a', OwnFrom B (fun (_ : Unit) W => Ax x a' W))
    (hassign : ∀ (pre : List α) (x : α) (W : World) (K : Act → World → Prop), Ic pre x W → (∀ a' W', KeepsFrom B W W' → Kp x W W' → Ic pre x W' → Ax x a' W' → K a' W') →
      assign.wpIn (F.inRound l) (n - 1 - 1) P (Exit.then K (fun _ _ _ => False)) { tmps := (ps.zip (encs x)).foldl (fun t (p, v) => t.setIfInBounds p v) a.tmps, defers := [] } W)
    (hbody : ∀ (pre : List α) (x : α) (a' : Act) (W : World), (∃ r, W.heap[l]? = some (.loop r)) → Ic pre x W → Ax x a' W → body.wpIn (F.inRound l) (n - 1 - 1) P (ownPostG B (Kp x) I Ix (pre ++ [x]) W) a' W)
    (X : World → Prop) (hX : ∀ W W', KeepsFrom B W W' → X W → X W') (hXl : ∀ W o, X W → X (W.putObj l o))
    (pre : List α) (x : α) (W : World) (hi : Ic pre x W) (hlr : W.heap[l]? = some (.loop (rec .ready none))) (hx : X W) :
    YieldAt F (n - 1 - 1) P l (encs x) W fun e W' => (e = .returned (.bool true) ∧ (I (pre ++ [x]) W' ∧ W'.heap[l]? = some (.loop (rec .ready none)) ∧ X W') ∧ Kp x W W') ∨
      (e = .returned (.bool false) ∧ ∃ c, Ix c (pre ++ [x]) W' ∧ W'.heap[l]? = some (.loop (rec .done (some c))) ∧ X W') := by
  have hy := run_yield (P := P) (args := encs x) hlr (by rw [hrec]; exact hps x)
  rw [hrec] at hy
  refine ⟨fn, _, assign, body, hy, roundIn_of_wpIn hfn (hassign pre x W _ hi ?_)⟩
  clear hy
  intro a' V hkf hkp hic hax
  have hl1 := hkf.same _ _ hl hlr rfl
  have hlt : l < V.heap.size := (Array.getElem?_eq_some_iff.1 hl1).1
  refine ⟨_, run_beginRound hl1 (by rw [hrec]), ?_⟩
  have hl2 : (V.putObj l (.loop { rec .ready none with state := .busy })).heap[l]? = some (.loop { rec .ready none with state := .busy }) := World.putObj_heap_same hlt
  have hk2 : Kp x V (V.putObj l (.loop { rec .ready none with state := .busy })) := hKb _ _ _ _ _ hl hl1 rfl
  have hx2 := hXl _ (.loop { rec .ready none with state := .busy }) (hX _ _ hkf hx)
  have hi2 : Ic pre x (V.putObj l (.loop { rec .ready none with state := .busy })) := (hIc pre x).putObj (s := ()) _ hic hl hl1 rfl
  have ha2 : Ax x a' (V.putObj l (.loop { rec .ready none with state := .busy })) := (hAx x a').putObj (s := ()) _ hax hl hl1 rfl
  refine wpIn_mono (hbody pre x a' _ ⟨_, hl2⟩ hi2 ha2) ?_
  generalize V.putObj l (.loop { rec .ready none with state := .busy }) = V2 at hl2 hk2 hx2
  have fin : ∀ (jump : Option Code) (W3 : World), KeepsFrom B V2 W3 →
      (Instr.endRound l jump).run P W3 = .ok (.bool jump.isNone) (W3.putObj l (.loop (rec (if jump.isNone then .ready else .done) jump))) ∧ W3.heap[l]? = some (.loop { rec .ready none with state := .busy }) ∧
      (W3.putObj l (.loop (rec (if jump.isNone then .ready else .done) jump))).heap[l]? = some (.loop (rec (if jump.isNone then .ready else .done) jump)) := fun jump W3 hk3 => by
    have hl3 := hk3.same _ _ hl hl2 rfl
    have h := run_endRound (P := P) jump hl3
    rw [hrec] at h ⊢
    exact ⟨h, by rw [hrec] at hl3; exact hl3, World.putObj_heap_same (Array.getElem?_eq_some_iff.1 hl3).1⟩
  have off : ∀ (c : Code) (W3 : World), KeepsFrom B V2 W3 → Ix c (pre ++ [x]) W3 → ∃ v w', (Instr.endRound l (some c)).run P W3 = .ok v w' ∧ ((Ending.returned v = .returned (.bool true) ∧ (I (pre ++ [x]) w' ∧ w'.heap[l]? = some (.loop (rec .ready none)) ∧ X w') ∧ Kp x W w') ∨
      (Ending.returned v = .returned (.bool false) ∧ ∃ c, Ix c (pre ++ [x]) w' ∧ w'.heap[l]? = some (.loop (rec .done (some c))) ∧ X w')) := fun c W3 hk3 hi3 => by
    obtain ⟨hr, hl3, hl4⟩ := fin (some c) W3 hk3
    exact ⟨_, _, hr, .inr ⟨rfl, c, (hIx c).putObj _ hi3 hl hl3 rfl, hl4, hXl _ _ (hX _ _ hk3 hx2)⟩⟩
  rintro e a3 W3 hp
  cases e with
  | normal =>
    obtain ⟨hk3, hkp3, hi3⟩ := hp
    obtain ⟨hr, hl3, hl4⟩ := fin none W3 hk3
    exact ⟨_, _, hr, .inl ⟨rfl, ⟨hI.putObj _ hi3 hl hl3 rfl, hl4, hXl _ _ (hX _ _ hk3 hx2)⟩, hKt _ _ _ _ hkp (hKt _ _ _ _ (hKt _ _ _ _ hk2 hkp3) (hKb _ _ _ _ _ hl hl3 rfl))⟩⟩
  | ret => exact off .ret W3 hp.1 hp.2
  | exit id => exact off (.exit id) W3 hp.1 hp.2
  | goto t => exact off (.goto t) W3 hp.1 hp.2
  | panic ch => exact hp.elim
  | outgrown => exact hp.elim
/-- an outermost loop -/
theorem wpIn_rangeFunc_x (hro : F.round = none) (h1 : 1 ≤ n) {gf : Nat} {lb : Array Value} (hg : a.eval g = .func (.func gf) #[] lb) (hFg : F.fn gf) (eg : ∀ args w, (callFunc gf args).run P w = .ok (.enter gf args) w)
    {encs : α → Array Value} {C : List α → α → World → World → Prop} {Kp : α → World → World → Prop} {S Sp : List α → Prop} {w0 : World} (hseq : SeqW F (n - 1) P gf lb encs C Kp S Sp w0)
    (hKt : ∀ (x : α) (A B C : World), Kp x A B → Kp x B C → Kp x A C) (hKb : ∀ (x : α) (W : World) (r : Nat) (o o' : Obj), w.heap.size ≤ r → W.heap[r]? = some o → o.isCells = false → Kp x W (W.putObj r o')) (hb0 : Below w0.heap.size w0 w) (hps : ∀ x, (encs x).size = ps.size)
    (hCk : ∀ pre x W0 W1, C pre x W0 W1 → KeepsFrom w.heap.size W0 W1)
    (I : List α → World → Prop) (Ix : Code → List α → World → Prop) (Ic : List α → α → World → Prop) (hI : OwnFrom w.heap.size I) (hIx : ∀ c, OwnFrom w.heap.size (Ix c)) (hIc : ∀ pre x, OwnFrom w.heap.size (fun (_ : Unit) W => Ic pre x W)) (hcome : ∀ pre x W0 W1, I pre W0 → C pre x W0 W1 → Ic pre x W1) (h0 : I [] w) (Ax : α → Act → World → Prop) (hAx : ∀ x a', OwnFrom w.heap.size (fun (_ : Unit) W => Ax x a' W))
    (hassign : ∀ (l : Nat) (pre : List α) (x : α) (W : World) (K : Act → World → Prop), Ic pre x W → (∀ a' W', KeepsFrom w.heap.size W W' → Kp x W W' → Ic pre x W' → Ax x a' W' → K a' W') →
      assign.wpIn (F.inRound l) (n - 1 - 1) P (Exit.then K (fun _ _ _ => False)) { tmps := (ps.zip (encs x)).foldl (fun t (p, v) => t.setIfInBounds p v) a.tmps, defers := [] } W)
    (hbody : ∀ (l : Nat) (pre : List α) (x : α) (a' : Act) (W : World), w.heap.size ≤ l → (∃ r, W.heap[l]? = some (.loop r)) → Ic pre x W → Ax x a' W → body.wpIn (F.inRound l) (n - 1 - 1) P (ownPostG w.heap.size (Kp x) I Ix (pre ++ [x]) W) a' W)
    (hdone : ∀ (D : Nat) (xs : List α) (W : World), w.heap.size ≤ D → S xs → I xs W → W.heap[D]? = some (.deferred (some [])) → Q .normal { a with defers := { target := .collected D, args := #[] } :: a.defers } W)
    (hstop : ∀ (D : Nat) (c : Code) (pre : List α) (W : World), w.heap.size ≤ D → Sp pre → Ix c pre W → W.heap[D]? = some (.deferred (some [])) → c.wpIn F n P Q { a with defers := { target := .collected D, args := #[] } :: a.defers } W) :
    (Code.rangeFunc g ps assign body).wpIn F n P Q a w := by
  refine wpIn_rangeFunc ?_
  intro fn hfn
  rw [hro]
  obtain ⟨rec, hrec⟩ : ∃ rec : LoopState → Option Code → Loop, rec = fun st pe => { state := st, pending := pe, fn, tmps := a.tmps, params := ps, assign, body, defers := w.heap.size } := ⟨_, rfl⟩
  obtain ⟨W1, hW1⟩ : ∃ W1, (w.alloc (.deferred (some []))).alloc (.loop (rec .ready none)) = W1 := ⟨_, rfl⟩
  have hB1 : Below w.heap.size w W1 := by rw [← hW1]; exact ((Below.refl _ w).alloc (Nat.le_refl _) _).alloc (by simp) _
  have hL1 : W1.heap[w.heap.size + 1]? = some (.loop (rec .ready none)) := by
    rw [← hW1]; have := World.alloc_heap_new (w.alloc (.deferred (some []))) (.loop (rec .ready none)); rwa [World.size_alloc] at this
  have hD1 : W1.heap[w.heap.size]? = some (.deferred (some [])) := by
    rw [← hW1]; exact (Below.heap_alloc _ _ _ (by simp)).trans (World.alloc_heap_new w _)
  refine ⟨w.heap.size + 1, [{ target := .collected w.heap.size, args := #[] }], W1, { target := .fn (.func gf) lb, args := #[.func (.yield (w.heap.size + 1)) #[] #[]] }, W1, gf,
    #[.func (.yield (w.heap.size + 1)) #[] #[]] ++ lb, W1, ?_, ?_, ?_, ?_, fun _ => h1, ?_⟩
  · rw [← hW1, hrec]; exact run_enterLoop_outer _ _ _ _ _
  · simp only [resolve, hg]
    simp [go_sem]
  · intro f' hf'; simp [Target.leads] at hf'; subst hf'; exact hFg
  · simp [invoke, go_sem, eg]
  · refine (hseq (w.heap.size + 1)
      (fun pre W => I pre W ∧ W.heap[w.heap.size + 1]? = some (.loop (rec .ready none)) ∧ W.heap[w.heap.size]? = some (.deferred (some [])))
      (fun pre W => ∃ c, Ix c pre W ∧ W.heap[w.heap.size + 1]? = some (.loop (rec .done (some c))) ∧ W.heap[w.heap.size]? = some (.deferred (some [])))
      W1 (hb0.trans (hB1.mono hb0.size)) ?_ ⟨own_past hI h0 hB1, hL1, hD1⟩).mono ?_
    · rintro pre x W V ⟨hi, hlr, hd⟩ hC
      have hkf := hCk _ _ _ _ hC
      exact round_x (n := n) (P := P) (Kp := Kp) hfn (Nat.le_succ _) rec w.heap.size hrec hps hKt hKb I Ix Ic hI hIx hIc Ax hAx (fun pre x W K => hassign _ pre x W K) (fun pre x a' W => hbody _ pre x a' W (Nat.le_succ _)) (fun W => W.heap[w.heap.size]? = some (.deferred (some []))) (fun W W' hk h => hk.same _ _ (Nat.le_refl _) h rfl) (fun W o h => (World.putObj_heap_other (by omega)).trans h) pre x V (hcome _ _ _ _ hi hC) (hkf.same _ _ (Nat.le_succ _) hlr rfl) (hkf.same _ _ (Nat.le_refl _) hd rfl)
    · rintro e W2 ⟨⟨v, rfl⟩, (⟨xs, hS, W0, ⟨hi, hlr, hd⟩, hbw⟩ | ⟨pre, hSp, c, hi, hlr, hd⟩)⟩
      · have hl2 := (hbw.block _ (Array.getElem?_eq_some_iff.1 hlr).1).trans hlr
        have hd2 := (hbw.block _ (Array.getElem?_eq_some_iff.1 hd).1).trans hd
        exact ⟨none, _, by have := run_endLoop (P := P) hl2 (by rw [hrec]; simp); rw [hrec] at this; exact this, hdone _ xs _ (Nat.le_refl _) hS (hI.putObj _ (own_past hI hi hbw) (Nat.le_succ _) hl2 rfl) ((World.putObj_heap_other (by omega)).trans hd2)⟩
      · exact ⟨some c, _, by have := run_endLoop (P := P) hlr (by rw [hrec]; simp); rw [hrec] at this; exact this, hstop _ c pre _ (Nat.le_refl _) hSp ((hIx c).putObj _ hi (Nat.le_succ _) hlr rfl) ((World.putObj_heap_other (by omega)).trans hd)⟩
/-- a loop within a round of loop l₀ -/
theorem wpIn_rangeFunc_xN {l₀ : Nat} {r₀ : Loop} (hro : F.round = some l₀) (hl₀ : w.heap[l₀]? = some (.loop r₀)) (h1 : 1 ≤ n) {gf : Nat} {lb : Array Value} (hg : a.eval g = .func (.func gf) #[] lb) (hFg : F.fn gf) (eg : ∀ args w, (callFunc gf args).run P w = .ok (.enter gf args) w)
    {encs : α → Array Value} {C : List α → α → World → World → Prop} {Kp : α → World → World → Prop} {S Sp : List α → Prop} {w0 : World} (hseq : SeqW F (n - 1) P gf lb encs C Kp S Sp w0)
    (hKt : ∀ (x : α) (A B C : World), Kp x A B → Kp x B C → Kp x A C) (hKb : ∀ (x : α) (W : World) (r : Nat) (o o' : Obj), w.heap.size ≤ r → W.heap[r]? = some o → o.isCells = false → Kp x W (W.putObj r o')) (hb0 : Below w0.heap.size w0 w) (hps : ∀ x, (encs x).size = ps.size)
    (hCk : ∀ pre x W0 W1, C pre x W0 W1 → KeepsFrom w.heap.size W0 W1)
    (I : List α → World → Prop) (Ix : Code → List α → World → Prop) (Ic : List α → α → World → Prop) (hI : OwnFrom w.heap.size I) (hIx : ∀ c, OwnFrom w.heap.size (Ix c)) (hIc : ∀ pre x, OwnFrom w.heap.size (fun (_ : Unit) W => Ic pre x W)) (hcome : ∀ pre x W0 W1, I pre W0 → C pre x W0 W1 → Ic pre x W1) (h0 : I [] w) (Ax : α → Act → World → Prop) (hAx : ∀ x a', OwnFrom w.heap.size (fun (_ : Unit) W => Ax x a' W))
    (hassign : ∀ (l : Nat) (pre : List α) (x : α) (W : World) (K : Act → World → Prop), Ic pre x W → (∀ a' W', KeepsFrom w.heap.size W W' → Kp x W W' → Ic pre x W' → Ax x a' W' → K a' W') →
      assign.wpIn (F.inRound l) (n - 1 - 1) P (Exit.then K (fun _ _ _ => False)) { tmps := (ps.zip (encs x)).foldl (fun t (p, v) => t.setIfInBounds p v) a.tmps, defers := [] } W)
    (hbody : ∀ (l : Nat) (pre : List α) (x : α) (a' : Act) (W : World), w.heap.size ≤ l → (∃ r, W.heap[l]? = some (.loop r)) → Ic pre x W → Ax x a' W → body.wpIn (F.inRound l) (n - 1 - 1) P (ownPostG w.heap.size (Kp x) I Ix (pre ++ [x]) W) a' W)
    (hdone : ∀ (xs : List α) (W : World), S xs → I xs W → Q .normal a W)
    (hstop : ∀ (c : Code) (pre : List α) (W : World), Sp pre → Ix c pre W → c.wpIn F n P Q a W) :
    (Code.rangeFunc g ps assign body).wpIn F n P Q a w := by
  refine wpIn_rangeFunc ?_
  intro fn hfn
  rw [hro]
  obtain ⟨rec, hrec⟩ : ∃ rec : LoopState → Option Code → Loop, rec = fun st pe => { state := st, pending := pe, fn, tmps := a.tmps, params := ps, assign, body, defers := r₀.defers } := ⟨_, rfl⟩
  obtain ⟨W1, hW1⟩ : ∃ W1, w.alloc (.loop (rec .ready none)) = W1 := ⟨_, rfl⟩
  have hB1 : Below w.heap.size w W1 := by rw [← hW1]; exact (Below.refl _ w).alloc (Nat.le_refl _) _
  have hL1 : W1.heap[w.heap.size]? = some (.loop (rec .ready none)) := by rw [← hW1]; exact World.alloc_heap_new w _
  refine ⟨w.heap.size, [], W1, { target := .fn (.func gf) lb, args := #[.func (.yield w.heap.size) #[] #[]] }, W1, gf,
    #[.func (.yield w.heap.size) #[] #[]] ++ lb, W1, ?_, ?_, ?_, ?_, fun _ => h1, ?_⟩
  · rw [← hW1, hrec]; exact run_enterLoop_inner hl₀ _ _ _ _ _
  · simp only [resolve, hg]
    simp [go_sem]
  · intro f' hf'; simp [Target.leads] at hf'; subst hf'; exact hFg
  · simp [invoke, go_sem, eg]
  · refine (hseq w.heap.size
      (fun pre W => I pre W ∧ W.heap[w.heap.size]? = some (.loop (rec .ready none)) ∧ True)
      (fun pre W => ∃ c, Ix c pre W ∧ W.heap[w.heap.size]? = some (.loop (rec .done (some c))) ∧ True)
      W1 (hb0.trans (hB1.mono hb0.size)) ?_ ⟨own_past hI h0 hB1, hL1, trivial⟩).mono ?_
    · rintro pre x W V ⟨hi, hlr, _⟩ hC
      have hkf := hCk _ _ _ _ hC
      exact round_x (n := n) (P := P) (Kp := Kp) hfn (Nat.le_refl _) rec _ hrec hps hKt hKb I Ix Ic hI hIx hIc Ax hAx (fun pre x W K => hassign _ pre x W K) (fun pre x a' W => hbody _ pre x a' W (Nat.le_refl _)) (fun _ => True) (fun _ _ _ _ => trivial) (fun _ _ _ => trivial) pre x V (hcome _ _ _ _ hi hC) (hkf.same _ _ (Nat.le_refl _) hlr rfl) trivial
    · rintro e W2 ⟨⟨v, rfl⟩, (⟨xs, hS, W0, ⟨hi, hlr, _⟩, hbw⟩ | ⟨pre, hSp, c, hi, hlr, _⟩)⟩
      · have hl2 := (hbw.block _ (Array.getElem?_eq_some_iff.1 hlr).1).trans hlr
        exact ⟨none, _, by have := run_endLoop (P := P) hl2 (by rw [hrec]; simp); rw [hrec] at this; exact this, hdone xs _ hS (hI.putObj _ (own_past hI hi hbw) (Nat.le_refl _) hl2 rfl)⟩
      · exact ⟨some c, _, by have := run_endLoop (P := P) hlr (by rw [hrec]; simp); rw [hrec] at this; exact this, hstop c pre _ hSp ((hIx c).putObj _ hi (Nat.le_refl _) hlr rfl)⟩
end
end Go.Proofs.YtcjmbpchdeapiaaDoor
