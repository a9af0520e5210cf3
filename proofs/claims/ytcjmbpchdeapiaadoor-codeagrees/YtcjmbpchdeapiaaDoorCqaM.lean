/- A region whose operations come in their order, one by one. -/
import Derived.Test.YtcjmbpchdeapiaaDoorRows
import Derived.WalkKit
import Derived.WalkSpells
import Derived.WalkLawsBesides
import Derived.Deep.QuietTactic
import Derived.BigQuiet
import Derived.BigRegion
import Derived.Deep.CutRange
import Derived.Deep.CutBlock
import Derived.Deep.DeepCutAuto
import Derived.LoopTactic
import Derived.LoopN
import Derived.WalkMore
import Derived.Test.YtcjmbpchdeapiaaDoorSqx
import Derived.Test.YtcjmbpchdeapiaaDoorCpaM
import Derived.Test.YtcjmbpchdeapiaaDoorCee
namespace Go.Proofs.YtcjmbpchdeapiaaDoor
open Go.RowKit
theorem lst_val {P : Program} {ops : Array Oper} {Q : Exit → Act → World → Prop} {a : Act} {w : World} {rest : List Oper} {o : Oper} {v : Value} (hg : Region.wanted o (yielded ops a.tmps) = true) (hv : (execOp a.eval o).run P w = .ok (.value v) w) (h : wpList P ops Q rest (a.put o.dst v) w) : wpList P ops Q (o :: rest) a w :=
  wpList_step fun K hK => by
    rw [if_pos hg]
    unfold Oper.wp
    rw [hv]
    exact hK _ _ h
theorem lst_not {P : Program} {ops : Array Oper} {Q : Exit → Act → World → Prop} {a : Act} {w : World} {rest : List Oper} {o : Oper} (hg : Region.wanted o (yielded ops a.tmps) = false) (h : wpList P ops Q rest (a.put o.dst undef) w) : wpList P ops Q (o :: rest) a w :=
  wpList_step fun K hK => by
    rw [if_neg (by rw [hg]; simp)]
    exact hK _ _ h
theorem lst_call {P : Program} {ops : Array Oper} {Q : Exit → Act → World → Prop} {a : Act} {w : World} {rest : List Oper} {o : Oper} {f : FuncId} {args : Array Value} {R : Ending → World → Prop} (hg : Region.wanted o (yielded ops a.tmps) = true) (hv : (execOp a.eval o).run P w = .ok (.enter f args) w) (hc : Calls P f args w R) (h : ∀ e w', R e w' → ∃ v, e = .returned v ∧ wpList P ops Q rest (a.put o.dst v) w') : wpList P ops Q (o :: rest) a w :=
  wpList_step fun K hK => by
    rw [if_pos hg]
    unfold Oper.wp
    rw [hv, Oper.upon_enter]
    refine Calls.mono hc fun e w' hr => ?_
    obtain ⟨v, rfl, hh⟩ := h e w' hr
    exact hK _ _ hh
end Go.Proofs.YtcjmbpchdeapiaaDoor
/- A range over a function, where the body may write maps: it keeps the records of loops and of deferred calls. -/
namespace Go.Proofs.YtcjmbpchdeapiaaDoor
open Go.RowKit
/-- a record of a loop, or of deferred calls -/
def isLD : Obj → Bool
  | .loop _ => true
  | .deferred _ => true
  | _ => false
structure KeepsLD (B : Nat) (W W' : World) : Prop where
  size : W.heap.size ≤ W'.heap.size
  same : ∀ (k : Nat) (o : Obj), B ≤ k → W.heap[k]? = some o → isLD o = true → W'.heap[k]? = some o
theorem KeepsLD.refl (B : Nat) (W : World) : KeepsLD B W W := ⟨Nat.le_refl _, fun _ _ _ h _ => h⟩
theorem KeepsLD.trans {B : Nat} {X Y Z : World} (h : KeepsLD B X Y) (k : KeepsLD B Y Z) : KeepsLD B X Z := ⟨Nat.le_trans h.size k.size, fun i o hB hi ho => k.same i o hB (h.same i o hB hi ho) ho⟩
theorem KeepsLD.mono {B B' : Nat} {X Y : World} (h : KeepsLD B X Y) (hB : B ≤ B') : KeepsLD B' X Y := ⟨h.size, fun k o hk => h.same k o (Nat.le_trans hB hk)⟩
theorem KeepsLD.below {B : Nat} {W W' : World} (h : Below W.heap.size W W') : KeepsLD B W W' := ⟨h.size, fun k _ _ ho _ => (h.block k (Array.getElem?_eq_some_iff.1 ho).1).trans ho⟩
theorem isLD_not {o : Obj} (h : isLD o = true) : o.isCells = false := by cases o <;> first | rfl | cases h
theorem KeepsLD.of {B : Nat} {W W' : World} (h : KeepsFrom B W W') : KeepsLD B W W' := ⟨h.size, fun k o hk h1 h2 => h.same k o hk h1 (isLD_not h2)⟩
def OwnLD {β : Type} (B : Nat) (I : β → World → Prop) : Prop :=
  ∀ s W W' row, I s W → W.grownBy W' row → (∀ r, row = some r → B ≤ r ∧ ∃ o : Obj, W.heap[r]? = some o ∧ isLD o = true) → I s W'
theorem OwnLD.putObj {β : Type} {B : Nat} {I : β → World → Prop} (h : OwnLD B I) {s : β} {W : World} {l : Nat} {o : Obj} (o' : Obj) (hs : I s W) (hB : B ≤ l) (hl : W.heap[l]? = some o) (ho : isLD o = true) : I s (W.putObj l o') :=
  h s W _ (some l) hs (grownBy_putObj' W l o') (fun r e => by cases e; exact ⟨hB, o, hl, ho⟩)
theorem OwnLD.and {β : Type} {B : Nat} {I I' : β → World → Prop} (h : OwnLD B I) (h' : OwnLD B I') : OwnLD B (fun s W => I s W ∧ I' s W) := fun s W W' row hs hg hr => ⟨h s W W' row hs.1 hg hr, h' s W W' row hs.2 hg hr⟩
theorem ownLD_past {β : Type} {B : Nat} {I : β → World → Prop} (h : OwnLD B I) {s : β} {W W' : World} (hs : I s W) (hb : Below W.heap.size W W') : I s W' := h s W W' none hs (grown_below hb) (fun r e => by cases e)
theorem ownLD_keeps {β : Type} {B B' : Nat} {w₀ : World} (hB : w₀.heap.size ≤ B') : OwnLD B' (fun (_ : β) W => KeepsLD B w₀ W) :=
  fun _ X Y row hs hg hr => ⟨Nat.le_trans hs.size hg.size, fun k o hk h0 ho => by
    have hX := hs.same k o hk h0 ho
    refine (hg.block k (Array.getElem?_eq_some_iff.1 hX).1 (fun e => ?_)).trans hX
    have h1 := (hr k e.symm).1
    have h2 := (Array.getElem?_eq_some_iff.1 h0).1
    omega⟩
theorem SeqW.inRound {α : Type} {F : Fence} {n : Nat} {P : Program} {g : Nat} {lb : Array Value} {encs : α → Array Value} {C : List α → α → World → World → Prop} {Kp : α → World → World → Prop} {S Sp : List α → Prop} {w : World} (l : Nat) (h : SeqW F n P g lb encs C Kp S Sp w) : SeqW (F.inRound l) n P g lb encs C Kp S Sp w := h
def ldPost {α : Type} (B : Nat) (Kp : World → World → Prop) (I : List α → World → Prop) (Ix : Code → List α → World → Prop) (xs : List α) (W : World) : Exit → Act → World → Prop
  | .normal, _, W' => KeepsLD B W W' ∧ Kp W W' ∧ I xs W'
  | .ret, _, W' => KeepsLD B W W' ∧ Ix .ret xs W'
  | .exit id, _, W' => KeepsLD B W W' ∧ Ix (.exit id) xs W'
  | .goto t, _, W' => KeepsLD B W W' ∧ Ix (.goto t) xs W'
  | .panic _, _, _ => False
  | .outgrown, _, _ => False
section
variable {F : Fence} {n : Nat} {P : Program} {α : Type} {g : Operand} {ps : Array Tmp} {assign body : Code} {Q : Exit → Act → World → Prop} {a : Act} {w : World}
/-- the loop's round, its record being block l -/
theorem round_y {fn : Nat} (hfn : F.fn fn) {B l : Nat} (hl : B ≤ l) (rec : LoopState → Option Code → Loop) (dd : Nat) (hrec : rec = fun st pe => { state := st, pending := pe, fn, tmps := a.tmps, params := ps, assign, body, defers := dd })
    {encs : α → Array Value} {Kp : α → World → World → Prop} (hps : ∀ x, (encs x).size = ps.size)
    (hKt : ∀ (x : α) (A0 B0 C0 : World), Kp x A0 B0 → Kp x B0 C0 → Kp x A0 C0) (hKb : ∀ (x : α) (W : World) (r : Nat) (o o' : Obj), B ≤ r → W.heap[r]? = some o → isLD o = true → Kp x W (W.putObj r o'))
    (I : List α → World → Prop) (Ix : Code → List α → World → Prop) (Ic : List α → α → World → Prop) (hI : OwnLD B I) (hIx : ∀ c, OwnLD B (Ix c)) (hIc : ∀ pre x, OwnLD B (fun (_ : Unit) W => Ic pre x W)) (Ax : α → Act → World → Prop) (hAx : ∀ x a', OwnLD B (fun (_ : Unit) W => Ax x a' W))
    (hassign : ∀ (pre : List α) (x : α) (W : World) (K : Act → World → Prop), Ic pre x W → (∀ a' W', KeepsLD B W W' → Kp x W W' → Ic pre x W' → Ax x a' W' → K a' W') →
      assign.wpIn (F.inRound l) (n - 1 - 1) P (Exit.then K (fun _ _ _ => False)) { tmps := (ps.zip (encs x)).foldl (fun t (p, v) => t.setIfInBounds p v) a.tmps, defers := [] } W)
    (hbody : ∀ (pre : List α) (x : α) (a' : Act) (W : World), (∃ r, W.heap[l]? = some (.loop r)) → Ic pre x W → Ax x a' W → body.wpIn (F.inRound l) (n - 1 - 1) P (ldPost B (Kp x) I Ix (pre ++ [x]) W) a' W)
    (X : World → Prop) (hX : ∀ W W', KeepsLD B W W' → X W → X W') (hXl : ∀ W o, X W → X (W.putObj l o))
    (pre : List α) (x : α) (W : World) (hi : Ic pre x W) (hlr : W.heap[l]? = some (.loop (rec .ready none))) (hx : X W) :
    YieldAt F (n - 1 - 1) P l (encs x) W fun e W' => (e = .returned (.bool true) ∧ (I (pre ++ [x]) W' ∧ W'.heap[l]? = some (.loop (rec .ready none)) ∧ X W') ∧ Kp x W W') ∨
      (e = .returned (.bool false) ∧ ∃ c, Ix c (pre ++ [x]) W' ∧ W'.heap[l]? = some (.loop (rec .done (some c))) ∧ X W') := by
  have hy := run_yield (P := P) (args := encs x) hlr (by rw [hrec]; exact hps x)
  rw [hrec] at hy
  refine ⟨fn, _, assign, body, hy, roundIn_of_wpIn hfn (hassign pre x W _ hi ?_)⟩
  clear hy
  intro a' V hkf hkp hic hax
  have hl1 := hkf.same _ _ hl hlr rfl
  have hlt : l < V.heap.size := (Array.getElem?_eq_some_iff.1 hl1).1
  refine ⟨_, run_beginRound hl1 (by rw [hrec]), ?_⟩
  have hl2 : (V.putObj l (.loop { rec .ready none with state := .busy })).heap[l]? = some (.loop { rec .ready none with state := .busy }) := World.putObj_heap_same hlt
  have hk2 : Kp x V (V.putObj l (.loop { rec .ready none with state := .busy })) := hKb _ _ _ _ _ hl hl1 rfl
  have hx2 := hXl _ (.loop { rec .ready none with state := .busy }) (hX _ _ hkf hx)
  have hi2 : Ic pre x (V.putObj l (.loop { rec .ready none with state := .busy })) := (hIc pre x).putObj (s := ()) _ hic hl hl1 rfl
  have ha2 : Ax x a' (V.putObj l (.loop { rec .ready none with state := .busy })) := (hAx x a').putObj (s := ()) _ hax hl hl1 rfl
  refine wpIn_mono (hbody pre x a' _ ⟨_, hl2⟩ hi2 ha2) ?_
  generalize V.putObj l (.loop { rec .ready none with state := .busy }) = V2 at hl2 hk2 hx2
  have fin : ∀ (jump : Option Code) (W3 : World), KeepsLD B V2 W3 →
      (Instr.endRound l jump).run P W3 = .ok (.bool jump.isNone) (W3.putObj l (.loop (rec (if jump.isNone then .ready else .done) jump))) ∧ W3.heap[l]? = some (.loop { rec .ready none with state := .busy }) ∧
      (W3.putObj l (.loop (rec (if jump.isNone then .ready else .done) jump))).heap[l]? = some (.loop (rec (if jump.isNone then .ready else .done) jump)) := fun jump W3 hk3 => by
    have hl3 := hk3.same _ _ hl hl2 rfl
    have h := run_endRound (P := P) jump hl3
    rw [hrec] at h ⊢
    exact ⟨h, by rw [hrec] at hl3; exact hl3, World.putObj_heap_same (Array.getElem?_eq_some_iff.1 hl3).1⟩
  have off : ∀ (c : Code) (W3 : World), KeepsLD B V2 W3 → Ix c (pre ++ [x]) W3 → ∃ v w', (Instr.endRound l (some c)).run P W3 = .ok v w' ∧ ((Ending.returned v = .returned (.bool true) ∧ (I (pre ++ [x]) w' ∧ w'.heap[l]? = some (.loop (rec .ready none)) ∧ X w') ∧ Kp x W w') ∨
      (Ending.returned v = .returned (.bool false) ∧ ∃ c, Ix c (pre ++ [x]) w' ∧ w'.heap[l]? = some (.loop (rec .done (some c))) ∧ X w')) := fun c W3 hk3 hi3 => by
    obtain ⟨hr, hl3, hl4⟩ := fin (some c) W3 hk3
    exact ⟨_, _, hr, .inr ⟨rfl, c, (hIx c).putObj _ hi3 hl hl3 rfl, hl4, hXl _ _ (hX _ _ hk3 hx2)⟩⟩
  rintro e a3 W3 hp
  cases e with
  | normal =>
    obtain ⟨hk3, hkp3, hi3⟩ := hp
    obtain ⟨hr, hl3, hl4⟩ := fin none W3 hk3
    exact ⟨_, _, hr, .inl ⟨rfl, ⟨hI.putObj _ hi3 hl hl3 rfl, hl4, hXl _ _ (hX _ _ hk3 hx2)⟩, hKt _ _ _ _ hkp (hKt _ _ _ _ (hKt _ _ _ _ hk2 hkp3) (hKb _ _ _ _ _ hl hl3 rfl))⟩⟩
  | ret => exact off .ret W3 hp.1 hp.2
  | exit id => exact off (.exit id) W3 hp.1 hp.2
  | goto t => exact off (.goto t) W3 hp.1 hp.2
  | panic ch => exact hp.elim
  | outgrown => exact hp.elim
/-- an outermost loop -/
theorem wpIn_rangeFunc_y (hro : F.round = none) (h1 : 1 ≤ n) {gf : Nat} {lb : Array Value} (hg : a.eval g = .func (.func gf) #[] lb) (hFg : F.fn gf) (eg : ∀ args w, (callFunc gf args).run P w = .ok (.enter gf args) w)
    {encs : α → Array Value} {C : List α → α → World → World → Prop} {Kp : α → World → World → Prop} {S Sp : List α → Prop} {w0 : World} (hseq : SeqW F (n - 1) P gf lb encs C Kp S Sp w0)
    (hKt : ∀ (x : α) (A B C : World), Kp x A B → Kp x B C → Kp x A C) (hKb : ∀ (x : α) (W : World) (r : Nat) (o o' : Obj), w.heap.size ≤ r → W.heap[r]? = some o → isLD o = true → Kp x W (W.putObj r o')) (hb0 : Below w0.heap.size w0 w) (hps : ∀ x, (encs x).size = ps.size)
    (hCk : ∀ pre x W0 W1, C pre x W0 W1 → KeepsLD w.heap.size W0 W1)
    (I : List α → World → Prop) (Ix : Code → List α → World → Prop) (Ic : List α → α → World → Prop) (hI : OwnLD w.heap.size I) (hIx : ∀ c, OwnLD w.heap.size (Ix c)) (hIc : ∀ pre x, OwnLD w.heap.size (fun (_ : Unit) W => Ic pre x W)) (hcome : ∀ pre x W0 W1, I pre W0 → C pre x W0 W1 → Ic pre x W1) (h0 : I [] w) (Ax : α → Act → World → Prop) (hAx : ∀ x a', OwnLD w.heap.size (fun (_ : Unit) W => Ax x a' W))
    (hassign : ∀ (l : Nat) (pre : List α) (x : α) (W : World) (K : Act → World → Prop), Ic pre x W → (∀ a' W', KeepsLD w.heap.size W W' → Kp x W W' → Ic pre x W' → Ax x a' W' → K a' W') →
      assign.wpIn (F.inRound l) (n - 1 - 1) P (Exit.then K (fun _ _ _ => False)) { tmps := (ps.zip (encs x)).foldl (fun t (p, v) => t.setIfInBounds p v) a.tmps, defers := [] } W)
    (hbody : ∀ (l : Nat) (pre : List α) (x : α) (a' : Act) (W : World), w.heap.size ≤ l → (∃ r, W.heap[l]? = some (.loop r)) → Ic pre x W → Ax x a' W → body.wpIn (F.inRound l) (n - 1 - 1) P (ldPost w.heap.size (Kp x) I Ix (pre ++ [x]) W) a' W)
    (hdone : ∀ (D : Nat) (xs : List α) (W : World), w.heap.size ≤ D → S xs → I xs W → W.heap[D]? = some (.deferred (some [])) → Q .normal { a with defers := { target := .collected D, args := #[] } :: a.defers } W)
    (hstop : ∀ (D : Nat) (c : Code) (pre : List α) (W : World), w.heap.size ≤ D → Sp pre → Ix c pre W → W.heap[D]? = some (.deferred (some [])) → c.wpIn F n P Q { a with defers := { target := .collected D, args := #[] } :: a.defers } W) :
    (Code.rangeFunc g ps assign body).wpIn F n P Q a w := by
  refine wpIn_rangeFunc ?_
  intro fn hfn
  rw [hro]
  obtain ⟨rec, hrec⟩ : ∃ rec : LoopState → Option Code → Loop, rec = fun st pe => { state := st, pending := pe, fn, tmps := a.tmps, params := ps, assign, body, defers := w.heap.size } := ⟨_, rfl⟩
  obtain ⟨W1, hW1⟩ : ∃ W1, (w.alloc (.deferred (some []))).alloc (.loop (rec .ready none)) = W1 := ⟨_, rfl⟩
  have hB1 : Below w.heap.size w W1 := by rw [← hW1]; exact ((Below.refl _ w).alloc (Nat.le_refl _) _).alloc (by simp) _
  have hL1 : W1.heap[w.heap.size + 1]? = some (.loop (rec .ready none)) := by
    rw [← hW1]; have := World.alloc_heap_new (w.alloc (.deferred (some []))) (.loop (rec .ready none)); rwa [World.size_alloc] at this
  have hD1 : W1.heap[w.heap.size]? = some (.deferred (some [])) := by
    rw [← hW1]; exact (Below.heap_alloc _ _ _ (by simp)).trans (World.alloc_heap_new w _)
  refine ⟨w.heap.size + 1, [{ target := .collected w.heap.size, args := #[] }], W1, { target := .fn (.func gf) lb, args := #[.func (.yield (w.heap.size + 1)) #[] #[]] }, W1, gf,
    #[.func (.yield (w.heap.size + 1)) #[] #[]] ++ lb, W1, ?_, ?_, ?_, ?_, fun _ => h1, ?_⟩
  · rw [← hW1, hrec]; exact run_enterLoop_outer _ _ _ _ _
  · simp only [resolve, hg]
    simp [go_sem]
  · intro f' hf'; simp [Target.leads] at hf'; subst hf'; exact hFg
  · simp [invoke, go_sem, eg]
  · refine (hseq (w.heap.size + 1)
      (fun pre W => I pre W ∧ W.heap[w.heap.size + 1]? = some (.loop (rec .ready none)) ∧ W.heap[w.heap.size]? = some (.deferred (some [])))
      (fun pre W => ∃ c, Ix c pre W ∧ W.heap[w.heap.size + 1]? = some (.loop (rec .done (some c))) ∧ W.heap[w.heap.size]? = some (.deferred (some [])))
      W1 (hb0.trans (hB1.mono hb0.size)) ?_ ⟨ownLD_past hI h0 hB1, hL1, hD1⟩).mono ?_
    · rintro pre x W V ⟨hi, hlr, hd⟩ hC
      have hkf := hCk _ _ _ _ hC
      exact round_y (n := n) (P := P) (Kp := Kp) hfn (Nat.le_succ _) rec w.heap.size hrec hps hKt hKb I Ix Ic hI hIx hIc Ax hAx (fun pre x W K => hassign _ pre x W K) (fun pre x a' W => hbody _ pre x a' W (Nat.le_succ _)) (fun W => W.heap[w.heap.size]? = some (.deferred (some []))) (fun W W' hk h => hk.same _ _ (Nat.le_refl _) h rfl) (fun W o h => (World.putObj_heap_other (by omega)).trans h) pre x V (hcome _ _ _ _ hi hC) (hkf.same _ _ (Nat.le_succ _) hlr rfl) (hkf.same _ _ (Nat.le_refl _) hd rfl)
    · rintro e W2 ⟨⟨v, rfl⟩, (⟨xs, hS, W0, ⟨hi, hlr, hd⟩, hbw⟩ | ⟨pre, hSp, c, hi, hlr, hd⟩)⟩
      · have hl2 := (hbw.block _ (Array.getElem?_eq_some_iff.1 hlr).1).trans hlr
        have hd2 := (hbw.block _ (Array.getElem?_eq_some_iff.1 hd).1).trans hd
        exact ⟨none, _, by have := run_endLoop (P := P) hl2 (by rw [hrec]; simp); rw [hrec] at this; exact this, hdone _ xs _ (Nat.le_refl _) hS (hI.putObj _ (ownLD_past hI hi hbw) (Nat.le_succ _) hl2 rfl) ((World.putObj_heap_other (by omega)).trans hd2)⟩
      · exact ⟨some c, _, by have := run_endLoop (P := P) hlr (by rw [hrec]; simp); rw [hrec] at this; exact this, hstop _ c pre _ (Nat.le_refl _) hSp ((hIx c).putObj _ hi (Nat.le_succ _) hlr rfl) ((World.putObj_heap_other (by omega)).trans hd)⟩
/-- a loop within a round of loop l₀ -/
theorem wpIn_rangeFunc_yN {l₀ : Nat} {r₀ : Loop} (hro : F.round = some l₀) (hl₀ : w.heap[l₀]? = some (.loop r₀)) (h1 : 1 ≤ n) {gf : Nat} {lb : Array Value} (hg : a.eval g = .func (.func gf) #[] lb) (hFg : F.fn gf) (eg : ∀ args w, (callFunc gf args).run P w = .ok (.enter gf args) w)
    {encs : α → Array Value} {C : List α → α → World → World → Prop} {Kp : α → World → World → Prop} {S Sp : List α → Prop} {w0 : World} (hseq : SeqW F (n - 1) P gf lb encs C Kp S Sp w0)
    (hKt : ∀ (x : α) (A B C : World), Kp x A B → Kp x B C → Kp x A C) (hKb : ∀ (x : α) (W : World) (r : Nat) (o o' : Obj), w.heap.size ≤ r → W.heap[r]? = some o → isLD o = true → Kp x W (W.putObj r o')) (hb0 : Below w0.heap.size w0 w) (hps : ∀ x, (encs x).size = ps.size)
    (hCk : ∀ pre x W0 W1, C pre x W0 W1 → KeepsLD w.heap.size W0 W1)
    (I : List α → World → Prop) (Ix : Code → List α → World → Prop) (Ic : List α → α → World → Prop) (hI : OwnLD w.heap.size I) (hIx : ∀ c, OwnLD w.heap.size (Ix c)) (hIc : ∀ pre x, OwnLD w.heap.size (fun (_ : Unit) W => Ic pre x W)) (hcome : ∀ pre x W0 W1, I pre W0 → C pre x W0 W1 → Ic pre x W1) (h0 : I [] w) (Ax : α → Act → World → Prop) (hAx : ∀ x a', OwnLD w.heap.size (fun (_ : Unit) W => Ax x a' W))
    (hassign : ∀ (l : Nat) (pre : List α) (x : α) (W : World) (K : Act → World → Prop), Ic pre x W → (∀ a' W', KeepsLD w.heap.size W W' → Kp x W W' → Ic pre x W' → Ax x a' W' → K a' W') →
      assign.wpIn (F.inRound l) (n - 1 - 1) P (Exit.then K (fun _ _ _ => False)) { tmps := (ps.zip (encs x)).foldl (fun t (p, v) => t.setIfInBounds p v) a.tmps, defers := [] } W)
    (hbody : ∀ (l : Nat) (pre : List α) (x : α) (a' : Act) (W : World), w.heap.size ≤ l → (∃ r, W.heap[l]? = some (.loop r)) → Ic pre x W → Ax x a' W → body.wpIn (F.inRound l) (n - 1 - 1) P (ldPost w.heap.size (Kp x) I Ix (pre ++ [x]) W) a' W)
    (hdone : ∀ (xs : List α) (W : World), S xs → I xs W → Q .normal a W)
    (hstop : ∀ (c : Code) (pre : List α) (W : World), Sp pre → Ix c pre W → c.wpIn F n P Q a W) :
    (Code.rangeFunc g ps assign body).wpIn F n P Q a w := by
  refine wpIn_rangeFunc ?_
  intro fn hfn
  rw [hro]
  obtain ⟨rec, hrec⟩ : ∃ rec : LoopState → Option Code → Loop, rec = fun st pe => { state := st, pending := pe, fn, tmps := a.tmps, params := ps, assign, body, defers := r₀.defers } := ⟨_, rfl⟩
  obtain ⟨W1, hW1⟩ : ∃ W1, w.alloc (.loop (rec .ready none)) = W1 := ⟨_, rfl⟩
  have hB1 : Below w.heap.size w W1 := by rw [← hW1]; exact (Below.refl _ w).alloc (Nat.le_refl _) _
  have hL1 : W1.heap[w.heap.size]? = some (.loop (rec .ready none)) := by rw [← hW1]; exact World.alloc_heap_new w _
  refine ⟨w.heap.size, [], W1, { target := .fn (.func gf) lb, args := #[.func (.yield w.heap.size) #[] #[]] }, W1, gf,
    #[.func (.yield w.heap.size) #[] #[]] ++ lb, W1, ?_, ?_, ?_, ?_, fun _ => h1, ?_⟩
  · rw [← hW1, hrec]; exact run_enterLoop_inner hl₀ _ _ _ _ _
  · simp only [resolve, hg]
    simp [go_sem]
  · intro f' hf'; simp [Target.leads] at hf'; subst hf'; exact hFg
  · simp [invoke, go_sem, eg]
  · refine (hseq w.heap.size
      (fun pre W => I pre W ∧ W.heap[w.heap.size]? = some (.loop (rec .ready none)) ∧ True)
      (fun pre W => ∃ c, Ix c pre W ∧ W.heap[w.heap.size]? = some (.loop (rec .done (some c))) ∧ True)
      W1 (hb0.trans (hB1.mono hb0.size)) ?_ ⟨ownLD_past hI h0 hB1, hL1, trivial⟩).mono ?_
    · rintro pre x W V ⟨hi, hlr, _⟩ hC
      have hkf := hCk _ _ _ _ hC
      exact round_y (n := n) (P := P) (Kp := Kp) hfn (Nat.le_refl _) rec _ hrec hps hKt hKb I Ix Ic hI hIx hIc Ax hAx (fun pre x W K => hassign _ pre x W K) (fun pre x a' W => hbody _ pre x a' W (Nat.le_refl _)) (fun _ => True) (fun _ _ _ _ => trivial) (fun _ _ _ => trivial) pre x V (hcome _ _ _ _ hi hC) (hkf.same _ _ (Nat.le_refl _) hlr rfl) trivial
    · rintro e W2 ⟨⟨v, rfl⟩, (⟨xs, hS, W0, ⟨hi, hlr, _⟩, hbw⟩ | ⟨pre, hSp, c, hi, hlr, _⟩)⟩
      · have hl2 := (hbw.block _ (Array.getElem?_eq_some_iff.1 hlr).1).trans hlr
        exact ⟨none, _, by have := run_endLoop (P := P) hl2 (by rw [hrec]; simp); rw [hrec] at this; exact this, hdone xs _ hS (hI.putObj _ (ownLD_past hI hi hbw) (Nat.le_refl _) hl2 rfl)⟩
      · exact ⟨some c, _, by have := run_endLoop (P := P) hlr (by rw [hrec]; simp); rw [hrec] at this; exact this, hstop c pre _ hSp ((hIx c).putObj _ hi (Nat.le_refl _) hlr rfl)⟩
end
end Go.Proofs.YtcjmbpchdeapiaaDoor
/- CodePlays: what its walk bears. -/
namespace Go.Proofs.YtcjmbpchdeapiaaDoor
open Go.RowKit Go.Shelf
theorem upd_lt {b : Nat → Nat} (h : ∀ j, b j < 256) {k y : Nat} (hy : y < 256) (j : Nat) : (if j = k then y else b j) < 256 := by split; exact hy; exact h j
theorem bsL_upd (n : Nat) (f : Nat → Nat) (k y : Nat) : (bsL n f).set k (.int .u8 (y : Int)) = bsL n (fun j => if j = k then y else f j) := by
  apply List.ext_getElem?
  intro j
  by_cases hj : j < n
  · rw [bsL_get _ _ _ hj, List.getElem?_set, bsL_len]
    by_cases e : k = j
    · subst e; simp [hj]
    · rw [if_neg e, bsL_get _ _ _ hj, if_neg (fun h => e h.symm)]
  · rw [List.getElem?_eq_none (by rw [List.length_set, bsL_len]; omega), List.getElem?_eq_none (by rw [bsL_len]; omega)]
theorem mkB_upd (m : Nat) (b : Nat → Nat) {k : Nat} (y : Nat) (hk : k < m) : (fun j => if j = k then y else mkB m b j) = mkB m (fun j => if j = k then y else b j) := by
  funext j
  unfold mkB
  by_cases e : j = k
  · subst e; simp [hk]
  · simp [e]
/-- the law's memory: what is told at the end, the buffer, the bytes that it is to hold -/
structure PyM (w W : World) (g m cap : Nat) (na : Option Addr) (nc : Nat) (b : Nat → Nat) : Prop where
  rb : CBox W w.heap.size 4 [.bool false]
  rw' : W.ownsRow (w.heap.size + 1) 5 1 (.slice (some ⟨g, 0, none⟩) (m + 75) cap) (m + 75) (bsL (m + 75) (mkB m b))
  rn : W.ownsRow (w.heap.size + 1) 5 1 (.slice na m nc) m (bsL m b)
  ne : ∀ q, (Value.slice na m nc).ownBlock = some q → q ≠ g
  be : Below w.heap.size w W
  hb : ∀ j, b j < 256
theorem PyM.past {w W W' : World} {g m cap : Nat} {na : Option Addr} {nc : Nat} {b : Nat → Nat} (h : PyM w W g m cap na nc b) (k : Below W.heap.size W W') : PyM w W' g m cap na nc b := ⟨h.rb.past k, ownsRow_past h.rw' k, ownsRow_past h.rn k, h.ne, h.be.trans (k.mono h.be.size), h.hb⟩
theorem PyM.bw {w W : World} {g m cap : Nat} {na : Option Addr} {nc : Nat} {b : Nat → Nat} (h : PyM w W g m cap na nc b) : BytesOf W (.slice (some ⟨g, 0, none⟩) m cap) m b ∧ ∀ ad c, Value.slice (some ⟨g, 0, none⟩) m cap = .slice ad m c → m ≤ c := laid_bytes h.hb h.rw'
theorem PyM.bn {w W : World} {g m cap : Nat} {na : Option Addr} {nc : Nat} {b : Nat → Nat} (h : PyM w W g m cap na nc b) : BytesOf W (.slice na m nc) m b ∧ ∀ ad c, Value.slice na m nc = .slice ad m c → m ≤ c := own_bytes h.rn h.hb
theorem PyM.turn {w W : World} {g m cap q : Nat} {nc : Nat} {b : Nat → Nat} (h : PyM w W g m cap (some ⟨q, 0, none⟩) nc b) {k y : Nat} (hk : k < m) (hy : y < 256) : PyM w ((W.setCell ⟨g, k, none⟩ (.int .u8 (y : Int))).setCell ⟨q, k, none⟩ (.int .u8 (y : Int))) g m cap (some ⟨q, 0, none⟩) nc (fun j => if j = k then y else b j) := by
  have hqg : q ≠ g := h.ne q rfl
  have lg := h.rw'.lt g rfl
  have lq := h.rn.lt q rfl
  refine ⟨(h.rb.other _ _ (by show w.heap.size ≠ g; omega)).other _ _ (by show w.heap.size ≠ q; omega), ?_, ?_, h.ne, (h.be.setCell (p := ⟨g, k, none⟩) (by show w.heap.size ≤ g; omega) _).setCell (p := ⟨q, k, none⟩) (by show w.heap.size ≤ q; omega) _, fun j => upd_lt h.hb hy j⟩
  · have h1 := (h.rw'.stored k (.int .u8 (y : Int))).1
    rw [bsL_upd, mkB_upd m b y hk] at h1
    exact ownsRow_setCell_other h1 (fun e => by injection e with e; exact hqg e.symm) _
  · have h1 := ownsRow_setCell_other h.rn (a := ⟨g, k, none⟩) (fun e => by injection e with e; exact hqg e) (.int .u8 (y : Int))
    have h2 := (h1.stored k (.int .u8 (y : Int))).1
    rw [bsL_upd] at h2
    exact h2
/-- as many instructions as a Scan tells -/
def KK (b : Nat → Nat) (m k : Nat) : Nat := if scE b m k = 0 then k else 0
theorem scan_k (w : World) (v : Value) (m : Nat) (b : Nat → Nat) (k : Nat) (hk : FullA b m k) (hN : Nms w) (hv : BytesOf w v m b) (hcp : ∀ ad cap, v = .slice ad m cap → m ≤ cap) (hm : m ≤ 1000000) : Calls Tryd.prog 8 #[v] w fun e w' => ∃ fv, e = .returned (.tuple #[fv, .int .i64 (scE b m k), .int .i64 (scP b m k : Int)]) ∧ ScR w.heap.size b (KK b m k) fv w' ∧ Below w.heap.size w w' :=
  (scan_is w v m b hN hv hcp hm).mono fun e w' ⟨k', fv, hF, he, hB, h0, h1⟩ => by
    obtain rfl : k' = k := fullA_one hF hk
    refine ⟨fv, he, ?_, hB⟩
    unfold KK
    split
    · rename_i h; exact h1 h
    · rename_i h; rw [h0 h]; exact ⟨[], rfl, fitA_nil b, World.ownsRow_nil _ _ _ _, InsQ.nil _ _ _⟩
theorem rscan_k (w : World) (v : Value) (m : Nat) (b : Nat → Nat) (k : Nat) (hk : FullA b m k) (hv : BytesOf w v m b) (hm : m ≤ 1000000) : Calls Tryd.prog 9 #[v] w fun e w' => ∃ fv, e = .returned (.tuple #[fv, .int .i64 (scE b m k), .int .i64 (scP b m k : Int)]) ∧ RAll w.heap.size b (KK b m k) fv w' ∧ Below w.heap.size w w' :=
  (rscan_is w v m b hv hm).mono fun e w' ⟨k', fv, hF, he, hB, h0, h1⟩ => by
    obtain rfl : k' = k := fullA_one hF hk
    refine ⟨fv, he, ?_, hB⟩
    unfold KK
    split
    · rename_i h; exact h1 h
    · rename_i h; rw [h0 h]; exact ⟨[], rfl, rfl, World.ownsRow_nil _ _ _ _, fun x hx => by cases hx⟩
theorem rAll_k (w : World) (v : Value) (m : Nat) (b : Nat → Nat) (k : Nat) (hk : FullA b m k) (hv : BytesOf w v m b) (hm : m ≤ 1000000) : Calls Tryd.prog 16 #[v] w fun e w' => ∃ lv, e = .returned lv ∧ RAll w.heap.size b k lv w' ∧ Below w.heap.size w w' :=
  (rAll_is w v m b hv hm).mono fun e w' ⟨k', lv, hF, he, hR, hB⟩ => by
    obtain rfl : k' = k := fullA_one hF hk
    exact ⟨lv, he, hR, hB⟩
theorem starts_k (w : World) (v : Value) (m : Nat) (b : Nat → Nat) (k : Nat) (hk : FullA b m k) (hN : Nms w) (hv : BytesOf w v m b) (hcp : ∀ ad cap, v = .slice ad m cap → m ≤ cap) (hm : m ≤ 1000000) : Calls Tryd.prog 12 #[v] w fun e w' => ∃ q, e = .returned (.slice (some ⟨q, 0, none⟩) m m) ∧ CBox w' q 4 (stL b m k) ∧ Below w.heap.size w w' :=
  (starts_is w v m b hN hv hcp hm).mono fun e w' ⟨k', hF, he, hB, hC⟩ => by
    obtain rfl : k' = k := fullA_one hF hk
    exact ⟨_, he, hC, hB⟩
theorem rstarts_k (w : World) (v : Value) (m : Nat) (b : Nat → Nat) (k : Nat) (hk : FullA b m k) (hv : BytesOf w v m b) (hm : m ≤ 1000000) : Calls Tryd.prog 13 #[v] w fun e w' => ∃ q, e = .returned (.slice (some ⟨q, 0, none⟩) m m) ∧ CBox w' q 4 (stL b m k) ∧ Below w.heap.size w w' :=
  (rstarts_is w v m b hv hm).mono fun e w' ⟨k', hF, he, hB, hC⟩ => by
    obtain rfl : k' = k := fullA_one hF hk
    exact ⟨_, he, hC, hB⟩
/-- while what All tells is ranged over: nothing else is written than the count -/
structure PlI (V : World) (n2 ab k : Nat) (lv : Value) (b : Nat → Nat) (c : Nat) (W : World) : Prop where
  be : Below V.heap.size V W
  cn : Boxed W V.heap.size 3 (.int .i64 (c : Int))
  al : Boxed W ab 25 lv
  ra : RAll n2 b k lv W
theorem RAll.own9 {β : Type} (n2 : Nat) (b : Nat → Nat) (k : Nat) (lv : Value) : Own (fun (_ : β) W => RAll n2 b k lv W) := fun s X Y row hs hg hrow => by
  obtain ⟨xs, h1, h2, h3, h4⟩ := hs
  exact ⟨xs, h1, h2, row_own (β := Unit) _ _ _ _ _ _ () X Y row h3 hg hrow, fun x hx => row_own (β := Unit) _ _ _ _ _ _ () X Y row (h4 x hx) hg hrow⟩
theorem PlI.own9 {α : Type} {V : World} {n2 ab k B : Nat} {lv : Value} {b : Nat → Nat} (hB : V.heap.size ≤ B) (c : α → Nat) : OwnFrom B (fun (s : α) W => PlI V n2 ab k lv b (c s) W) := fun s X Y row h hg hr => by
  have hr2 : ∀ r, row = some r → ∃ o : Obj, X.heap[r]? = some o ∧ o.isCells = false := fun r e => (hr r e).2
  exact ⟨ownFrom_below (β := Unit) (Nat.le_refl _) hB () X Y row h.be hg hr, boxed_own (β := Unit) _ _ (fun _ => _) () X Y row h.cn hg hr2, boxed_own (β := Unit) _ _ (fun _ => _) () X Y row h.al hg hr2, RAll.own9 (β := Unit) _ _ _ _ () X Y row h.ra hg hr2⟩
theorem PlI.past {V W W' : World} {n2 ab k c : Nat} {lv : Value} {b : Nat → Nat} (h : PlI V n2 ab k lv b c W) (q : Below W.heap.size W W') : PlI V n2 ab k lv b c W' := ⟨h.be.trans (q.mono h.be.size), (q.block _ h.cn.lt).trans h.cn, (q.block _ h.al.lt).trans h.al, h.ra.past q⟩
theorem PlI.step {V W : World} {n2 ab k c : Nat} {lv : Value} {b : Nat → Nat} (h : PlI V n2 ab k lv b c W) (hab : V.heap.size < ab) (hn2 : V.heap.size < n2) (d : Nat) : PlI V n2 ab k lv b d (W.setCell ⟨V.heap.size, 0, none⟩ (.int .i64 (d : Int))) := by
  refine ⟨h.be.setCell (p := ⟨V.heap.size, 0, none⟩) (Nat.le_refl _) _, h.cn.set _, h.al.other (by omega) _, ?_⟩
  obtain ⟨xs, h1, h2, h3, h4⟩ := h.ra
  exact ⟨xs, h1, h2, ownsRow_setCell_other h3 (fun e => by have := (h3.lt _ e).1; simp at this; omega) _, fun x hx => ownsRow_setCell_other (h4 x hx) (fun e => by have := ((h4 x hx).lt _ e).1; simp at this; omega) _⟩
/-- append of bytes to the empty list: they lie in a row of their own -/
theorem wpList_copyb {ops : Array Oper} {rest : List Oper} {o : Oper} {a : Act} {z : World} {Q : Exit → Act → World → Prop} (hgd : o.guard = none) (s x : Operand) (ho : o.op = .call { callee := .builtin .append, args := #[s, x], argTypes := #[22, 22] }) (hs : a.eval s = .slice (some ⟨z.heap.size, 0, none⟩) 0 0) (g T c : Nat) (f : Nat → Nat) (hx : a.eval x = .slice (some ⟨g, 0, none⟩) T c) (hu : ∀ j, j < T → z.cell? ⟨g, j, none⟩ = some (.int .u8 (f j : Int))) (hT : T ≤ 70000)
    (h : ∀ v' w', w'.ownsRow z.heap.size 5 1 v' T (bsL T f) → Below z.heap.size z w' → wpList Tryd.prog ops Q rest (a.put o.dst v') w') : wpList Tryd.prog ops Q (o :: rest) a (z.alloc (.cells #[] 5)) := by
  obtain ⟨i0, hi, hz0, hz1, hz2⟩ := info_parts infoB8
  have hb : Below z.heap.size z (z.alloc (.cells #[] 5)) := (Below.refl _ _).alloc (Nat.le_refl _) _
  have ho9 : (z.alloc (.cells #[] 5)).ownsRow z.heap.size 5 1 (.slice (some ⟨z.heap.size, 0, none⟩) 0 0) 0 [] := World.ownsRow_lit z #[] 0 (Nat.le_refl _) (by unfold maxLen; omega) rfl
  refine wpList_append_own _ hgd s x 22 ho z.heap.size 5 i0 (.int .u8 0) 1 1 Tryd.underlying22 hi hz0 hz1 hz2 rfl (by decide) _ 0 [] hs ho9 ⟨g, 0, none⟩ T c (bsL T f) hx (by rw [bsL_len]; omega) (fun j y hy => ?_) (bsL_one T f) (by unfold maxLen; omega) (by omega) hb.size (fun v' w' q1 q2 _ => ?_)
  · obtain ⟨hj, rfl⟩ := bsL_at hy
    rw [Addr.add_mid, Nat.zero_add]
    exact cell_past9 hb (hu j hj)
  · rw [Nat.zero_add, List.nil_append] at q1
    exact h v' w' q1 (Below.grown hb q2 hb.size (fun q hq => (ho9.lt q hq).1))
/-- a list of pairs of numbers -/
def TnAt (W : World) (ta : Option Addr) (tn : Nat) (z0 z1 : Nat → Int) : Prop := tn ≠ 0 → ∃ g o, ta = some ⟨g, o, none⟩ ∧ ∀ i, i < tn → W.cell? ⟨g, o + i * 2, none⟩ = some (.int .i64 (z0 i)) ∧ W.cell? ⟨g, o + i * 2 + 1, none⟩ = some (.int .i64 (z1 i))
theorem check_k (w : World) (v : Value) (m : Nat) (b : Nat → Nat) (k : Nat) (hk : FullA b m k) (hN : Nms w) (hv : BytesOf w v m b) (hcp : ∀ ad cap, v = .slice ad m cap → m ≤ cap) (hm : m ≤ 1000000) : Calls Tryd.prog 10 #[v] w fun e w' => ∃ (er : Int) (pl : Nat), e = .returned (.tuple #[.int .i64 er, .int .i64 (pl : Int)]) ∧ ChRes b m k er pl ∧ Below w.heap.size w w' :=
  (check_is w v m b hN hv hcp hm).mono fun e w' ⟨k', er, pl, hF, hC, he, hB⟩ => by
    obtain rfl : k' = k := fullA_one hF hk
    exact ⟨er, pl, he, hC, hB⟩
theorem rcheck_k (w : World) (v : Value) (m : Nat) (b : Nat → Nat) (k : Nat) (er : Int) (pl : Nat) (hk : FullA b m k) (hc : ChRes b m k er pl) (hv : BytesOf w v m b) (hm : m ≤ 1000000) : Calls Tryd.prog 11 #[v] w fun e w' => e = .returned (.tuple #[.int .i64 er, .int .i64 (pl : Int)]) ∧ Below w.heap.size w w' :=
  (rcheck_is w v m b hv hm).mono fun e w' ⟨k', er', pl', ⟨hF, hC⟩, he, hB⟩ => by
    obtain rfl : k' = k := fullA_one hF hk
    obtain ⟨e1, e2⟩ := chRes_one hC hc
    rw [e1, e2] at he
    exact ⟨he, hB⟩
theorem all_k (w : World) (v : Value) (m : Nat) (b : Nat → Nat) (hm : m ≤ 1000000) (hN : Nms w) (hv : BytesOf w v m b) : Calls Tryd.prog 17 #[v] w fun e w' => e = .returned (.func (.func 33) #[] #[.pointer (some ⟨w.heap.size + 1, 0, none⟩)]) ∧ EaOk (w.heap.size + 1) (.slice (some ⟨w.heap.size, 0, none⟩) m m) m b w' ∧ Below w.heap.size w w' ∧ w'.heap.size = w.heap.size + 2 :=
  (all_is w v m b hm hv).mono fun e w' ⟨he, hw⟩ => by
    have hvb : ∀ j, b j < 256 := by obtain ⟨_, _, _, h, _⟩ := hv; exact h
    subst hw
    have hb1 : Below w.heap.size w (cpW w m b) := (Below.refl _ _).alloc (Nat.le_refl _) _
    have hO := cp_own w m b (by unfold maxLen; omega)
    have hb2 : Below (cpW w m b).heap.size (cpW w m b) ((cpW w m b).alloc (.cells #[.slice (some ⟨w.heap.size, 0, none⟩) m m] 22)) := (Below.refl _ _).alloc (Nat.le_refl _) _
    have hsz : (cpW w m b).heap.size = w.heap.size + 1 := by simp
    have hbx := Boxed.new (cpW w m b) 22 (.slice (some ⟨w.heap.size, 0, none⟩) m m)
    rw [hsz] at hbx
    have hb3 := hb1.trans (hb2.mono hb1.size)
    exact ⟨he, ⟨hbx.cell, (own_bytes (ownsRow_past hO hb2) hvb).1, hN.past hb3⟩, hb3, by simp⟩
/-- the records of deferred calls that the ranges of r rounds have left -/
def Mrk (B r : Nat) (ds : List Deferred) (W : World) : Prop := ∃ Ds : List Nat, ds = Ds.map (fun D => { target := .collected D, args := #[] }) ∧ Ds.length = r ∧ Ds.Nodup ∧ ∀ D ∈ Ds, B ≤ D ∧ W.heap[D]? = some (.deferred (some []))
theorem Mrk.nil (B : Nat) (W : World) : Mrk B 0 [] W := ⟨[], rfl, rfl, List.nodup_nil, fun _ h => by cases h⟩
theorem Mrk.keep {B r : Nat} {ds : List Deferred} {W W' : World} (h : Mrk B r ds W) (k : KeepsLD 0 W W') : Mrk B r ds W' := by
  obtain ⟨Ds, h1, h2, h3, h4⟩ := h
  exact ⟨Ds, h1, h2, h3, fun D hD => ⟨(h4 D hD).1, k.same D _ (Nat.zero_le _) (h4 D hD).2 rfl⟩⟩
theorem Mrk.cons {B r D : Nat} {ds : List Deferred} {W W' : World} (h : Mrk B r ds W) (k : KeepsLD 0 W W') (hB : B ≤ W.heap.size) (hD : W.heap.size ≤ D) (hd : W'.heap[D]? = some (.deferred (some []))) : Mrk B (r + 1) ({ target := .collected D, args := #[] } :: ds) W' := by
  obtain ⟨Ds, h1, h2, h3, h4⟩ := h
  have lt : ∀ x ∈ Ds, x < W.heap.size := fun x hx => (Array.getElem?_eq_some_iff.1 (h4 x hx).2).1
  refine ⟨D :: Ds, by rw [h1]; rfl, by simp [h2], List.nodup_cons.2 ⟨fun e => by have := lt D e; omega, h3⟩, fun x hx => ?_⟩
  rcases List.mem_cons.1 hx with rfl | hx
  · exact ⟨by omega, hd⟩
  · exact ⟨(h4 x hx).1, k.same x _ (Nat.zero_le _) (h4 x hx).2 rfl⟩
theorem leaves_mrk {F : Fence} {n : Nat} {P : Program} {fn : Func} {tmps : Array Value} {R : Ending → World → Prop} {B : Nat} {J : World → Prop} (hJ : OwnLD B (fun (_ : Unit) W => J W)) (hR : ∀ W, J W → LeavesInM F n P fn tmps R [] .returning W) :
    ∀ (r : Nat) (ds : List Deferred) (W : World), Mrk B r ds W → J W → LeavesInM F n P fn tmps R ds .returning W := by
  intro r
  induction r with
  | zero =>
    rintro ds W ⟨Ds, rfl, h2, _⟩ hj
    obtain rfl : Ds = [] := List.eq_nil_of_length_eq_zero h2
    exact hR W hj
  | succ r ih =>
    rintro ds W ⟨Ds, rfl, h2, h3, h4⟩ hj
    obtain ⟨D, Ds', rfl⟩ : ∃ D Ds', Ds = D :: Ds' := by
      cases Ds with
      | nil => cases h2
      | cons D Ds' => exact ⟨D, Ds', rfl⟩
    obtain ⟨g1, g2⟩ := h4 D (List.mem_cons_self ..)
    have hn := List.nodup_cons.1 h3
    refine ⟨by simp, .inl ⟨_, _, rfl, run_takeDeferred g2, ?_⟩⟩
    refine ih _ _ ⟨Ds', rfl, by simpa using h2, hn.2, fun x hx => ⟨(h4 x (List.mem_cons_of_mem _ hx)).1, ?_⟩⟩ (hJ.putObj (s := ()) _ hj g1 g2 rfl)
    refine (World.putObj_heap_other (fun e => ?_)).trans (h4 x (List.mem_cons_of_mem _ hx)).2
    subst e
    exact hn.1 hx
theorem Mrk.past {B r : Nat} {ds : List Deferred} {W W' : World} (h : Mrk B r ds W) (k : Below W.heap.size W W') : Mrk B r ds W' := h.keep (KeepsLD.below k)
theorem Mrk.cell {B r g : Nat} {ds : List Deferred} {W : World} {cs : Array Value} {t : TypeId} {p : Nat × Nat} (h : Mrk B r ds W) (hg : W.heap[g]? = some (.cells cs t p)) (j : Nat) (u : Value) : Mrk B r ds (W.setCell ⟨g, j, none⟩ u) := by
  obtain ⟨Ds, h1, h2, h3, h4⟩ := h
  refine ⟨Ds, h1, h2, h3, fun D hD => ⟨(h4 D hD).1, (Below.heap_setCell W ⟨g, j, none⟩ u D (fun e => ?_)).trans (h4 D hD).2⟩⟩
  have h5 := (h4 D hD).2
  rw [show D = g from e, hg] at h5
  cases h5
theorem below_own9 {w X Y : World} {row : Option Nat} (h : Below w.heap.size w X) (hg : X.grownBy Y row) (hr : ∀ r, row = some r → w.heap.size ≤ r) : Below w.heap.size w Y :=
  h.trans ⟨hg.os, hg.tape, hg.output, hg.size, fun q hq => hg.block q (Nat.lt_of_lt_of_le hq h.size) (fun e => by have := hr q e.symm; omega)⟩
/-- where an instruction has come -/
structure PlC (V : World) (n2 ab k : Nat) (lv : Value) (b : Nat → Nat) (m : Nat) (pre : List (Nat × Nat × Nat)) (x : Nat × Nat × Nat) (W : World) : Prop where
  i : PlI V n2 ab k lv b pre.length W
  ins : InsB W x.2.1 (immA b x.1) (fun j => b (x.1 + 1 + j))
  at' : x.1 = posA b pre.length
  up : UptoA b m (pre.length + 1)
  ne : V.heap.size < x.2.2
theorem PlC.own9 {V : World} {n2 ab k B m : Nat} {lv : Value} {b : Nat → Nat} (hB : V.heap.size ≤ B) (pre : List (Nat × Nat × Nat)) (x : Nat × Nat × Nat) : OwnFrom B (fun (_ : Unit) W => PlC V n2 ab k lv b m pre x W) := fun s X Y row h hg hr => by
  have hr2 : ∀ r, row = some r → ∃ o : Obj, X.heap[r]? = some o ∧ o.isCells = false := fun r e => (hr r e).2
  exact ⟨PlI.own9 hB (fun _ : Unit => pre.length) () X Y row h.i hg hr, InsB.own (β := Unit) _ _ _ () X Y row h.ins hg hr2, h.at', h.up, h.ne⟩
theorem PlC.past {V W W' : World} {n2 ab k m : Nat} {lv : Value} {b : Nat → Nat} {pre : List (Nat × Nat × Nat)} {x : Nat × Nat × Nat} (h : PlC V n2 ab k lv b m pre x W) (q : Below W.heap.size W W') : PlC V n2 ab k lv b m pre x W' := ⟨h.i.past q, h.ins.past q, h.at', h.up, h.ne⟩
theorem PlC.come {V W0 W1 : World} {n2 ab k m : Nat} {lv : Value} {b : Nat → Nat} {pre : List (Nat × Nat × Nat)} {x : Nat × Nat × Nat} (h : PlI V n2 ab k lv b pre.length W0) (hc : ComeA b m pre x W0 W1) : PlC V n2 ab k lv b m pre x W1 := by
  obtain ⟨hB, hu, _, hx, ⟨q1, q2, q3⟩, hI⟩ := hc
  exact ⟨h.past hB, hI, hx, hu, by have := h.cn.lt; omega⟩
theorem own_base9 {W : World} {B B' : Nat} {e : TypeId} {size n : Nat} {v : Value} {xs : List Value} (h : W.ownsRow B e size v n xs) (hb : B' ≤ B) : W.ownsRow B' e size v n xs := ⟨h.1, h.2.imp id fun ⟨g, c, cur, e1, e2, e3⟩ => ⟨g, c, cur, e1, Nat.le_trans hb e2, e3⟩⟩
/-- nothing that stood in w has changed -/
def Bl (w W : World) : Prop := Below w.heap.size w W
theorem Bl.refl (w : World) : Bl w w := Below.refl _ _
theorem Bl.past {w W W' : World} (h : Bl w W) (k : Below W.heap.size W W') : Bl w W' := Below.trans h (k.mono (Below.size h))
theorem row_cells9 {W : World} {B g n c size : Nat} {e : TypeId} {xs : List Value} (h : W.ownsRow B e size (.slice (some ⟨g, 0, none⟩) n c) n xs) : ∃ cs, W.heap[g]? = some (.cells cs e) := by
  rcases h.2 with ⟨h1, _⟩ | ⟨g', c', cur, h1, _, hh, _⟩
  · cases h1
  · cases h1; exact ⟨_, hh⟩
theorem PyM.mrk {w W : World} {g m cap q : Nat} {nc : Nat} {b : Nat → Nat} (h : PyM w W g m cap (some ⟨q, 0, none⟩) nc b) {B r : Nat} {ds : List Deferred} (k : Mrk B r ds W) (j : Nat) (u : Value) : Mrk B r ds ((W.setCell ⟨g, j, none⟩ u).setCell ⟨q, j, none⟩ u) := by
  obtain ⟨c1, h1⟩ := row_cells9 h.rw'
  have hqg : q ≠ g := h.ne q rfl
  obtain ⟨c2, h2⟩ := row_cells9 (ownsRow_setCell_other h.rn (a := ⟨g, j, none⟩) (fun e => by injection e with e; exact hqg e) u)
  exact (k.cell h1 j u).cell h2 j u
/-- a piece of code that only goes on: whatever else is asked of its other ends -/
theorem wp_then_false {P : Program} {c : Code} {K : Act → World → Prop} {Q : Exit → Act → World → Prop} {a : Act} {w : World} (h : c.wp P (Exit.then K (fun _ _ _ => False)) a w) : c.wp P (Exit.then K Q) a w :=
  wpIn_wide.1 (wpIn_mono (n := 10) (wpIn_wide.2 h) fun e a w q => by cases e <;> first | exact q | exact q.elim)
theorem upto_lt {b : Nat → Nat} {L k n : Nat} (h : UptoA b L (n + 1)) (hk : FullA b L k) : n < k := by
  by_cases e : n < k
  · exact e
  · have h1 := h k (by omega)
    have h2 := hk.2
    rw [h1] at h2
    cases h2
end Go.Proofs.YtcjmbpchdeapiaaDoor
/- CodeAgrees: what its walk bears. -/
namespace Go.Proofs.YtcjmbpchdeapiaaDoor
open Go.RowKit Go.Shelf
theorem posA_le (b : Nat → Nat) {i j : Nat} (h : i ≤ j) : posA b i ≤ posA b j := by
  by_cases e : i = j
  · rw [e]; exact Nat.le_refl _
  · exact Nat.le_of_lt (posA_lt b i j (by omega))
theorem st_in {b : Nat → Nat} {k c j : Nat} (hc : c < k) (h1 : posA b c ≤ j) (h2 : j < posA b (c + 1)) : stA b k j = decide (j = posA b c) := by
  by_cases e : j = posA b c
  · rw [decide_eq_true e, stA_iff]
    exact ⟨c, hc, e.symm⟩
  · rw [decide_eq_false e]
    cases hs : stA b k j with
    | false => rfl
    | true =>
      obtain ⟨i, _, hi⟩ := (stA_iff b k j).1 hs
      rcases Nat.lt_trichotomy i c with h3 | h3 | h3
      · have := posA_lt b i c h3; omega
      · rw [h3] at hi; exact absurd hi.symm e
      · have := posA_le b (show c + 1 ≤ i by omega); omega
theorem st_out {b : Nat → Nat} {k j : Nat} (h : posA b k ≤ j) : stA b k j = false := by
  cases hs : stA b k j with
  | false => rfl
  | true =>
    obtain ⟨i, hi, e⟩ := (stA_iff b k j).1 hs
    have := posA_lt b i k hi
    omega
/-- where the last one before number c began -/
def laA (b : Nat → Nat) (c : Nat) : Nat := if c = 0 then 0 else posA b (c - 1)
/-- while what All tells is ranged over: three numbers are written, nothing else -/
structure AgI (V : World) (b : Nat → Nat) (c : Nat) (W : World) : Prop where
  be : Below V.heap.size V W
  p : Boxed W V.heap.size 3 (.int .i64 (posA b c : Int))
  n : Boxed W (V.heap.size + 1) 3 (.int .i64 (c : Int))
  la : Boxed W (V.heap.size + 2) 3 (.int .i64 (laA b c : Int))
theorem AgI.past {V W W' : World} {b : Nat → Nat} {c : Nat} (h : AgI V b c W) (q : Below W.heap.size W W') : AgI V b c W' := ⟨h.be.trans (q.mono h.be.size), (q.block _ h.p.lt).trans h.p, (q.block _ h.n.lt).trans h.n, (q.block _ h.la.lt).trans h.la⟩
theorem AgI.own9 {α : Type} {V : World} {b : Nat → Nat} {B : Nat} (hB : V.heap.size ≤ B) (c : α → Nat) : OwnFrom B (fun (s : α) W => AgI V b (c s) W) := fun s X Y row h hg hr => by
  have hr2 : ∀ r, row = some r → ∃ o : Obj, X.heap[r]? = some o ∧ o.isCells = false := fun r e => (hr r e).2
  exact ⟨ownFrom_below (β := Unit) (Nat.le_refl _) hB () X Y row h.be hg hr, boxed_own (β := Unit) _ _ (fun _ => _) () X Y row h.p hg hr2, boxed_own (β := Unit) _ _ (fun _ => _) () X Y row h.n hg hr2, boxed_own (β := Unit) _ _ (fun _ => _) () X Y row h.la hg hr2⟩
theorem AgI.step {V W : World} {b : Nat → Nat} {c : Nat} (h : AgI V b c W) : AgI V b (c + 1) (((W.setCell ⟨V.heap.size + 2, 0, none⟩ (.int .i64 (posA b c : Int))).setCell ⟨V.heap.size, 0, none⟩ (.int .i64 (posA b (c + 1) : Int))).setCell ⟨V.heap.size + 1, 0, none⟩ (.int .i64 ((c + 1 : Nat) : Int))) := by
  refine ⟨((h.be.setCell (p := ⟨V.heap.size + 2, 0, none⟩) (by show V.heap.size ≤ V.heap.size + 2; omega) _).setCell (p := ⟨V.heap.size, 0, none⟩) (Nat.le_refl _) _).setCell (p := ⟨V.heap.size + 1, 0, none⟩) (by show V.heap.size ≤ V.heap.size + 1; omega) _, ?_, ?_, ?_⟩
  · exact ((h.p.other (by omega) _).set _).other (by omega) _
  · exact ((h.n.other (by omega) _).other (by omega) _).set _
  · have h1 := ((h.la.set (.int .i64 (posA b c : Int))).other (show V.heap.size + 2 ≠ V.heap.size by omega) (.int .i64 (posA b (c + 1) : Int))).other (show V.heap.size + 2 ≠ V.heap.size + 1 by omega) (.int .i64 ((c + 1 : Nat) : Int))
    exact h1
structure AgC (V : World) (b : Nat → Nat) (m : Nat) (pre : List (Nat × Nat × Nat)) (x : Nat × Nat × Nat) (W : World) : Prop where
  i : AgI V b pre.length W
  ins : InsB W x.2.1 (immA b x.1) (fun j => b (x.1 + 1 + j))
  at' : x.1 = posA b pre.length
  up : UptoA b m (pre.length + 1)
  ne : V.heap.size + 2 < x.2.2
theorem AgC.own9 {V : World} {b : Nat → Nat} {B m : Nat} (hB : V.heap.size ≤ B) (pre : List (Nat × Nat × Nat)) (x : Nat × Nat × Nat) : OwnFrom B (fun (_ : Unit) W => AgC V b m pre x W) := fun s X Y row h hg hr => by
  have hr2 : ∀ r, row = some r → ∃ o : Obj, X.heap[r]? = some o ∧ o.isCells = false := fun r e => (hr r e).2
  exact ⟨AgI.own9 hB (fun _ : Unit => pre.length) () X Y row h.i hg hr, InsB.own (β := Unit) _ _ _ () X Y row h.ins hg hr2, h.at', h.up, h.ne⟩
theorem AgC.past {V W W' : World} {b : Nat → Nat} {m : Nat} {pre : List (Nat × Nat × Nat)} {x : Nat × Nat × Nat} (h : AgC V b m pre x W) (q : Below W.heap.size W W') : AgC V b m pre x W' := ⟨h.i.past q, h.ins.past q, h.at', h.up, h.ne⟩
theorem AgC.come {V W0 W1 : World} {b : Nat → Nat} {m : Nat} {pre : List (Nat × Nat × Nat)} {x : Nat × Nat × Nat} (h : AgI V b pre.length W0) (hc : ComeA b m pre x W0 W1) : AgC V b m pre x W1 := by
  obtain ⟨hB, hu, _, hx, ⟨q1, q2, q3⟩, hI⟩ := hc
  exact ⟨h.past hB, hI, hx, hu, by have := h.la.lt; omega⟩
/-- the law's memory ahead of the range -/
structure AgM (w V : World) (g m cap l3 l4 l6 q5 n0 kk k : Nat) (fa : Option Addr) (fc : Nat) (er : Int) (b : Nat → Nat) : Prop where
  bb : Boxed V w.heap.size 22 (.slice (some ⟨g, 0, none⟩) m cap)
  rb : Boxed V (w.heap.size + 1) 4 (.bool false)
  row : V.ownsRow (w.heap.size + 2) 5 1 (.slice (some ⟨g, 0, none⟩) m cap) m (bsL m b)
  lb : Boxed V l3 25 (.slice fa kk fc)
  sc : ScR n0 b kk (.slice fa kk fc) V
  eb : Boxed V l4 26 (.int .i64 er)
  sb : Boxed V l6 31 (.slice (some ⟨q5, 0, none⟩) m m)
  s5 : CBox V q5 4 (stL b m k)
  be : Below w.heap.size w V
  hb : ∀ j, b j < 256
theorem AgM.past {w V V' : World} {g m cap l3 l4 l6 q5 n0 kk k : Nat} {fa : Option Addr} {fc : Nat} {er : Int} {b : Nat → Nat} (h : AgM w V g m cap l3 l4 l6 q5 n0 kk k fa fc er b) (q : Below V.heap.size V V') : AgM w V' g m cap l3 l4 l6 q5 n0 kk k fa fc er b :=
  ⟨(q.block _ h.bb.lt).trans h.bb, (q.block _ h.rb.lt).trans h.rb, ownsRow_past h.row q, (q.block _ h.lb.lt).trans h.lb, h.sc.past q, (q.block _ h.eb.lt).trans h.eb, (q.block _ h.sb.lt).trans h.sb, h.s5.past q, h.be.trans (q.mono h.be.size), h.hb⟩
theorem AgM.bw {w V : World} {g m cap l3 l4 l6 q5 n0 kk k : Nat} {fa : Option Addr} {fc : Nat} {er : Int} {b : Nat → Nat} (h : AgM w V g m cap l3 l4 l6 q5 n0 kk k fa fc er b) : BytesOf V (.slice (some ⟨g, 0, none⟩) m cap) m b ∧ ∀ ad c, Value.slice (some ⟨g, 0, none⟩) m cap = .slice ad m c → m ≤ c := own_bytes h.row h.hb
theorem keepC_set {K : Nat → Prop} {W : World} {q : Nat} {u : Value} (h : ∀ j, K j → j ≠ q) : KeepC K W (W.setCell ⟨q, 0, none⟩ u) := fun j hj o v hv => (World.cell?_setCell_other _ _ _ _ (fun e => by injection e with e _ _; exact h j hj e.symm)).trans hv
end Go.Proofs.YtcjmbpchdeapiaaDoor
