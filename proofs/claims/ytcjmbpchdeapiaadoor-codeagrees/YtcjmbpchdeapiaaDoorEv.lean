/- A reckoner for straight code: what it reckons the program does (any program, any world). -/
import Derived.Test.YtcjmbpchdeapiaaDoorRows
import Derived.WalkKit
import Derived.WalkSpells
import Derived.WalkLawsBesides
import Derived.LoopN
import Derived.OwnWalk
namespace Go.Proofs.YtcjmbpchdeapiaaDoor
open Go.RowKit
/-- what is to be reckoned: a piece of code, or the operations that are left of a region -/
abbrev Tk := Code ⊕ (Array Oper × List Oper)
/-- temporaries as they were written, the newest first -/
abbrev Env := List (Nat × Value)
def look : Env → Nat → Value
  | [], _ => undef
  | (k, v) :: r, t => bif Nat.beq k t then v else look r t
def Env.put (e : Env) (n : Nat) (d : Option Tmp) (v : Value) : Env :=
  match d with
  | some t => bif Nat.blt t n then (t, v) :: e else e
  | none => e
def Env.eval (e : Env) : Operand → Value
  | .tmp t => look e t
  | .const v => v
  | .global g => .pointer (some ⟨g, 0, none⟩)
  | .func f => .func (.func f) #[] #[]
/-- a function's arguments -/
def Env.of : Nat → List Value → Env
  | _, [] => []
  | k, v :: l => (k, v) :: Env.of (k + 1) l
/-- these are the temporaries -/
structure EnvIs (e : Env) (n : Nat) (a : Act) : Prop where
  size : a.tmps.size = n
  get : ∀ t, a.tmps.getD t undef = look e t
  defers : a.defers = []
theorem EnvIs.eval {e : Env} {n : Nat} {a : Act} (h : EnvIs e n a) : a.eval = e.eval := by
  funext x
  cases x with
  | tmp t => exact h.get t
  | _ => rfl
theorem EnvIs.put {e : Env} {n : Nat} {a : Act} (h : EnvIs e n a) (d : Option Tmp) (v : Value) : EnvIs (e.put n d v) n (a.put d v) := by
  cases d with
  | none => exact h
  | some t =>
    refine ⟨by simp [Act.put, h.size], fun u => ?_, h.defers⟩
    show (a.tmps.setIfInBounds t v).getD u undef = look (bif Nat.blt t n then (t, v) :: e else e) u
    have h1 := h.get u
    have h2 := h.size
    by_cases ht : t < n
    · rw [show Nat.blt t n = true from Nat.ble_eq_true_of_le ht, cond_true]
      show _ = (bif Nat.beq t u then v else look e u)
      by_cases hu : t = u
      · subst hu
        rw [Nat.beq_refl, cond_true]
        simp [Array.getD_eq_getD_getElem?, h2, ht]
      · rw [show Nat.beq t u = false from by rw [← Bool.not_eq_true]; exact fun k => hu (Nat.eq_of_beq_eq_true k), cond_false, ← h1]
        simp [Array.getD_eq_getD_getElem?, hu]
    · rw [show Nat.blt t n = false from by rw [← Bool.not_eq_true]; exact fun k => ht (Nat.le_of_ble_eq_true k), cond_false, ← h1]
      simp [Array.getD_eq_getD_getElem?, Array.getElem?_setIfInBounds, h2, ht]
      by_cases hu : t = u
      · subst hu; rw [if_pos rfl, Array.getElem?_eq_none (by rw [h2]; exact Nat.le_of_not_lt ht)]
      · rw [if_neg hu]
theorem EnvIs.uniq {e : Env} {n : Nat} {a b : Act} (h : EnvIs e n a) (k : EnvIs e n b) : a = b := by
  obtain ⟨ta, da⟩ := a
  obtain ⟨tb, db⟩ := b
  have e1 : da = [] := h.defers
  have e2 : db = [] := k.defers
  subst e1 e2
  have e3 : ta = tb := by
    refine Array.ext (h.size.trans k.size.symm) fun i h1 h2 => ?_
    have := (h.get i).trans (k.get i).symm
    simpa [Array.getD_eq_getD_getElem?, h1, h2] using this
  rw [e3]
theorem of_get : ∀ (l : List Value) (k t : Nat), look (Env.of k l) (k + t) = (l[t]?).getD undef
  | [], _, _ => rfl
  | v :: l, k, 0 => by show (bif Nat.beq k (k + 0) then v else _) = _; rw [Nat.add_zero, Nat.beq_refl]; rfl
  | v :: l, k, t + 1 => by
    show (bif Nat.beq k (k + (t + 1)) then v else look (Env.of (k + 1) l) (k + (t + 1))) = _
    rw [show Nat.beq k (k + (t + 1)) = false from by rw [← Bool.not_eq_true]; exact fun h => by have := Nat.eq_of_beq_eq_true h; omega, cond_false, show k + (t + 1) = (k + 1) + t by omega, of_get l (k + 1) t]
    rfl
theorem EnvIs.start (args : Array Value) (m : Nat) : EnvIs (Env.of 0 args.toList) (args.size + m) { tmps := args ++ Array.replicate m undef, defers := [] } := by
  refine ⟨by simp, fun t => ?_, rfl⟩
  have := of_get args.toList 0 t
  rw [Nat.zero_add] at this
  rw [this]
  simp only [Array.getD_eq_getD_getElem?, Array.getElem?_append, Array.getElem?_toList]
  by_cases h : t < args.size
  · rw [if_pos h]
  · rw [if_neg h, Array.getElem?_eq_none (by omega : args.size ≤ t), Array.getElem?_replicate]
    split <;> rfl
/-- what an operation's guard asks -/
def yieldE (all : Array Oper) (e : Env) (j : Nat) : Option Bool :=
  match (all[j]?).bind (·.dst) with
  | some t =>
    match look e t with
    | .bool b => some b
    | _ => none
  | none => none
theorem EnvIs.yields {e : Env} {n : Nat} {a : Act} (h : EnvIs e n a) (all : Array Oper) : yielded all a.tmps = yieldE all e := by
  funext j
  unfold yielded yieldE
  cases (all[j]?).bind (·.dst) with
  | none => rfl
  | some t =>
    show (match a.tmps[t]? with | some (.bool b) => some b | _ => none) = match look e t with | .bool b => some b | _ => none
    rw [← h.get t, Array.getD_eq_getD_getElem?]
    cases a.tmps[t]? with
    | none => rfl
    | some v => cases v <;> rfl
/-- a function's results out of its temporaries -/
def resT (fn : Func) (e : Env) : Option Value :=
  match fn.results.toList with
  | [.tmp t] => some (look e t)
  | [.tmp t, .tmp u] => some (.tuple #[look e t, look e u])
  | [.tmp t, .tmp u, .tmp x] => some (.tuple #[look e t, look e u, look e x])
  | _ => none
theorem resT_run {P : Program} {fn : Func} {e : Env} {n : Nat} {a : Act} {v : Value} (h : resT fn e = some v) (ha : EnvIs e n a) (w : World) : (results fn a.tmps).run P w = .ok v w := by
  unfold resT at h
  split at h
  · rename_i t e
    cases h
    rw [← ha.get]
    exact results_tmp (by rw [← Array.toList_inj, e]) _ P w
  · rename_i t u e
    cases h
    rw [← ha.get, ← ha.get]
    exact results_tmp2 (by rw [← Array.toList_inj, e]) _ P w
  · rename_i t u x e
    cases h
    rw [← ha.get, ← ha.get, ← ha.get]
    exact results_tmp3 (by rw [← Array.toList_inj, e]) _ P w
  · cases h
def ev (P : Program) : Nat → Nat → Tk → Env → World → Option (Exit × Env × World)
  | 0, _, _, _, _ => none
  | _ + 1, _, .inr (_, []), a, w => some (.normal, a, w)
  | n + 1, m, .inr (all, o :: r), a, w =>
    bif Region.wanted o (yieldE all a) then
      match (execOp a.eval o).run P w with
      | .ok (.value v) w' => ev P n m (.inr (all, r)) (a.put m o.dst v) w'
      | .ok .skip w' => ev P n m (.inr (all, r)) (a.put m o.dst undef) w'
      | .ok (.enter f args) w' =>
        match P.funcs[f]? with
        | some fn =>
          match fn.body with
          | some c =>
            match ev P n (args.size + (fn.ntmps - args.size)) (.inl c) (Env.of 0 args.toList) w' with
            | some (.ret, t, w2) =>
              match resT fn t with
              | some v => ev P n m (.inr (all, r)) (a.put m o.dst v) w2
              | none => none
            | _ => none
          | none => none
        | none => none
      | _ => none
    else ev P n m (.inr (all, r)) (a.put m o.dst undef) w
  | _ + 1, _, .inl .skip, a, w => some (.normal, a, w)
  | _ + 1, _, .inl .ret, a, w => some (.ret, a, w)
  | _ + 1, _, .inl (.exit id), a, w => some (.exit id, a, w)
  | n + 1, m, .inl (.seq x y), a, w =>
    match ev P n m (.inl x) a w with
    | some (.normal, a', w') => ev P n m (.inl y) a' w'
    | r => r
  | n + 1, m, .inl (.cond c x y), a, w =>
    match a.eval c with
    | .bool t => ev P n m (.inl (if t then x else y)) a w
    | _ => none
  | n + 1, m, .inl (.block id c), a, w =>
    match ev P n m (.inl c) a w with
    | some (.exit id', a', w') => if id' = id then some (.normal, a', w') else some (.exit id', a', w')
    | r => r
  | n + 1, m, .inl (.region _ ops false), a, w => ev P n m (.inr (ops, ops.toList)) a w
  | n + 1, m, .inl (.loop c), a, w =>
    match ev P n m (.inl c) a w with
    | some (.normal, a', w') => ev P n m (.inl (.loop c)) a' w'
    | r => r
  | _, _, _, _, _ => none
def holdsT (P : Program) (Q : Exit → Act → World → Prop) (a : Act) (w : World) : Tk → Prop
  | .inl (.loop c) => ∃ m, Code.rounds P c Q m a w
  | .inl c => c.wp P Q a w
  | .inr (all, l) => wpList P all Q l a w
theorem holds_wp {P : Program} {Q : Exit → Act → World → Prop} {a : Act} {w : World} {c : Code} (h : holdsT P Q a w (.inl c)) : c.wp P Q a w := by
  cases c with
  | loop c => obtain ⟨m, hm⟩ := h; exact wp_loop_rounds m hm
  | _ => exact h
theorem calls_ev {P : Program} {f : FuncId} {fn : Func} {c : Code} {args : Array Value} {e : Env} {w w' : World} {v : Value} (hf : P.funcs[f]? = some fn) (hb : fn.body = some c)
    (h : ∀ Q : Exit → Act → World → Prop, (∀ a, EnvIs e (args.size + (fn.ntmps - args.size)) a → Q .ret a w') → c.wp P Q { tmps := args ++ Array.replicate (fn.ntmps - args.size) undef, defers := [] } w) (hr : resT fn e = some v) :
    Calls P f args w fun e w'' => e = .returned v ∧ w'' = w' :=
  calls_of_wp hf hb (h _ fun _ ha => ⟨ha.defers, v, resT_run hr ha _, rfl, rfl⟩)
theorem ev_sound (P : Program) : ∀ (n m : Nat) (t : Tk) (b : Env) (w : World) (e : Exit) (b' : Env) (w' : World), ev P n m t b w = some (e, b', w') → ∀ a, EnvIs b m a → ∀ Q : Exit → Act → World → Prop, (∀ a', EnvIs b' m a' → Q e a' w') → holdsT P Q a w t := by
  intro n
  induction n with
  | zero => intro _ _ _ _ _ _ _ h; simp [ev] at h
  | succ n ih =>
    intro m t b w e b' w' h a ha Q hQ
    cases t with
    | inr p =>
      obtain ⟨all, l⟩ := p
      cases l with
      | nil =>
        simp only [ev, Option.some.injEq, Prod.mk.injEq] at h
        obtain ⟨rfl, rfl, rfl⟩ := h
        exact hQ a ha
      | cons o r =>
        simp only [ev] at h
        show wpList P all Q (o :: r) a w
        refine wpList_step fun K hK => ?_
        rw [ha.yields]
        cases hw : Region.wanted o (yieldE all b) with
        | true =>
          rw [if_pos rfl]
          rw [hw, cond_true] at h
          unfold Oper.wp
          rw [ha.eval]
          split at h
          · rename_i v w1 he; rw [he, Oper.upon_value]; exact hK _ _ (ih _ _ _ _ _ _ _ h _ (ha.put _ _) Q hQ)
          · rename_i w1 he; rw [he, Oper.upon_skip]; exact hK _ _ (ih _ _ _ _ _ _ _ h _ (ha.put _ _) Q hQ)
          · rename_i f args w1 he
            rw [he, Oper.upon_enter]
            split at h
            · rename_i fn hf
              split at h
              · rename_i c hc
                split at h
                · rename_i tt w2 hev
                  split at h
                  · rename_i v hv
                    refine (calls_ev hf hc (fun Q' hQ' => holds_wp (ih _ _ _ _ _ _ _ hev _ (EnvIs.start _ _) Q' hQ')) hv).mono ?_
                    rintro e' w'' ⟨rfl, rfl⟩
                    exact hK _ _ (ih _ _ _ _ _ _ _ h _ (ha.put _ _) Q hQ)
                  · cases h
                · cases h
              · cases h
            · cases h
          · cases h
        | false =>
          rw [if_neg (by decide)]
          rw [hw, cond_false] at h
          exact hK _ _ (ih _ _ _ _ _ _ _ h _ (ha.put _ _) Q hQ)
    | inl c =>
      cases c with
      | skip =>
        simp only [ev, Option.some.injEq, Prod.mk.injEq] at h
        obtain ⟨rfl, rfl, rfl⟩ := h
        exact wp_skip (hQ a ha)
      | ret =>
        simp only [ev, Option.some.injEq, Prod.mk.injEq] at h
        obtain ⟨rfl, rfl, rfl⟩ := h
        exact wp_ret (hQ a ha)
      | exit id =>
        simp only [ev, Option.some.injEq, Prod.mk.injEq] at h
        obtain ⟨rfl, rfl, rfl⟩ := h
        exact wp_exit (hQ a ha)
      | seq x y =>
        simp only [ev] at h
        refine wp_seq ?_
        split at h
        · rename_i b1 w1 h1
          exact holds_wp (ih _ _ _ _ _ _ _ h1 _ ha _ (fun a1 ha1 => holds_wp (ih _ _ _ _ _ _ _ h _ ha1 Q hQ)))
        · rename_i r hne
          refine holds_wp (ih _ _ _ _ _ _ _ h _ ha _ (fun a1 ha1 => ?_))
          cases e with
          | normal => exact absurd h (hne _ _)
          | _ => exact hQ a1 ha1
      | cond c x y =>
        simp only [ev] at h
        split at h
        · rename_i t ht
          exact wp_cond (by rw [ha.eval]; exact ht) (holds_wp (ih _ _ _ _ _ _ _ h _ ha Q hQ))
        · cases h
      | block id c =>
        simp only [ev] at h
        refine wp_block ?_
        split at h
        · rename_i id' b1 w1 h1
          refine holds_wp (ih _ _ _ _ _ _ _ h1 _ ha _ (fun a1 ha1 => ?_))
          simp only [Exit.inBlock]
          split at h
          · rename_i hid
            simp only [Option.some.injEq, Prod.mk.injEq] at h
            obtain ⟨rfl, rfl, rfl⟩ := h
            rw [if_pos hid]; exact hQ a1 ha1
          · rename_i hid
            simp only [Option.some.injEq, Prod.mk.injEq] at h
            obtain ⟨rfl, rfl, rfl⟩ := h
            rw [if_neg hid]; exact hQ a1 ha1
        · rename_i r hne
          refine holds_wp (ih _ _ _ _ _ _ _ h _ ha _ (fun a1 ha1 => ?_))
          cases e with
          | exit id' => exact absurd h (hne _ _ _)
          | _ => exact hQ a1 ha1
      | region id ops d =>
        cases d with
        | false =>
          simp only [ev] at h
          exact wp_region_list (ih _ _ _ _ _ _ _ h _ ha Q hQ)
        | true => simp [ev] at h
      | loop c =>
        simp only [ev] at h
        split at h
        · rename_i b1 w1 h1
          by_cases hx : ∃ a1, EnvIs b1 m a1
          · obtain ⟨a1, ha1⟩ := hx
            obtain ⟨k, hk⟩ := ih _ _ _ _ _ _ _ h a1 ha1 Q hQ
            exact ⟨k + 1, holds_wp (ih _ _ _ _ _ _ _ h1 _ ha (Exit.then (Code.rounds P c Q k) Q) (fun a2 ha2 => by rw [ha2.uniq ha1]; exact hk))⟩
          · exact ⟨1, holds_wp (ih _ _ _ _ _ _ _ h1 _ ha (Exit.then (Code.rounds P c Q 0) Q) (fun a2 ha2 => absurd ⟨a2, ha2⟩ hx))⟩
        · rename_i r hne
          refine ⟨1, holds_wp (ih _ _ _ _ _ _ _ h _ ha (Exit.then (Code.rounds P c Q 0) Q) (fun a1 ha1 => ?_))⟩
          cases e with
          | normal => exact absurd h (hne _ _)
          | _ => exact hQ a1 ha1
      | _ => simp [ev] at h
/-- what a whole call reckons -/
def evC (P : Program) (n : Nat) (f : FuncId) (args : Array Value) (w : World) : Option (Value × World) :=
  match P.funcs[f]? with
  | some fn =>
    match fn.body with
    | some c =>
      match ev P n (args.size + (fn.ntmps - args.size)) (.inl c) (Env.of 0 args.toList) w with
      | some (.ret, t, w2) =>
        match resT fn t with
        | some v => some (v, w2)
        | none => none
      | _ => none
    | none => none
  | none => none
theorem evC_calls {P : Program} {n : Nat} {f : FuncId} {args : Array Value} {w w' : World} {v : Value} (h : evC P n f args w = some (v, w')) : Calls P f args w fun e w'' => e = .returned v ∧ w'' = w' := by
  unfold evC at h
  split at h
  · rename_i fn hf
    split at h
    · rename_i c hc
      split at h
      · rename_i t w2 hev
        split at h
        · rename_i u hv
          simp only [Option.some.injEq, Prod.mk.injEq] at h
          obtain ⟨rfl, rfl⟩ := h
          exact calls_ev hf hc (fun Q' hQ' => holds_wp (ev_sound P _ _ _ _ _ _ _ _ hev _ (EnvIs.start _ _) Q' hQ')) hv
        · cases h
      · cases h
    · cases h
  · cases h
/-- one equation for all of a range, and what it says at each place -/
theorem at_range {α : Type} {n : Nat} {f g : Nat → α} (h : (List.range n).map f = (List.range n).map g) (i : Nat) (hi : i < n) : f i = g i := by
  have := congrArg (·[i]?) h
  simpa [hi] using this
end Go.Proofs.YtcjmbpchdeapiaaDoor
