/- The document's way through a header: a list of fields that grows; it comes to what hdr says. -/
import Derived.Test.YtndhabhlajldeaaBrf
namespace Go.Proofs.Ytndhabhlajldeaa
/-- where the document stands -/
structure HS where
  types : Nat
  k : Nat
  codes : List Nat
  subs : List Nat
  size : Nat
def wF : Nat → Nat
  | 1 => 51
  | 2 => 51
  | 3 => 52
  | 4 => 53
  | 5 => 54
  | 6 => 53
  | 7 => 55
  | 8 => 56
  | 9 => 53
  | 10 => 57
  | 11 => 56
  | 12 => 53
  | 14 => 53
  | _ => 0
def pFd (what types v : Nat) : Bool :=
  match what with
  | 1 => v == 239
  | 2 => v == 0
  | 3 => v == 1
  | 4 => v == 1
  | 5 => pT v
  | 6 => v == 2
  | 7 => 4 * v == types
  | 8 => decide (0 < v)
  | 9 => pK v
  | 10 => pS v
  | 11 => decide (0 < v)
  | 12 => v == 255
  | 14 => v == 0
  | _ => true
def addF (what v : Nat) : List (Nat × Nat) :=
  match what with
  | 7 => List.replicate v (2, 8) ++ [(1, 9)]
  | 9 => if v = 3 then [(2, 10)] else [(2, 13), (1, 14)]
  | 10 => List.replicate v (4, 11) ++ [(1, 12), (2, 13), (1, 14)]
  | _ => []
def setF (what v : Nat) (s : HS) : HS :=
  match what with
  | 5 => { s with types := v }
  | 8 => { s with codes := s.codes ++ [v] }
  | 11 => { s with subs := s.subs ++ [v] }
  | 13 => { s with size := v }
  | _ => s
def pr (b : List Nat) : Nat → List (Nat × Nat) → HS → Except Er Hd
  | 0, _, _ => .error (999, 0)
  | _ + 1, [], s => .ok ⟨s.codes, s.subs, s.size, s.k⟩
  | f + 1, (w, what) :: t, s => (fld b s.k w (wF what) (pFd what s.types)).bind fun v => pr b f (t ++ addF what v) { setF what v s with k := s.k + w }
def base7 : List (Nat × Nat) := [(1, 1), (1, 2), (1, 3), (1, 4), (2, 5), (1, 6), (2, 7)]
theorem pr_codes (b : List Nat) (t : List (Nat × Nat)) (f : Nat) : ∀ (m : Nat) (s : HS), pr b (f + m) (List.replicate m (2, 8) ++ t) s = (lens b 2 s.k m).bind fun cs => pr b f t { s with codes := s.codes ++ cs, k := s.k + 2 * m }
  | 0, s => by simp [lens, Except.bind]
  | m + 1, s => by
    rw [List.replicate_succ, List.cons_append, show f + (m + 1) = (f + m) + 1 by omega, pr, lens]
    show ((fld b s.k 2 56 (fun v => decide (0 < v))).bind fun v => pr b (f + m) ((List.replicate m (2, 8) ++ t) ++ []) { s with codes := s.codes ++ [v], k := s.k + 2 }) = _
    cases fld b s.k 2 56 (fun v => decide (0 < v)) with
    | error er => rfl
    | ok v =>
      simp only [Except.bind, List.append_nil]
      rw [pr_codes b t f m]
      simp only []
      cases lens b 2 (s.k + 2) m with
      | error er => rfl
      | ok cs =>
        simp only [Except.bind, List.append_assoc, List.singleton_append]
        congr 2
        omega
theorem pr_subs (b : List Nat) (t : List (Nat × Nat)) (f : Nat) : ∀ (m : Nat) (s : HS), pr b (f + m) (List.replicate m (4, 11) ++ t) s = (lens b 4 s.k m).bind fun cs => pr b f t { s with subs := s.subs ++ cs, k := s.k + 4 * m }
  | 0, s => by simp [lens, Except.bind]
  | m + 1, s => by
    rw [List.replicate_succ, List.cons_append, show f + (m + 1) = (f + m) + 1 by omega, pr, lens]
    show ((fld b s.k 4 56 (fun v => decide (0 < v))).bind fun v => pr b (f + m) ((List.replicate m (4, 11) ++ t) ++ []) { s with subs := s.subs ++ [v], k := s.k + 4 }) = _
    cases fld b s.k 4 56 (fun v => decide (0 < v)) with
    | error er => rfl
    | ok v =>
      simp only [Except.bind, List.append_nil]
      rw [pr_subs b t f m]
      simp only []
      cases lens b 4 (s.k + 4) m with
      | error er => rfl
      | ok cs =>
        simp only [Except.bind, List.append_assoc, List.singleton_append]
        congr 2
        omega
theorem pr_end (b : List Nat) (f : Nat) (s : HS) : pr b (f + 3) [(2, 13), (1, 14)] s = hdEnd b s.k s.codes s.subs := by
  rw [pr]
  show ((fld b s.k 2 0 (fun _ => true)).bind fun v => pr b (f + 2) ([(1, 14)] ++ []) { s with size := v, k := s.k + 2 }) = _
  unfold hdEnd
  cases fld b s.k 2 0 (fun _ => true) with
  | error er => rfl
  | ok v =>
    show ((fld b (s.k + 2) 1 53 (fun v => v == 0)).bind fun v' => pr b (f + 1) ([] ++ []) { s with size := v, k := s.k + 2 + 1 }) = _
    cases fld b (s.k + 2) 1 53 (fun v => v == 0) with
    | error er => rfl
    | ok v' => rfl
theorem pr_kind (b : List Nat) (f : Nat) (s : HS) : pr b (f + 300) [(1, 9)] s = (fld b s.k 1 53 pK).bind fun q => if q = 3 then (fld b (s.k + 1) 2 57 pS).bind fun m => (lens b 4 (s.k + 1 + 2) m).bind fun ss => (fld b (s.k + 1 + 2 + 4 * m) 1 53 (fun n => n == 255)).bind fun _ => hdEnd b (s.k + 1 + 2 + 4 * m + 1) s.codes (s.subs ++ ss) else hdEnd b (s.k + 1) s.codes s.subs := by
  rw [show f + 300 = (f + 299) + 1 by omega, pr]
  show ((fld b s.k 1 53 pK).bind fun q => pr b (f + 299) ([] ++ (if q = 3 then [(2, 10)] else [(2, 13), (1, 14)])) { s with k := s.k + 1 }) = _
  cases fld b s.k 1 53 pK with
  | error er => rfl
  | ok q =>
    simp only [Except.bind]
    by_cases e : q = 3
    · rw [if_pos e, if_pos e, List.nil_append, show f + 299 = (f + 298) + 1 by omega, pr]
      show ((fld b (s.k + 1) 2 57 pS).bind fun m => pr b (f + 298) ([] ++ (List.replicate m (4, 11) ++ [(1, 12), (2, 13), (1, 14)])) { s with k := s.k + 1 + 2 }) = _
      cases hF : fld b (s.k + 1) 2 57 pS with
      | error er => rfl
      | ok m =>
        have hm : m ≤ 256 := by
          unfold fld at hF
          split at hF
          · cases hF
          · split at hF
            · rename_i hp
              cases hF
              unfold pS at hp
              simp at hp
              omega
            · cases hF
        simp only [Except.bind, List.nil_append]
        rw [show f + 298 = (f + 298 - m) + m by omega, pr_subs]
        cases lens b 4 (s.k + 1 + 2) m with
        | error er => rfl
        | ok ss =>
          simp only [Except.bind]
          rw [show f + 298 - m = (f + 294 - m + 3) + 1 by omega, pr]
          show ((fld b (s.k + 1 + 2 + 4 * m) 1 53 (fun v => v == 255)).bind fun v => pr b (f + 294 - m + 3) ([(2, 13), (1, 14)] ++ []) { s with subs := s.subs ++ ss, k := s.k + 1 + 2 + 4 * m + 1 }) = _
          cases fld b (s.k + 1 + 2 + 4 * m) 1 53 (fun v => v == 255) with
          | error er => rfl
          | ok v =>
            simp only [Except.bind, List.append_nil]
            rw [pr_end]
    · rw [if_neg e, if_neg e, List.nil_append, show f + 299 = (f + 296) + 3 by omega, pr_end]
theorem pr_hdr (b : List Nat) : pr b 2000 base7 ⟨0, 0, [], [], 0⟩ = hdr b := by
  unfold hdr base7
  rw [show (2000 : Nat) = 1999 + 1 from rfl, pr]
  show ((fld b 0 1 51 (fun n => n == 239)).bind fun _ => pr b 1999 [(1, 2), (1, 3), (1, 4), (2, 5), (1, 6), (2, 7)] ⟨0, 1, [], [], 0⟩) = _
  cases fld b 0 1 51 (fun n => n == 239) with
  | error er => rfl
  | ok v1 =>
  simp only [Except.bind]
  rw [show (1999 : Nat) = 1998 + 1 from rfl, pr]
  show ((fld b 1 1 51 (fun n => n == 0)).bind fun _ => pr b 1998 [(1, 3), (1, 4), (2, 5), (1, 6), (2, 7)] ⟨0, 2, [], [], 0⟩) = _
  cases fld b 1 1 51 (fun n => n == 0) with
  | error er => rfl
  | ok v2 =>
  simp only [Except.bind]
  rw [show (1998 : Nat) = 1997 + 1 from rfl, pr]
  show ((fld b 2 1 52 (fun n => n == 1)).bind fun _ => pr b 1997 [(1, 4), (2, 5), (1, 6), (2, 7)] ⟨0, 3, [], [], 0⟩) = _
  cases fld b 2 1 52 (fun n => n == 1) with
  | error er => rfl
  | ok v3 =>
  simp only [Except.bind]
  rw [show (1997 : Nat) = 1996 + 1 from rfl, pr]
  show ((fld b 3 1 53 (fun n => n == 1)).bind fun _ => pr b 1996 [(2, 5), (1, 6), (2, 7)] ⟨0, 4, [], [], 0⟩) = _
  cases fld b 3 1 53 (fun n => n == 1) with
  | error er => rfl
  | ok v4 =>
  simp only [Except.bind]
  rw [show (1996 : Nat) = 1995 + 1 from rfl, pr]
  show ((fld b 4 2 54 pT).bind fun t => pr b 1995 [(1, 6), (2, 7)] ⟨t, 6, [], [], 0⟩) = _
  cases hT : fld b 4 2 54 pT with
  | error er => rfl
  | ok t =>
  have ht : t % 4 = 0 ∧ t ≤ 4096 := by
    unfold fld at hT
    split at hT
    · cases hT
    · split at hT
      · rename_i hp
        cases hT
        unfold pT at hp
        simp at hp
        omega
      · cases hT
  simp only [Except.bind]
  rw [show (1995 : Nat) = 1994 + 1 from rfl, pr]
  show ((fld b 6 1 53 (fun n => n == 2)).bind fun _ => pr b 1994 [(2, 7)] ⟨t, 7, [], [], 0⟩) = _
  cases fld b 6 1 53 (fun n => n == 2) with
  | error er => rfl
  | ok v6 =>
  simp only [Except.bind]
  rw [show (1994 : Nat) = 1993 + 1 from rfl, pr]
  show ((fld b 7 2 55 (fun v => 4 * v == t)).bind fun m => pr b 1993 ([] ++ (List.replicate m (2, 8) ++ [(1, 9)])) ⟨t, 9, [], [], 0⟩) = _
  have ep : (fun v : Nat => 4 * v == t) = (fun n : Nat => n == t / 4) := by
    funext v
    rw [Bool.eq_iff_iff, beq_iff_eq, beq_iff_eq]
    omega
  rw [ep]
  cases hM : fld b 7 2 55 (fun n => n == t / 4) with
  | error er => rfl
  | ok m =>
  have hm : m ≤ 1024 := by
    unfold fld at hM
    split at hM
    · cases hM
    · split at hM
      · rename_i hp
        cases hM
        simp at hp
        omega
      · cases hM
  simp only [Except.bind, List.nil_append]
  rw [show (1993 : Nat) = (1993 - m - 300 + 300) + m by omega, pr_codes]
  cases lens b 2 9 m with
  | error er => rfl
  | ok cs =>
  simp only [Except.bind]
  rw [pr_kind]
  unfold hdKind hdSubs
  simp only [List.nil_append]
/-- no header comes to this -/
theorem hdr_not (b : List Nat) : hdr b ≠ .error (999, 0) := by
  have hf : ∀ k w y p, y < 100 → fld b k w y p ≠ .error (999, 0) := by
    intro k w y p hy h
    unfold fld at h
    split at h
    · cases h
    · split at h
      · cases h
      · injection h with h
        injection h with h _
        omega
  have hl : ∀ w m k, lens b w k m ≠ .error (999, 0) := by
    intro w m
    induction m with
    | zero => intro k h; cases h
    | succ m ih =>
      intro k h
      unfold lens at h
      cases e1 : fld b k w 56 (fun n => decide (0 < n)) with
      | error er => rw [e1] at h; cases h; exact hf _ _ _ _ (by omega) e1
      | ok x =>
        rw [e1] at h
        cases e2 : lens b w (k + w) m with
        | error er => simp only [Except.bind, e2] at h; cases h; exact ih _ e2
        | ok r => simp only [Except.bind, e2] at h; cases h
  have hb : ∀ {α β : Type} (x : Except Er α) (f : α → Except Er β), x ≠ .error (999, 0) → (∀ v, f v ≠ .error (999, 0)) → x.bind f ≠ .error (999, 0) := by
    intro α β x f h1 h2 h
    cases x with
    | error er => exact h1 (by cases h; rfl)
    | ok v => exact h2 v h
  have he : ∀ k cs ss, hdEnd b k cs ss ≠ .error (999, 0) := fun k cs ss => hb _ _ (hf _ _ _ _ (by omega)) fun d => hb _ _ (hf _ _ _ _ (by omega)) fun _ h => by cases h
  unfold hdr
  refine hb _ _ (hf _ _ _ _ (by omega)) fun _ => hb _ _ (hf _ _ _ _ (by omega)) fun _ => hb _ _ (hf _ _ _ _ (by omega)) fun _ => hb _ _ (hf _ _ _ _ (by omega)) fun _ => hb _ _ (hf _ _ _ _ (by omega)) fun t => hb _ _ (hf _ _ _ _ (by omega)) fun _ => hb _ _ (hf _ _ _ _ (by omega)) fun m => hb _ _ (hl _ _ _) fun cs => ?_
  unfold hdKind
  refine hb _ _ (hf _ _ _ _ (by omega)) fun q => ?_
  split
  · unfold hdSubs
    exact hb _ _ (hf _ _ _ _ (by omega)) fun s => hb _ _ (hl _ _ _) fun ss => hb _ _ (hf _ _ _ _ (by omega)) fun _ => he _ _ _
  · exact he _ _ _
end Go.Proofs.Ytndhabhlajldeaa
