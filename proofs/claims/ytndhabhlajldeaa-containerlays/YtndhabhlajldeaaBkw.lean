/- What is written is read as what it was; what is read is written as it was. -/
import Derived.Test.YtndhabhlajldeaaBkl
namespace Go.Proofs.Ytndhabhlajldeaa
theorem drop_more {b l r : List Nat} {k : Nat} (h : b.drop k = l ++ r) (hl : 0 < l.length) : k + l.length ≤ b.length ∧ b.drop (k + l.length) = r := by
  have e := congrArg List.length h
  rw [List.length_drop, List.length_append] at e
  refine ⟨by omega, ?_⟩
  rw [← List.drop_drop, h, List.drop_left]
theorem fld_at {b r : List Nat} {k w n why : Nat} {p : Nat → Bool} (h : b.drop k = dig w n ++ r) (hw : 0 < w) (hn : n < 256 ^ w) (hp : p n = true) : fld b k w why p = .ok n ∧ b.drop (k + w) = r := by
  obtain ⟨h1, h2⟩ := drop_more h (by rw [dig_len]; exact hw)
  rw [dig_len] at h1 h2
  have e : rd b k w = n := by
    unfold rd
    rw [h, List.take_left' (dig_len w n), num_dig, Nat.mod_eq_of_lt hn]
  refine ⟨?_, h2⟩
  unfold fld
  rw [if_neg (by omega), e, if_pos hp]
theorem lens_at {b : List Nat} {w : Nat} (hw : 0 < w) : ∀ (l : List Nat) (k : Nat) (r : List Nat), b.drop k = l.flatMap (dig w) ++ r → (∀ x ∈ l, 0 < x ∧ x < 256 ^ w) → lens b w k l.length = .ok l ∧ b.drop (k + w * l.length) = r
  | [], k, r, h, _ => ⟨rfl, by simpa using h⟩
  | x :: l, k, r, h, hl => by
    rw [List.flatMap_cons, List.append_assoc] at h
    obtain ⟨h1, h2⟩ := fld_at (why := 56) (p := fun n => decide (0 < n)) h hw (hl x (List.mem_cons_self ..)).2 (by simpa using (hl x (List.mem_cons_self ..)).1)
    obtain ⟨h3, h4⟩ := lens_at hw l (k + w) r h2 (fun y hy => hl y (List.mem_cons_of_mem _ hy))
    refine ⟨?_, ?_⟩
    · rw [List.length_cons, lens, h1]
      show (lens b w (k + w) l.length).bind _ = _
      rw [h3]
      rfl
    · rw [List.length_cons, Nat.mul_succ, show k + (w * l.length + w) = k + w + w * l.length by omega]
      exact h4
theorem cuts_at {b : List Nat} : ∀ (l : List (List Nat)) (k : Nat) (r : List Nat), b.drop k = l.flatten ++ r → cuts b k (lns l) = l ∧ b.drop (k + sumL (lns l)) = r
  | [], k, r, h => ⟨rfl, by simpa [lns, sumL] using h⟩
  | x :: l, k, r, h => by
    rw [List.flatten_cons, List.append_assoc] at h
    have h2 : b.drop (k + x.length) = l.flatten ++ r := by rw [← List.drop_drop, h, List.drop_left]
    obtain ⟨h3, h4⟩ := cuts_at l (k + x.length) r h2
    refine ⟨?_, ?_⟩
    · show (b.drop k).take x.length :: cuts b (k + x.length) (lns l) = _
      rw [h3, h, List.take_left]
    · show b.drop (k + sumL (x.length :: lns l)) = r
      rw [sumL_cons, ← Nat.add_assoc]
      exact h4
theorem ty_parts {i : Nat} {t : Ty} (h : ¬ tyBad i t < 3) : okIn i t.1 = true ∧ okOut i t.2.1 = true ∧ okMost t.2.2 = true := by
  have h0 : okIn i t.1 = true := by
    cases e : okIn i t.1
    · exact absurd (by unfold tyBad; rw [if_pos e]; omega) h
    · rfl
  have h1 : okOut i t.2.1 = true := by
    cases e : okOut i t.2.1
    · exact absurd (by unfold tyBad; rw [if_neg (by rw [h0]; decide), if_pos e]; omega) h
    · rfl
  refine ⟨h0, h1, ?_⟩
  cases e : okMost t.2.2
  · exact absurd (by unfold tyBad; rw [if_neg (by rw [h0]; decide), if_neg (by rw [h1]; decide), if_pos e]; omega) h
  · rfl
theorem parts_ty {i : Nat} {t : Ty} (h0 : okIn i t.1 = true) (h1 : okOut i t.2.1 = true) (h2 : okMost t.2.2 = true) : ¬ tyBad i t < 3 := by
  unfold tyBad
  rw [if_neg (by rw [h0]; decide), if_neg (by rw [h1]; decide), if_neg (by rw [h2]; decide)]
  omega
theorem ok_in {i : Nat} {x : Int} (h : okIn i x = true) : 0 ≤ x ∧ x < 256 := by
  unfold okIn at h
  simp at h
  omega
theorem ok_out {i : Nat} {x : Int} (h : okOut i x = true) : 0 ≤ x ∧ x < 256 := by
  unfold okOut at h
  simp at h
  omega
theorem ok_most {x : Int} (h : okMost x = true) : 0 ≤ x ∧ x < 65536 := by
  unfold okMost at h
  simp at h
  omega
theorem tyAt_at {b r : List Nat} {k i : Nat} {t : Ty} (h : b.drop k = tyb t ++ r) (ht : ¬ tyBad i t < 3) : tyAt b k i = .ok t ∧ b.drop (k + 4) = r := by
  obtain ⟨p0, p1, p2⟩ := ty_parts ht
  obtain ⟨x, y, z⟩ := t
  have q0 := ok_in p0
  have q1 := ok_out p1
  have q2 := ok_most p2
  simp only at p0 p1 p2 q0 q1 q2
  unfold tyb at h
  rw [List.append_assoc, List.append_assoc] at h
  obtain ⟨h1, h2⟩ := fld_at (why := 59) (p := fun n => okIn i n) h (by omega) (by simp only; omega) (by simp only; rw [Int.toNat_of_nonneg q0.1]; exact p0)
  obtain ⟨h3, h4⟩ := fld_at (why := 59) (p := fun n => okOut i n) h2 (by omega) (by simp only; omega) (by simp only; rw [Int.toNat_of_nonneg q1.1]; exact p1)
  obtain ⟨h5, h6⟩ := fld_at (why := 59) (p := fun n => okMost n) h4 (by omega) (by simp only; omega) (by simp only; rw [Int.toNat_of_nonneg q2.1]; exact p2)
  refine ⟨?_, by simpa [Nat.add_assoc] using h6⟩
  unfold tyAt
  rw [h1]
  show (fld b (k + 1) 1 59 _).bind _ = _
  rw [h3]
  show (fld b (k + 2) 2 59 _).bind _ = _
  rw [show k + 2 = k + 1 + 1 by omega, h5]
  show Except.ok _ = _
  simp only
  rw [Int.toNat_of_nonneg q0.1, Int.toNat_of_nonneg q1.1, Int.toNat_of_nonneg q2.1]
theorem tys_at {b : List Nat} : ∀ (l : List Ty) (k i : Nat) (r : List Nat), b.drop k = l.flatMap tyb ++ r → chkT i l = 0 → tys b k i l.length = .ok l ∧ b.drop (k + 4 * l.length) = r
  | [], k, i, r, h, _ => ⟨rfl, by simpa using h⟩
  | t :: l, k, i, r, h, hc => by
    rw [List.flatMap_cons, List.append_assoc] at h
    unfold chkT at hc
    split at hc
    · exact absurd hc (by decide)
    rename_i ht
    obtain ⟨h1, h2⟩ := tyAt_at h ht
    obtain ⟨h3, h4⟩ := tys_at l (k + 4) (i + 1) r h2 hc
    refine ⟨?_, ?_⟩
    · rw [List.length_cons, tys, h1]
      show (tys b (k + 4) (i + 1) l.length).bind _ = _
      rw [h3]
      rfl
    · rw [List.length_cons, Nat.mul_succ, show k + (4 * l.length + 4) = k + 4 + 4 * l.length by omega]
      exact h4
/-- a header that is written is read -/
theorem hdEnd_at {b r cs ss : List Nat} {k n : Nat} (h : b.drop k = dig 2 n ++ (dig 1 0 ++ r)) (hn : n < 65536) : hdEnd b k cs ss = .ok ⟨cs, ss, n, k + 3⟩ ∧ b.drop (k + 3) = r := by
  obtain ⟨h1, h2⟩ := fld_at (why := 0) (p := fun _ => true) h (by omega) (by omega) rfl
  obtain ⟨h3, h4⟩ := fld_at (why := 53) (p := fun n => n == 0) h2 (by omega) (by omega) rfl
  refine ⟨?_, h4⟩
  unfold hdEnd
  rw [h1]
  show (fld b (k + 2) 1 53 _).bind _ = _
  rw [h3]
  rfl
theorem hdSubs_at {b r cs ss : List Nat} {k n : Nat} (h : b.drop k = dig 2 ss.length ++ (ss.flatMap (dig 4) ++ (dig 1 255 ++ (dig 2 n ++ (dig 1 0 ++ r))))) (hn : n < 65536) (h0 : 0 < ss.length) (h1 : ss.length ≤ 256) (hs : ∀ x ∈ ss, 0 < x ∧ x < 256 ^ 4) : hdSubs b k cs = .ok ⟨cs, ss, n, k + 2 + 4 * ss.length + 1 + 3⟩ ∧ b.drop (k + 2 + 4 * ss.length + 1 + 3) = r := by
  obtain ⟨a1, a2⟩ := fld_at (why := 57) (p := pS) h (by omega) (by omega) (by unfold pS; simp; omega)
  obtain ⟨a3, a4⟩ := lens_at (by omega) ss (k + 2) _ a2 hs
  obtain ⟨a5, a6⟩ := fld_at (why := 53) (p := fun n => n == 255) a4 (by omega) (by omega) rfl
  obtain ⟨a7, a8⟩ := hdEnd_at (cs := cs) (ss := ss) a6 hn
  refine ⟨?_, a8⟩
  unfold hdSubs
  rw [a1]
  show (lens b 4 (k + 2) ss.length).bind _ = _
  rw [a3]
  show (fld b _ 1 53 _).bind _ = _
  rw [a5]
  exact a7
theorem hdr_at {r cs ss : List Nat} {n : Nat} (hn : n < 65536) (c0 : 0 < cs.length) (c1 : cs.length ≤ 1024) (hc : ∀ x ∈ cs, 0 < x ∧ x < 256 ^ 2) (s1 : ss.length ≤ 256) (hs : ∀ x ∈ ss, 0 < x ∧ x < 256 ^ 4) : hdr (hd cs ss n ++ r) = .ok ⟨cs, ss, n, (hd cs ss n).length⟩ := by
  generalize hb : hd cs ss n ++ r = b
  have h0 : b.drop 0 = dig 1 239 ++ (dig 1 0 ++ (dig 1 1 ++ (dig 1 1 ++ (dig 2 (4 * cs.length) ++ (dig 1 2 ++ (dig 2 cs.length ++ (cs.flatMap (dig 2) ++ ((if ss.length = 0 then [] else [3] ++ dig 2 ss.length ++ ss.flatMap (dig 4)) ++ (dig 1 255 ++ (dig 2 n ++ (dig 1 0 ++ r))))))))))) := by
    rw [← hb, List.drop_zero]
    simp [hd, dig]
  obtain ⟨a1, b1⟩ := fld_at (why := 51) (p := fun n => n == 239) h0 (by omega) (by omega) rfl
  obtain ⟨a2, b2⟩ := fld_at (why := 51) (p := fun n => n == 0) b1 (by omega) (by omega) rfl
  obtain ⟨a3, b3⟩ := fld_at (why := 52) (p := fun n => n == 1) b2 (by omega) (by omega) rfl
  obtain ⟨a4, b4⟩ := fld_at (why := 53) (p := fun n => n == 1) b3 (by omega) (by omega) rfl
  obtain ⟨a5, b5⟩ := fld_at (why := 54) (p := pT) b4 (by omega) (by omega) (by unfold pT; simp; omega)
  obtain ⟨a6, b6⟩ := fld_at (why := 53) (p := fun n => n == 2) b5 (by omega) (by omega) rfl
  obtain ⟨a7, b7⟩ := fld_at (why := 55) (p := fun m => m == 4 * cs.length / 4) b6 (by omega) (by omega) (by simp)
  obtain ⟨a8, b8⟩ := lens_at (by omega) cs _ _ b7 hc
  have key : hdKind b (9 + 2 * cs.length) cs = .ok ⟨cs, ss, n, (hd cs ss n).length⟩ := by
    rw [hd_len]
    unfold hdKind
    have b8' : b.drop (9 + 2 * cs.length) = _ := b8
    by_cases e : ss.length = 0
    · rw [if_pos e, List.nil_append] at b8'
      have e' : ss = [] := List.eq_nil_of_length_eq_zero e
      obtain ⟨a9, b9⟩ := fld_at (why := 53) (p := pK) b8' (by omega) (by omega) rfl
      obtain ⟨a10, _⟩ := hdEnd_at (cs := cs) (ss := []) b9 hn
      rw [a9]
      show (if (255 : Nat) = 3 then hdSubs b (9 + 2 * cs.length + 1) cs else hdEnd b (9 + 2 * cs.length + 1) cs []) = _
      rw [if_neg (by omega), a10, if_pos e, e']
      simp only [Except.ok.injEq, Hd.mk.injEq, true_and]
      omega
    · rw [if_neg e] at b8'
      rw [List.append_assoc, List.append_assoc] at b8'
      obtain ⟨a9, b9⟩ := fld_at (n := 3) (w := 1) (why := 53) (p := pK) b8' (by omega) (by omega) rfl
      obtain ⟨a10, _⟩ := hdSubs_at (cs := cs) b9 hn (by omega) s1 hs
      rw [a9]
      show (if (3 : Nat) = 3 then hdSubs b (9 + 2 * cs.length + 1) cs else hdEnd b (9 + 2 * cs.length + 1) cs []) = _
      rw [if_pos rfl, a10, if_neg e]
      simp only [Except.ok.injEq, Hd.mk.injEq, true_and]
      omega
  unfold hdr
  rw [a1]
  show (fld b 1 1 51 _).bind _ = _
  have a2' : fld b 1 1 51 (fun n => n == 0) = .ok 0 := a2
  rw [a2']
  show (fld b 2 1 52 _).bind _ = _
  have a3' : fld b 2 1 52 (fun n => n == 1) = .ok 1 := a3
  rw [a3']
  show (fld b 3 1 53 _).bind _ = _
  have a4' : fld b 3 1 53 (fun n => n == 1) = .ok 1 := a4
  rw [a4']
  show (fld b 4 2 54 _).bind _ = _
  have a5' : fld b 4 2 54 pT = .ok (4 * cs.length) := a5
  rw [a5']
  show (fld b 6 1 53 _).bind _ = _
  have a6' : fld b 6 1 53 (fun n => n == 2) = .ok 2 := a6
  rw [a6']
  show (fld b 7 2 55 _).bind _ = _
  have a7' : fld b 7 2 55 (fun m => m == 4 * cs.length / 4) = .ok cs.length := a7
  rw [a7']
  show (lens b 2 9 cs.length).bind _ = _
  have a8' : lens b 2 9 cs.length = .ok cs := a8
  rw [a8']
  exact key
theorem lns_pos {m : Nat} {l : List (List Nat)} (h : chkP m l = 0) : ∀ x ∈ lns l, 0 < x ∧ x < m + 1 := by
  intro x hx
  obtain ⟨y, hy, rfl⟩ := List.mem_map.1 hx
  have := chkP_ok m l h y hy
  omega
/-- 5.5: what is written is read as what it was -/
theorem prs_ser {c : Con} (h : May c) (opn : Bool) (ho : opn = false → (c.d.length : Int) = c.n) : prs (ser c) opn = .ok c := by
  have z1 := h.z1
  have z2 := h.z2
  have e1 : ser c = hd (lns c.cs) (lns c.ss) c.n.toNat ++ (c.ts.flatMap tyb ++ (c.cs.flatten ++ (c.ss.flatten ++ c.d))) := by
    unfold ser
    simp only [List.append_assoc]
  have e2 := hdr_at (r := c.ts.flatMap tyb ++ (c.cs.flatten ++ (c.ss.flatten ++ c.d))) (n := c.n.toNat) (cs := lns c.cs) (ss := lns c.ss) (by omega) (by rw [lns_len]; exact h.n1) (by rw [lns_len]; exact h.n2) (lns_pos h.pc) (by rw [lns_len]; exact h.ns) (lns_pos h.ps)
  rw [← e1] at e2
  have d0 : (ser c).drop (hd (lns c.cs) (lns c.ss) c.n.toNat).length = c.ts.flatMap tyb ++ (c.cs.flatten ++ (c.ss.flatten ++ c.d)) := by rw [e1, List.drop_left]
  obtain ⟨t1, d1⟩ := tys_at c.ts _ 0 _ d0 h.ty
  obtain ⟨t2, d2⟩ := cuts_at c.cs _ _ d1
  obtain ⟨t3, d3⟩ := cuts_at c.ss _ _ d2
  have hl := ser_len h
  unfold prs
  rw [e2]
  simp only [Except.bind]
  rw [h.nt] at t1 t2 t3 d3
  rw [lns_len] at hl ⊢
  rw [if_neg (by
    split
    · omega
    · rename_i e
      have := ho (by simpa using e)
      omega), if_neg (by omega), t1]
  simp only
  rw [t2, t3, d3, Int.toNat_of_nonneg (by omega)]
end Go.Proofs.Ytndhabhlajldeaa
