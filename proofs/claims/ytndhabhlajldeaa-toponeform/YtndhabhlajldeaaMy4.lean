/- What is written is read as what it was; what is read is written as it was. -/
import Derived.Test.YtndhabhlajldeaaMy3
namespace Go.Proofs.Ytndhabhlajldeaa
theorem drop_more {b l r : List Nat} {k : Nat} (h : b.drop k = l ++ r) (hl : 0 < l.length) : k + l.length ≤ b.length ∧ b.drop (k + l.length) = r := by
  have e := congrArg List.length h
  rw [List.length_drop, List.length_append] at e
  refine ⟨by omega, ?_⟩
  rw [← List.drop_drop, h, List.drop_left]
theorem fld_at {b r : List Nat} {k w n why : Nat} {p : Nat → Bool} (h : b.drop k = dig w n ++ r) (hw : 0 < w) (hn : n < 256 ^ w) (hp : p n = true) : fld b k w why p = .ok n ∧ b.drop (k + w) = r := by
  obtain ⟨h1, h2⟩ := drop_more h (by rw [dig_len]; exact hw)
  rw [dig_len] at h1 h2
  have e : rd b k w = n := by
    unfold rd
    rw [h, List.take_left' (dig_len w n), num_dig, Nat.mod_eq_of_lt hn]
  refine ⟨?_, h2⟩
  unfold fld
  rw [if_neg (by omega), e, if_pos hp]
theorem lens_at {b : List Nat} {w : Nat} (hw : 0 < w) : ∀ (l : List Nat) (k : Nat) (r : List Nat), b.drop k = l.flatMap (dig w) ++ r → (∀ x ∈ l, 0 < x ∧ x < 256 ^ w) → lens b w k l.length = .ok l ∧ b.drop (k + w * l.length) = r
  | [], k, r, h, _ => ⟨rfl, by simpa using h⟩
  | x :: l, k, r, h, hl => by
    rw [List.flatMap_cons, List.append_assoc] at h
    obtain ⟨h1, h2⟩ := fld_at (why := 56) (p := fun n => decide (0 < n)) h hw (hl x (List.mem_cons_self ..)).2 (by simpa using (hl x (List.mem_cons_self ..)).1)
    obtain ⟨h3, h4⟩ := lens_at hw l (k + w) r h2 (fun y hy => hl y (List.mem_cons_of_mem _ hy))
    refine ⟨?_, ?_⟩
    · rw [List.length_cons, lens, h1]
      show (lens b w (k + w) l.length).bind _ = _
      rw [h3]
      rfl
    · rw [List.length_cons, Nat.mul_succ, show k + (w * l.length + w) = k + w + w * l.length by omega]
      exact h4
theorem cuts_at {b : List Nat} : ∀ (l : List (List Nat)) (k : Nat) (r : List Nat), b.drop k = l.flatten ++ r → cuts b k (lns l) = l ∧ b.drop (k + sumL (lns l)) = r
  | [], k, r, h => ⟨rfl, by simpa [lns, sumL] using h⟩
  | x :: l, k, r, h => by
    rw [List.flatten_cons, List.append_assoc] at h
    have h2 : b.drop (k + x.length) = l.flatten ++ r := by rw [← List.drop_drop, h, List.drop_left]
    obtain ⟨h3, h4⟩ := cuts_at l (k + x.length) r h2
    refine ⟨?_, ?_⟩
    · show (b.drop k).take x.length :: cuts b (k + x.length) (lns l) = _
      rw [h3, h, List.take_left]
    · show b.drop (k + sumL (x.length :: lns l)) = r
      rw [sumL_cons, ← Nat.add_assoc]
      exact h4
theorem ty_parts {i : Nat} {t : Ty} (h : ¬ tyBad i t < 3) : okIn i t.1 = true ∧ okOut i t.2.1 = true ∧ okMost t.2.2 = true := by
  have h0 : okIn i t.1 = true := by
    cases e : okIn i t.1
    · exact absurd (by unfold tyBad; rw [if_pos e]; omega) h
    · rfl
  have h1 : okOut i t.2.1 = true := by
    cases e : okOut i t.2.1
    · exact absurd (by unfold tyBad; rw [if_neg (by rw [h0]; decide), if_pos e]; omega) h
    · rfl
  refine ⟨h0, h1, ?_⟩
  cases e : okMost t.2.2
  · exact absurd (by unfold tyBad; rw [if_neg (by rw [h0]; decide), if_neg (by rw [h1]; decide), if_pos e]; omega) h
  · rfl
theorem parts_ty {i : Nat} {t : Ty} (h0 : okIn i t.1 = true) (h1 : okOut i t.2.1 = true) (h2 : okMost t.2.2 = true) : ¬ tyBad i t < 3 := by
  unfold tyBad
  rw [if_neg (by rw [h0]; decide), if_neg (by rw [h1]; decide), if_neg (by rw [h2]; decide)]
  omega
theorem ok_in {i : Nat} {x : Int} (h : okIn i x = true) : 0 ≤ x ∧ x < 256 := by
  unfold okIn at h
  simp at h
  omega
theorem ok_out {i : Nat} {x : Int} (h : okOut i x = true) : 0 ≤ x ∧ x < 256 := by
  unfold okOut at h
  simp at h
  omega
theorem ok_most {x : Int} (h : okMost x = true) : 0 ≤ x ∧ x < 65536 := by
  unfold okMost at h
  simp at h
  omega
theorem tyAt_at {b r : List Nat} {k i : Nat} {t : Ty} (h : b.drop k = tyb t ++ r) (ht : ¬ tyBad i t < 3) : tyAt b k i = .ok t ∧ b.drop (k + 4) = r := by
  obtain ⟨p0, p1, p2⟩ := ty_parts ht
  obtain ⟨x, y, z⟩ := t
  have q0 := ok_in p0
  have q1 := ok_out p1
  have q2 := ok_most p2
  simp only at p0 p1 p2 q0 q1 q2
  unfold tyb at h
  rw [List.append_assoc, List.append_assoc] at h
  obtain ⟨h1, h2⟩ := fld_at (why := 59) (p := fun n => okIn i n) h (by omega) (by simp only; omega) (by simp only; rw [Int.toNat_of_nonneg q0.1]; exact p0)
  obtain ⟨h3, h4⟩ := fld_at (why := 59) (p := fun n => okOut i n) h2 (by omega) (by simp only; omega) (by simp only; rw [Int.toNat_of_nonneg q1.1]; exact p1)
  obtain ⟨h5, h6⟩ := fld_at (why := 59) (p := fun n => okMost n) h4 (by omega) (by simp only; omega) (by simp only; rw [Int.toNat_of_nonneg q2.1]; exact p2)
  refine ⟨?_, by simpa [Nat.add_assoc] using h6⟩
  unfold tyAt
  rw [h1]
  show (fld b (k + 1) 1 59 _).bind _ = _
  rw [h3]
  show (fld b (k + 2) 2 59 _).bind _ = _
  rw [show k + 2 = k + 1 + 1 by omega, h5]
  show Except.ok _ = _
  simp only
  rw [Int.toNat_of_nonneg q0.1, Int.toNat_of_nonneg q1.1, Int.toNat_of_nonneg q2.1]
theorem tys_at {b : List Nat} : ∀ (l : List Ty) (k i : Nat) (r : List Nat), b.drop k = l.flatMap tyb ++ r → chkT i l = 0 → tys b k i l.length = .ok l ∧ b.drop (k + 4 * l.length) = r
  | [], k, i, r, h, _ => ⟨rfl, by simpa using h⟩
  | t :: l, k, i, r, h, hc => by
    rw [List.flatMap_cons, List.append_assoc] at h
    unfold chkT at hc
    split at hc
    · exact absurd hc (by decide)
    rename_i ht
    obtain ⟨h1, h2⟩ := tyAt_at h ht
    obtain ⟨h3, h4⟩ := tys_at l (k + 4) (i + 1) r h2 hc
    refine ⟨?_, ?_⟩
    · rw [List.length_cons, tys, h1]
      show (tys b (k + 4) (i + 1) l.length).bind _ = _
      rw [h3]
      rfl
    · rw [List.length_cons, Nat.mul_succ, show k + (4 * l.length + 4) = k + 4 + 4 * l.length by omega]
      exact h4
/-- a header that is written is read -/
theorem hdEnd_at {b r cs ss : List Nat} {k n : Nat} (h : b.drop k = dig 2 n ++ (dig 1 0 ++ r)) (hn : n < 65536) : hdEnd b k cs ss = .ok ⟨cs, ss, n, k + 3⟩ ∧ b.drop (k + 3) = r := by
  obtain ⟨h1, h2⟩ := fld_at (why := 0) (p := fun _ => true) h (by omega) (by omega) rfl
  obtain ⟨h3, h4⟩ := fld_at (why := 53) (p := fun n => n == 0) h2 (by omega) (by omega) rfl
  refine ⟨?_, h4⟩
  unfold hdEnd
  rw [h1]
  show (fld b (k + 2) 1 53 _).bind _ = _
  rw [h3]
  rfl
theorem hdSubs_at {b r cs ss : List Nat} {k n : Nat} (h : b.drop k = dig 2 ss.length ++ (ss.flatMap (dig 4) ++ (dig 1 255 ++ (dig 2 n ++ (dig 1 0 ++ r))))) (hn : n < 65536) (h0 : 0 < ss.length) (h1 : ss.length ≤ 256) (hs : ∀ x ∈ ss, 0 < x ∧ x < 256 ^ 4) : hdSubs b k cs = .ok ⟨cs, ss, n, k + 2 + 4 * ss.length + 1 + 3⟩ ∧ b.drop (k + 2 + 4 * ss.length + 1 + 3) = r := by
  obtain ⟨a1, a2⟩ := fld_at (why := 57) (p := pS) h (by omega) (by omega) (by unfold pS; simp; omega)
  obtain ⟨a3, a4⟩ := lens_at (by omega) ss (k + 2) _ a2 hs
  obtain ⟨a5, a6⟩ := fld_at (why := 53) (p := fun n => n == 255) a4 (by omega) (by omega) rfl
  obtain ⟨a7, a8⟩ := hdEnd_at (cs := cs) (ss := ss) a6 hn
  refine ⟨?_, a8⟩
  unfold hdSubs
  rw [a1]
  show (lens b 4 (k + 2) ss.length).bind _ = _
  rw [a3]
  show (fld b _ 1 53 _).bind _ = _
  rw [a5]
  exact a7
theorem hdr_at {r cs ss : List Nat} {n : Nat} (hn : n < 65536) (c0 : 0 < cs.length) (c1 : cs.length ≤ 1024) (hc : ∀ x ∈ cs, 0 < x ∧ x < 256 ^ 2) (s1 : ss.length ≤ 256) (hs : ∀ x ∈ ss, 0 < x ∧ x < 256 ^ 4) : hdr (hd cs ss n ++ r) = .ok ⟨cs, ss, n, (hd cs ss n).length⟩ := by
  generalize hb : hd cs ss n ++ r = b
  have h0 : b.drop 0 = dig 1 239 ++ (dig 1 0 ++ (dig 1 1 ++ (dig 1 1 ++ (dig 2 (4 * cs.length) ++ (dig 1 2 ++ (dig 2 cs.length ++ (cs.flatMap (dig 2) ++ ((if ss.length = 0 then [] else [3] ++ dig 2 ss.length ++ ss.flatMap (dig 4)) ++ (dig 1 255 ++ (dig 2 n ++ (dig 1 0 ++ r))))))))))) := by
    rw [← hb, List.drop_zero]
    simp [hd, dig]
  obtain ⟨a1, b1⟩ := fld_at (why := 51) (p := fun n => n == 239) h0 (by omega) (by omega) rfl
  obtain ⟨a2, b2⟩ := fld_at (why := 51) (p := fun n => n == 0) b1 (by omega) (by omega) rfl
  obtain ⟨a3, b3⟩ := fld_at (why := 52) (p := fun n => n == 1) b2 (by omega) (by omega) rfl
  obtain ⟨a4, b4⟩ := fld_at (why := 53) (p := fun n => n == 1) b3 (by omega) (by omega) rfl
  obtain ⟨a5, b5⟩ := fld_at (why := 54) (p := pT) b4 (by omega) (by omega) (by unfold pT; simp; omega)
  obtain ⟨a6, b6⟩ := fld_at (why := 53) (p := fun n => n == 2) b5 (by omega) (by omega) rfl
  obtain ⟨a7, b7⟩ := fld_at (why := 55) (p := fun m => m == 4 * cs.length / 4) b6 (by omega) (by omega) (by simp)
  obtain ⟨a8, b8⟩ := lens_at (by omega) cs _ _ b7 hc
  have key : hdKind b (9 + 2 * cs.length) cs = .ok ⟨cs, ss, n, (hd cs ss n).length⟩ := by
    rw [hd_len]
    unfold hdKind
    have b8' : b.drop (9 + 2 * cs.length) = _ := b8
    by_cases e : ss.length = 0
    · rw [if_pos e, List.nil_append] at b8'
      have e' : ss = [] := List.eq_nil_of_length_eq_zero e
      obtain ⟨a9, b9⟩ := fld_at (why := 53) (p := pK) b8' (by omega) (by omega) rfl
      obtain ⟨a10, _⟩ := hdEnd_at (cs := cs) (ss := []) b9 hn
      rw [a9]
      show (if (255 : Nat) = 3 then hdSubs b (9 + 2 * cs.length + 1) cs else hdEnd b (9 + 2 * cs.length + 1) cs []) = _
      rw [if_neg (by omega), a10, if_pos e, e']
      simp only [Except.ok.injEq, Hd.mk.injEq, true_and]
      omega
    · rw [if_neg e] at b8'
      rw [List.append_assoc, List.append_assoc] at b8'
      obtain ⟨a9, b9⟩ := fld_at (n := 3) (w := 1) (why := 53) (p := pK) b8' (by omega) (by omega) rfl
      obtain ⟨a10, _⟩ := hdSubs_at (cs := cs) b9 hn (by omega) s1 hs
      rw [a9]
      show (if (3 : Nat) = 3 then hdSubs b (9 + 2 * cs.length + 1) cs else hdEnd b (9 + 2 * cs.length + 1) cs []) = _
      rw [if_pos rfl, a10, if_neg e]
      simp only [Except.ok.injEq, Hd.mk.injEq, true_and]
      omega
  unfold hdr
  rw [a1]
  show (fld b 1 1 51 _).bind _ = _
  have a2' : fld b 1 1 51 (fun n => n == 0) = .ok 0 := a2
  rw [a2']
  show (fld b 2 1 52 _).bind _ = _
  have a3' : fld b 2 1 52 (fun n => n == 1) = .ok 1 := a3
  rw [a3']
  show (fld b 3 1 53 _).bind _ = _
  have a4' : fld b 3 1 53 (fun n => n == 1) = .ok 1 := a4
  rw [a4']
  show (fld b 4 2 54 _).bind _ = _
  have a5' : fld b 4 2 54 pT = .ok (4 * cs.length) := a5
  rw [a5']
  show (fld b 6 1 53 _).bind _ = _
  have a6' : fld b 6 1 53 (fun n => n == 2) = .ok 2 := a6
  rw [a6']
  show (fld b 7 2 55 _).bind _ = _
  have a7' : fld b 7 2 55 (fun m => m == 4 * cs.length / 4) = .ok cs.length := a7
  rw [a7']
  show (lens b 2 9 cs.length).bind _ = _
  have a8' : lens b 2 9 cs.length = .ok cs := a8
  rw [a8']
  exact key
theorem lns_pos {m : Nat} {l : List (List Nat)} (h : chkP m l = 0) : ∀ x ∈ lns l, 0 < x ∧ x < m + 1 := by
  intro x hx
  obtain ⟨y, hy, rfl⟩ := List.mem_map.1 hx
  have := chkP_ok m l h y hy
  omega
/-- 5.5: what is written is read as what it was -/
theorem prs_ser {c : Con} (h : May c) (opn : Bool) (ho : opn = false → (c.d.length : Int) = c.n) : prs (ser c) opn = .ok c := by
  have z1 := h.z1
  have z2 := h.z2
  have e1 : ser c = hd (lns c.cs) (lns c.ss) c.n.toNat ++ (c.ts.flatMap tyb ++ (c.cs.flatten ++ (c.ss.flatten ++ c.d))) := by
    unfold ser
    simp only [List.append_assoc]
  have e2 := hdr_at (r := c.ts.flatMap tyb ++ (c.cs.flatten ++ (c.ss.flatten ++ c.d))) (n := c.n.toNat) (cs := lns c.cs) (ss := lns c.ss) (by omega) (by rw [lns_len]; exact h.n1) (by rw [lns_len]; exact h.n2) (lns_pos h.pc) (by rw [lns_len]; exact h.ns) (lns_pos h.ps)
  rw [← e1] at e2
  have d0 : (ser c).drop (hd (lns c.cs) (lns c.ss) c.n.toNat).length = c.ts.flatMap tyb ++ (c.cs.flatten ++ (c.ss.flatten ++ c.d)) := by rw [e1, List.drop_left]
  obtain ⟨t1, d1⟩ := tys_at c.ts _ 0 _ d0 h.ty
  obtain ⟨t2, d2⟩ := cuts_at c.cs _ _ d1
  obtain ⟨t3, d3⟩ := cuts_at c.ss _ _ d2
  have hl := ser_len h
  unfold prs
  rw [e2]
  simp only [Except.bind]
  rw [h.nt] at t1 t2 t3 d3
  rw [lns_len] at hl ⊢
  rw [if_neg (by
    split
    · omega
    · rename_i e
      have := ho (by simpa using e)
      omega), if_neg (by omega), t1]
  simp only
  rw [t2, t3, d3, Int.toNat_of_nonneg (by omega)]
end Go.Proofs.Ytndhabhlajldeaa
/- What Parse takes is a container that may be, and its bytes are those that were read. -/
namespace Go.Proofs.Ytndhabhlajldeaa
theorem bind_ok {α β : Type} {x : Except Er α} {f : α → Except Er β} {y : β} (h : x.bind f = .ok y) : ∃ a, x = .ok a ∧ f a = .ok y := by
  cases x with
  | error e => cases h
  | ok a => exact ⟨a, rfl, h⟩
theorem byt_drop {b : List Nat} (h : Byt b) (k : Nat) : Byt (b.drop k) := fun x hx => h x (List.mem_of_mem_drop hx)
theorem byt_take {b : List Nat} (h : Byt b) (k : Nat) : Byt (b.take k) := fun x hx => h x (List.mem_of_mem_take hx)
theorem fld_was {b : List Nat} {k w n why : Nat} {p : Nat → Bool} (hb : Byt b) (h : fld b k w why p = .ok n) : b.drop k = dig w n ++ b.drop (k + w) ∧ n < 256 ^ w ∧ p n = true ∧ k + w ≤ b.length := by
  unfold fld at h
  split at h
  · cases h
  rename_i h1
  split at h
  · rename_i h2
    injection h with h
    have hl : ((b.drop k).take w).length = w := by rw [List.length_take, List.length_drop]; omega
    have hy : Byt ((b.drop k).take w) := byt_take (byt_drop hb k) w
    have h3 := num_lt _ hy
    rw [hl] at h3
    have h4 := dig_num w _ hl hy
    unfold rd at h h2
    rw [h] at h2 h3 h4
    refine ⟨?_, h3, h2, by omega⟩
    rw [h4, ← List.drop_drop, List.take_append_drop]
  · cases h
theorem lens_ok {b : List Nat} {w : Nat} (hb : Byt b) : ∀ (m k : Nat) (l : List Nat), lens b w k m = .ok l → l.length = m ∧ b.drop k = l.flatMap (dig w) ++ b.drop (k + w * m) ∧ ∀ x ∈ l, 0 < x ∧ x < 256 ^ w
  | 0, k, l, h => by
    injection h with h
    subst h
    exact ⟨rfl, by simp, fun x hx => by cases hx⟩
  | m + 1, k, l, h => by
    rw [lens] at h
    obtain ⟨n, h1, h⟩ := bind_ok h
    obtain ⟨r, h2, h⟩ := bind_ok h
    injection h with h
    subst h
    obtain ⟨a1, a2, a3, _⟩ := fld_was hb h1
    obtain ⟨b1, b2, b3⟩ := lens_ok hb m (k + w) r h2
    refine ⟨by rw [List.length_cons, b1], ?_, ?_⟩
    · rw [a1, b2, List.flatMap_cons, List.append_assoc, Nat.mul_succ, show k + (w * m + w) = k + w + w * m by omega]
    · intro x hx
      rcases List.mem_cons.1 hx with rfl | hx
      · exact ⟨by simpa using a3, a2⟩
      · exact b3 x hx
theorem tyAt_ok {b : List Nat} (hb : Byt b) {k i : Nat} {t : Ty} (h : tyAt b k i = .ok t) : b.drop k = tyb t ++ b.drop (k + 4) ∧ ¬ tyBad i t < 3 := by
  unfold tyAt at h
  obtain ⟨x, h1, h⟩ := bind_ok h
  obtain ⟨y, h2, h⟩ := bind_ok h
  obtain ⟨z, h3, h⟩ := bind_ok h
  injection h with h
  subst h
  obtain ⟨a1, _, a3, _⟩ := fld_was hb h1
  obtain ⟨b1, _, b3, _⟩ := fld_was hb h2
  obtain ⟨c1, _, c3, _⟩ := fld_was hb h3
  refine ⟨?_, parts_ty a3 b3 c3⟩
  rw [a1, b1]
  show _ ++ (_ ++ b.drop (k + 2)) = _
  rw [c1]
  unfold tyb
  simp only [Int.toNat_natCast, List.append_assoc]
theorem tys_ok {b : List Nat} (hb : Byt b) : ∀ (m k i : Nat) (l : List Ty), tys b k i m = .ok l → l.length = m ∧ b.drop k = l.flatMap tyb ++ b.drop (k + 4 * m) ∧ chkT i l = 0
  | 0, k, i, l, h => by
    injection h with h
    subst h
    exact ⟨rfl, by simp, rfl⟩
  | m + 1, k, i, l, h => by
    rw [tys] at h
    obtain ⟨t, h1, h⟩ := bind_ok h
    obtain ⟨r, h2, h⟩ := bind_ok h
    injection h with h
    subst h
    obtain ⟨a1, a2⟩ := tyAt_ok hb h1
    obtain ⟨b1, b2, b3⟩ := tys_ok hb m (k + 4) (i + 1) r h2
    refine ⟨by rw [List.length_cons, b1], ?_, ?_⟩
    · rw [a1, b2, List.flatMap_cons, List.append_assoc, Nat.mul_succ, show k + (4 * m + 4) = k + 4 + 4 * m by omega]
    · unfold chkT
      rw [if_neg a2]
      exact b3
theorem cuts_ok {b : List Nat} : ∀ (l : List Nat) (k : Nat), k + sumL l ≤ b.length → lns (cuts b k l) = l ∧ b.drop k = (cuts b k l).flatten ++ b.drop (k + sumL l)
  | [], k, _ => ⟨rfl, by simp [cuts, sumL]⟩
  | n :: l, k, h => by
    rw [sumL_cons] at h
    obtain ⟨h1, h2⟩ := cuts_ok (b := b) l (k + n) (by omega)
    refine ⟨?_, ?_⟩
    · show ((b.drop k).take n).length :: lns (cuts b (k + n) l) = _
      rw [h1, List.length_take, List.length_drop, Nat.min_eq_left (by omega)]
    · show _ = ((b.drop k).take n :: cuts b (k + n) l).flatten ++ _
      rw [List.flatten_cons, List.append_assoc, sumL_cons, ← Nat.add_assoc, ← h2, ← List.drop_drop, List.take_append_drop]
theorem chkP_of {m : Nat} : ∀ l : List (List Nat), (∀ x ∈ lns l, 0 < x ∧ x ≤ m) → chkP m l = 0
  | [], _ => rfl
  | x :: l, h => by
    have h1 := h x.length (List.mem_cons_self ..)
    unfold chkP
    rw [if_neg (by omega), if_neg (by omega)]
    exact chkP_of l fun y hy => h y (List.mem_cons_of_mem _ hy)
/-- what a header that is taken says -/
structure HdIs (b : List Nat) (h : Hd) : Prop where
  eq : b = hd h.cs h.ss h.d ++ b.drop h.e
  e : h.e = (hd h.cs h.ss h.d).length
  c0 : 0 < h.cs.length
  c1 : h.cs.length ≤ 1024
  hc : ∀ x ∈ h.cs, 0 < x ∧ x < 256 ^ 2
  s1 : h.ss.length ≤ 256
  hs : ∀ x ∈ h.ss, 0 < x ∧ x < 256 ^ 4
  hd : h.d < 65536
theorem hdEnd_ok {b : List Nat} (hb : Byt b) {k : Nat} {cs ss : List Nat} {h : Hd} (g : hdEnd b k cs ss = .ok h) : h.cs = cs ∧ h.ss = ss ∧ h.e = k + 3 ∧ h.d < 65536 ∧ b.drop k = dig 2 h.d ++ (dig 1 0 ++ b.drop (k + 3)) := by
  unfold hdEnd at g
  obtain ⟨d, h1, g⟩ := bind_ok g
  obtain ⟨z, h2, g⟩ := bind_ok g
  injection g with g
  subst g
  obtain ⟨a1, a2, _, _⟩ := fld_was hb h1
  obtain ⟨b1, _, b3, _⟩ := fld_was hb h2
  have hz : z = 0 := by simpa using b3
  subst hz
  exact ⟨rfl, rfl, rfl, a2, by rw [a1, b1]⟩
theorem hdSubs_ok {b : List Nat} (hb : Byt b) {k : Nat} {cs : List Nat} {h : Hd} (g : hdSubs b k cs = .ok h) : h.cs = cs ∧ 0 < h.ss.length ∧ h.ss.length ≤ 256 ∧ (∀ x ∈ h.ss, 0 < x ∧ x < 256 ^ 4) ∧ h.e = k + 2 + 4 * h.ss.length + 1 + 3 ∧ h.d < 65536 ∧ b.drop k = dig 2 h.ss.length ++ (h.ss.flatMap (dig 4) ++ (dig 1 255 ++ (dig 2 h.d ++ (dig 1 0 ++ b.drop h.e)))) := by
  unfold hdSubs at g
  obtain ⟨s, h1, g⟩ := bind_ok g
  obtain ⟨ss, h2, g⟩ := bind_ok g
  obtain ⟨z, h3, g⟩ := bind_ok g
  obtain ⟨e1, e2, e3, e4, e5⟩ := hdEnd_ok hb g
  obtain ⟨a1, _, a3, _⟩ := fld_was hb h1
  obtain ⟨b1, b2, b3⟩ := lens_ok hb _ _ _ h2
  obtain ⟨c1, _, c3, _⟩ := fld_was hb h3
  have hz : z = 255 := by simpa using c3
  subst hz
  subst b1
  subst e2
  unfold pS at a3
  simp at a3
  refine ⟨e1, by omega, by omega, b3, e3, e4, ?_⟩
  rw [e3, a1, b2, c1, e5]
theorem hdr_ok {b : List Nat} (hb : Byt b) {h : Hd} (g : hdr b = .ok h) : HdIs b h := by
  unfold hdr at g
  obtain ⟨x0, h0, g⟩ := bind_ok g
  obtain ⟨x1, h1, g⟩ := bind_ok g
  obtain ⟨x2, h2, g⟩ := bind_ok g
  obtain ⟨x3, h3, g⟩ := bind_ok g
  obtain ⟨t, h4, g⟩ := bind_ok g
  obtain ⟨x5, h5, g⟩ := bind_ok g
  obtain ⟨m, h6, g⟩ := bind_ok g
  obtain ⟨cs, h7, g⟩ := bind_ok g
  obtain ⟨a0, _, p0, _⟩ := fld_was hb h0
  obtain ⟨a1, _, p1, _⟩ := fld_was hb h1
  obtain ⟨a2, _, p2, _⟩ := fld_was hb h2
  obtain ⟨a3, _, p3, _⟩ := fld_was hb h3
  obtain ⟨a4, _, p4, _⟩ := fld_was hb h4
  obtain ⟨a5, _, p5, _⟩ := fld_was hb h5
  obtain ⟨a6, _, p6, _⟩ := fld_was hb h6
  obtain ⟨l7, a7, p7⟩ := lens_ok hb _ _ _ h7
  have q0 : x0 = 239 := by simpa using p0
  have q1 : x1 = 0 := by simpa using p1
  have q2 : x2 = 1 := by simpa using p2
  have q3 : x3 = 1 := by simpa using p3
  have q5 : x5 = 2 := by simpa using p5
  have q6 : m = t / 4 := by simpa using p6
  unfold pT at p4
  simp at p4
  have q4 : t = 4 * cs.length := by omega
  have l8 : cs.length = m := l7
  subst q0 q1 q2 q3 q5
  have hall : b = [239, 0, 1] ++ ([1] ++ dig 2 (4 * cs.length)) ++ ([2] ++ dig 2 cs.length ++ cs.flatMap (dig 2)) ++ b.drop (9 + 2 * cs.length) := by
    have e : b = b.drop 0 := rfl
    have a1' : b.drop (0 + 1) = _ := a1
    have a2' : b.drop (0 + 1 + 1) = _ := a2
    have a3' : b.drop (0 + 1 + 1 + 1) = _ := a3
    rw [q4] at a4
    rw [← l8] at a6 a7
    have z : b = dig 1 239 ++ (dig 1 0 ++ (dig 1 1 ++ (dig 1 1 ++ (dig 2 (4 * cs.length) ++ (dig 1 2 ++ (dig 2 cs.length ++ (cs.flatMap (dig 2) ++ b.drop (9 + 2 * cs.length)))))))) := by
      rw [← a7, ← show b.drop 7 = _ from a6, ← show b.drop 6 = _ from a5, ← show b.drop 4 = _ from a4, ← show b.drop 3 = _ from a3, ← show b.drop 2 = _ from a2, ← show b.drop 1 = _ from a1, ← show b.drop 0 = _ from a0]
      rfl
    refine z.trans ?_
    simp [dig]
  unfold hdKind at g
  obtain ⟨q, h8, g⟩ := bind_ok g
  obtain ⟨a8, _, p8, _⟩ := fld_was hb h8
  rw [← l8] at g a8
  split at g
  · rename_i e
    subst e
    obtain ⟨e1, e2, e3, e4, e5, e6, e7⟩ := hdSubs_ok hb g
    subst e1
    have w : b = hd h.cs h.ss h.d ++ b.drop h.e := by
      refine hall.trans ?_
      rw [a8, e7]
      unfold hd
      rw [if_neg (by omega)]
      simp [dig]
    refine ⟨w, ?_, by omega, by omega, p7, e3, e4, e6⟩
    rw [e5, hd_len, if_neg (by omega)]
    omega
  · rename_i e
    have q8 : q = 255 := by
      unfold pK at p8
      simp at p8
      omega
    subst q8
    obtain ⟨e1, e2, e3, e4, e5⟩ := hdEnd_ok hb g
    subst e1
    have w : b = hd h.cs h.ss h.d ++ b.drop h.e := by
      refine hall.trans ?_
      rw [a8, e5, e3]
      unfold hd
      rw [e2, if_pos (show ([] : List Nat).length = 0 from rfl)]
      simp [dig]
    refine ⟨w, ?_, by omega, by omega, p7, by rw [e2]; simp, by rw [e2]; simp, e4⟩
    rw [e3, hd_len, e2, if_pos (show ([] : List Nat).length = 0 from rfl)]
    omega
/-- 5.5: what is read is written as it was -/
theorem prs_ok {b : List Nat} (hb : Byt b) {opn : Bool} {c : Con} (g : prs b opn = .ok c) : May c ∧ ser c = b ∧ (opn = false → (c.d.length : Int) = c.n) := by
  unfold prs at g
  obtain ⟨h, g1, g⟩ := bind_ok g
  have H := hdr_ok hb g1
  simp only at g
  by_cases n1 : b.length < (if opn = true then h.e + 4 * h.cs.length + sumL h.cs + sumL h.ss else h.e + 4 * h.cs.length + sumL h.cs + sumL h.ss + h.d)
  · rw [if_pos n1] at g
    cases g
  rw [if_neg n1] at g
  by_cases n2 : h.e + 4 * h.cs.length + sumL h.cs + sumL h.ss + h.d < b.length
  · rw [if_pos n2] at g
    cases g
  rw [if_neg n2] at g
  obtain ⟨ts, g2, g⟩ := bind_ok g
  injection g with g
  obtain ⟨t1, t2, t3⟩ := tys_ok hb _ _ _ _ g2
  have n3 : h.e + 4 * h.cs.length + sumL h.cs + sumL h.ss ≤ b.length := by
    split at n1 <;> omega
  obtain ⟨u1, u2⟩ := cuts_ok (b := b) h.cs (h.e + 4 * h.cs.length) (by omega)
  obtain ⟨v1, v2⟩ := cuts_ok (b := b) h.ss (h.e + 4 * h.cs.length + sumL h.cs) (by omega)
  have lc : (cuts b (h.e + 4 * h.cs.length) h.cs).length = h.cs.length := by rw [← lns_len, u1]
  have ls : (cuts b (h.e + 4 * h.cs.length + sumL h.cs) h.ss).length = h.ss.length := by rw [← lns_len, v1]
  subst g
  have c0 := H.c0
  have c1 := H.c1
  have s1 := H.s1
  have hdl := H.hd
  refine ⟨⟨?_, ?_, ?_, ?_, ?_, ?_, ?_, ?_, t3⟩, ?_, ?_⟩
  · simp only; omega
  · simp only; omega
  · simp only; omega
  · simp only
    exact chkP_of _ fun x hx => by
      rw [u1] at hx
      have := H.hc x hx
      omega
  · simp only; omega
  · simp only
    exact chkP_of _ fun x hx => by
      rw [v1] at hx
      have := H.hs x hx
      omega
  · simp only; omega
  · simp only [List.length_drop]; omega
  · unfold ser
    simp only
    rw [u1, v1, Int.toNat_natCast, List.append_assoc, List.append_assoc, List.append_assoc, ← v2, ← u2, ← t2]
    exact H.eq.symm
  · intro e
    subst e
    simp only [List.length_drop]
    simp only [Bool.false_eq_true, if_false] at n1
    omega
end Go.Proofs.Ytndhabhlajldeaa
/- The document's containers: Size, what is told of what is refused. -/
namespace Go.Proofs.Ytndhabhlajldeaa
open Go.RowKit
end Go.Proofs.Ytndhabhlajldeaa
/- Package container: the reader's measure and pieces. -/
namespace Go.Proofs.Ytndhabhlajldeaa
open Go.RowKit
def msr (b : List Nat) (k n d : Nat) (opn : Bool) : Except Er Unit := if b.length < (if opn then k + n else k + n + d) then .error (50, b.length) else if k + n + d < b.length then .error (58, k + n + d) else .ok ()
theorem msr_cut {b : List Nat} {k n d : Nat} {opn : Bool} (h : b.length < (if opn then k + n else k + n + d)) : msr b k n d opn = .error (50, b.length) := by unfold msr; rw [if_pos h]
theorem msr_tail {b : List Nat} {k n d : Nat} {opn : Bool} (h : ¬ b.length < (if opn then k + n else k + n + d)) (h2 : k + n + d < b.length) : msr b k n d opn = .error (58, k + n + d) := by unfold msr; rw [if_neg h, if_pos h2]
theorem msr_ok {b : List Nat} {k n d : Nat} {opn : Bool} (h : ¬ b.length < (if opn then k + n else k + n + d)) (h2 : ¬ k + n + d < b.length) : msr b k n d opn = .ok () := by unfold msr; rw [if_neg h, if_neg h2]
set_option maxHeartbeats 4000000 in
set_option maxRecDepth 100000 in
theorem measure_is (w : World) (rb : Nat) (bs : Value) (b : List Nat) (k d : Nat) (cv sv : Value) (cs ss : List Nat) (opn : Bool) (h : Rdr w rb bs b k) (hc : UL w cv cs) (hs : UL w sv ss) (hb : k + (4 * cs.length + sumL cs + sumL ss) + d < 4611686018427387904) (hsl : ss.length ≤ 16777216) :
    Calls Try.prog 66 #[.pointer (some ⟨rb, 0, none⟩), .agg #[cv, sv, .int .u64 (d : Int)], .bool opn] w fun e w' => Out rb w (msr b k (4 * cs.length + sumL cs + sumL ss) d opn) (fun _ e w' => e = .returned (.tuple #[]) ∧ Below w.heap.size w w') e w' := by
  obtain ⟨ba, bc, rfl, _⟩ := h.by'.len
  obtain ⟨ca, rfl⟩ := hc.len
  obtain ⟨sa, rfl⟩ := hs.len
  have nl := h.len
  obtain ⟨MM, hM⟩ : ∃ MM, MM = msr b k (4 * cs.length + sumL cs + sumL ss) d opn := ⟨_, rfl⟩
  rw [← hM]
  have BH : Hid (∀ W, Below w.heap.size w W → Calls Try.prog 81 #[.agg #[.slice ca cs.length cs.length, .slice sa ss.length ss.length, .int .u64 (d : Int)]] W fun e w' => e = .returned (.int .u64 ((4 * cs.length + sumL cs + sumL ss : Nat) : Int)) ∧ Below W.heap.size W w') := fun W hW => behind_is W _ _ cs ss d (hc.past hW) (hs.past hW) (by omega) ⟨by omega, by omega⟩
  generalize hm : 4 * cs.length + sumL cs + sumL ss = m at *
  obtain ⟨s1, hs1⟩ : ∃ s1 : Nat, s1 = k + m := ⟨_, rfl⟩
  obtain ⟨s2, hs2⟩ : ∃ s2 : Nat, s2 = s1 + d := ⟨_, rfl⟩
  have r1 : (k : Int) + (m : Int) = (s1 : Int) := by omega
  have r2 : (s1 : Int) + (d : Int) = (s2 : Int) := by omega
  have w1 : IntKind.u64.wrap (s1 : Int) = (s1 : Int) := by rw [IntKind.wrap_u64]; omega
  have w2 : IntKind.u64.wrap (s2 : Int) = (s2 : Int) := by rw [IntKind.wrap_u64]; omega
  have w3 : IntKind.u64.wrap (k : Int) = (k : Int) := by rw [IntKind.wrap_u64]; omega
  have w4 : IntKind.i64.wrap (s2 : Int) = (s2 : Int) := by rw [IntKind.wrap_i64]; omega
  have w5 : IntKind.u64.wrap (b.length : Int) = (b.length : Int) := by rw [IntKind.wrap_u64]; omega
  have M1 : Hid (b.length < (if opn then s1 else s2) → MM = .error (50, b.length)) := fun q => by rw [hM]; exact msr_cut (by cases opn <;> simp only [if_true, if_false, Bool.false_eq_true] at q ⊢ <;> omega)
  have M2 : Hid (¬ b.length < (if opn then s1 else s2) → s2 < b.length → MM = .error (58, s2)) := fun q q2 => by rw [hM, msr_tail (by cases opn <;> simp only [if_true, if_false, Bool.false_eq_true] at q ⊢ <;> omega) (by omega), hs2, hs1]
  have M3 : Hid (¬ b.length < (if opn then s1 else s2) → ¬ s2 < b.length → MM = .ok ()) := fun q q2 => by rw [hM]; exact msr_ok (by cases opn <;> simp only [if_true, if_false, Bool.false_eq_true] at q ⊢ <;> omega) (by omega)
  have B0 : Hid (Below w.heap.size w (w.alloc (.cells #[.slice ca cs.length cs.length, .slice sa ss.length ss.length, .int .u64 (d : Int)] 84)) ∧ CBox (w.alloc (.cells #[.slice ca cs.length cs.length, .slice sa ss.length ss.length, .int .u64 (d : Int)] 84)) rb 81 [.slice ba b.length bc, .int .i64 (k : Int)] ∧ CBox (w.alloc (.cells #[.slice ca cs.length cs.length, .slice sa ss.length ss.length, .int .u64 (d : Int)] 84)) w.heap.size 84 [.slice ca cs.length cs.length, .slice sa ss.length ss.length, .int .u64 (d : Int)]) := ⟨below_alloc _ _, h.box.past (below_alloc _ _), CBox.new _ _ [_, _, _]⟩
  have nI : (b.length : Int) ≤ 16777216 := by omega
  clear h hc hs hM hs1 hs2 hm hb nl hsl
  generalize b.length = n at *
  generalize cs.length = nc at *
  generalize ss.length = ns at *
  generalize hbx : w.heap.size = bx at *
  have GB : Hid (w.heap.size = bx) := hbx
  have GE : Hid (bx ≤ w.heap.size) := by unfold Hid; omega
  clear hbx
  go_enter Try.func66, Try.ntmps66
  go_upto_region 1 with fail
  rw [GB.out]
  generalize w.alloc _ = W0 at B0 ⊢
  refine wp_region_held_drew (S := fun V' => CBox V' rb 81 [.slice ba n bc, .int .i64 (k : Int)] ∧ CBox V' bx 84 [.slice ca nc nc, .slice sa ns ns, .int .u64 (d : Int)]) (by kernel_rfl) ⟨B0.out.2.1.past below_drew, B0.out.2.2.past below_drew⟩ (fun hHeld => ?_)
  have B0 : Hid (Below bx w W0.drew ∧ True) := ⟨B0.out.1.trans (below_drew.mono (Nat.le_trans GE.out B0.out.1.size)), trivial⟩
  generalize W0.drew = z0 at hHeld B0 ⊢
  refine wpAnyH_take (i := 0) (v := .pointer (some ⟨rb, 0, none⟩)) ov0 (by kernel_rfl) (by kernel_rfl) (by kernel_rfl) (fun _ _ _ h => h) (Or.inl ⟨by rfl, fun V' hS => ?_⟩) hHeld ?_
  · go_simp
  simp only [Act.put, List.setIfInBounds_toArray, List.set_cons_zero, List.set_cons_succ]
  refine wpAnyH_take (i := 1) (v := .pointer (some ⟨rb, 0, none⟩)) ov1 (by kernel_rfl) (by kernel_rfl) (by kernel_rfl) (fun _ _ _ h => h) (Or.inl ⟨by rfl, fun V' hS => ?_⟩) hHeld ?_
  · go_simp
  simp only [Act.put, List.setIfInBounds_toArray, List.set_cons_zero, List.set_cons_succ]
  refine wpAnyH_take (i := 2) (v := .pointer (some ⟨rb, 1, none⟩)) ov2 (by kernel_rfl) (by kernel_rfl) (by kernel_rfl) (fun _ _ _ h => h) (Or.inl ⟨by rfl, fun V' hS => ?_⟩) hHeld ?_
  · go_simp
  simp only [Act.put, List.setIfInBounds_toArray, List.set_cons_zero, List.set_cons_succ]
  refine wpAnyH_take (i := 3) (v := .int .i64 (k : Int)) ov3 (by kernel_rfl) (by kernel_rfl) (by kernel_rfl) (fun _ _ _ h => h) (Or.inl ⟨by rfl, fun V' hS => ?_⟩) hHeld ?_
  · have c0 : V'.cell? ⟨rb, 1, none⟩ = some (.int .i64 (k : Int)) := hS.1.cell 1
    go_simp
  simp only [Act.put, List.setIfInBounds_toArray, List.set_cons_zero, List.set_cons_succ]
  refine wpAnyH_take (i := 4) (v := .int .u64 (k : Int)) ov4 (by kernel_rfl) (by kernel_rfl) (by kernel_rfl) (fun _ _ _ h => h) (Or.inl ⟨by rfl, fun V' hS => ?_⟩) hHeld ?_
  · go_simp
  simp only [Act.put, List.setIfInBounds_toArray, List.set_cons_zero, List.set_cons_succ]
  refine wpAnyH_take (i := 5) (v := .agg #[.slice ca nc nc, .slice sa ns ns, .int .u64 (d : Int)]) ov5 (by kernel_rfl) (by kernel_rfl) (by kernel_rfl) (fun _ _ _ h => h) (Or.inl ⟨by rfl, fun V' hS => ?_⟩) hHeld ?_
  · have c0 : V'.cell? ⟨bx, 0, none⟩ = some (.slice ca nc nc) := hS.2.cell 0; have c1 : V'.cell? ⟨bx, 1, none⟩ = some (.slice sa ns ns) := hS.2.cell 1; have c2 : V'.cell? ⟨bx, 2, none⟩ = some (.int .u64 (d : Int)) := hS.2.cell 2
    go_simp
  simp only [Act.put, List.setIfInBounds_toArray, List.set_cons_zero, List.set_cons_succ]
  refine wpAnyH_ready (rs := [6]) (by kernel_rfl) (by simp) ?_
  refine AllReadyH.cons ov6 (fun K hK => ?_) AllReadyH.nil
  rw [if_pos (by rfl)]
  go_simp
  refine (BH.out _ B0.out.1).mono ?_
  rintro e z1 ⟨rfl, hB1⟩
  have H1 := (⟨hHeld.1.past hB1, hHeld.2.past hB1⟩ : _ ∧ _)
  have B1 : Hid (Below bx w z1) := B0.out.1.trans (hB1.mono (Nat.le_trans GE.out B0.out.1.size))
  (try go_wp2_with fail)
  refine hK.out _ _ H1 (fun _ => ?_)
  clear hK K
  (try simp only [Act.put, List.setIfInBounds_toArray, List.set_cons_zero, List.set_cons_succ])
  refine wpAnyH_take (i := 7) (v := .int .u64 (s1 : Int)) ov7 (by kernel_rfl) (by kernel_rfl) (by kernel_rfl) (fun _ _ _ h => h) (Or.inl ⟨by rfl, fun V' hS => ?_⟩) H1 ?_
  · go_simp
  simp only [Act.put, List.setIfInBounds_toArray, List.set_cons_zero, List.set_cons_succ]
  refine wpAnyH_take (i := 8) (v := .int .u64 (s1 : Int)) ov8 (by kernel_rfl) (by kernel_rfl) (by kernel_rfl) (fun _ _ _ h => h) (Or.inl ⟨by rfl, fun V' hS => ?_⟩) H1 ?_
  · go_simp
  simp only [Act.put, List.setIfInBounds_toArray, List.set_cons_zero, List.set_cons_succ]
  refine wpAnyH_done (by kernel_rfl) ?_ _
  have k2 : z1.cell? ⟨bx, 2, none⟩ = some (.int .u64 (d : Int)) := H1.2.cell 2
  have k0 : z1.cell? ⟨rb, 0, none⟩ = some (.slice ba n bc) := H1.1.cell 0
  clear hHeld B0 H1
  cases opn with
  | true =>
    simp only [if_true] at M1 M2 M3
    by_cases e1 : n < s1
    · have E0 : Hid (MM = .error (50, n)) := M1.out e1
      have q1 : (n : Int) < (s1 : Int) := by omega
      clear M1 M2 M3
      go_wp2_with (go_at_call 98; refine (giveUp_is _ 50 (n : Int)).mono ?_; rintro e w' ⟨rfl, hw⟩; (have hw2 := hw.symm); clear hw; subst hw2; unfold thrown rejV)
      refine ⟨rfl, ?_⟩
      rw [E0.out]
      exact ⟨rfl, below_but (GB.out ▸ B1.out)⟩
    have q1 : ¬ (n : Int) < (s1 : Int) := by omega
    by_cases e2 : s2 < n
    · have E0 : Hid (MM = .error (58, s2)) := M2.out e1 e2
      have q2 : (s2 : Int) < (n : Int) := by omega
      clear M1 M2 M3
      go_wp2_with (go_at_call 98; refine (giveUp_is _ 58 (s2 : Int)).mono ?_; rintro e w' ⟨rfl, hw⟩; (have hw2 := hw.symm); clear hw; subst hw2; unfold thrown rejV)
      refine ⟨rfl, ?_⟩
      rw [E0.out]
      exact ⟨rfl, below_but (GB.out ▸ B1.out)⟩
    · have E0 : Hid (MM = .ok ()) := M3.out e1 e2
      have q2 : ¬ (s2 : Int) < (n : Int) := by omega
      clear M1 M2 M3
      go_wp2
      go_end0
      rw [E0.out]
      exact ⟨rfl, B1.out⟩
  | false =>
    simp only [if_false, Bool.false_eq_true] at M1 M2 M3
    by_cases e1 : n < s2
    · have E0 : Hid (MM = .error (50, n)) := M1.out e1
      have q1 : (n : Int) < (s2 : Int) := by omega
      clear M1 M2 M3
      go_wp2_with (go_at_call 98; refine (giveUp_is _ 50 (n : Int)).mono ?_; rintro e w' ⟨rfl, hw⟩; (have hw2 := hw.symm); clear hw; subst hw2; unfold thrown rejV)
      refine ⟨rfl, ?_⟩
      rw [E0.out]
      exact ⟨rfl, below_but (GB.out ▸ B1.out)⟩
    have q1 : ¬ (n : Int) < (s2 : Int) := by omega
    by_cases e2 : s2 < n
    · have E0 : Hid (MM = .error (58, s2)) := M2.out e1 e2
      have q2 : (s2 : Int) < (n : Int) := by omega
      clear M1 M2 M3
      go_wp2_with (go_at_call 98; refine (giveUp_is _ 58 (s2 : Int)).mono ?_; rintro e w' ⟨rfl, hw⟩; (have hw2 := hw.symm); clear hw; subst hw2; unfold thrown rejV)
      refine ⟨rfl, ?_⟩
      rw [E0.out]
      exact ⟨rfl, below_but (GB.out ▸ B1.out)⟩
    · have E0 : Hid (MM = .ok ()) := M3.out e1 e2
      have q2 : ¬ (s2 : Int) < (n : Int) := by omega
      clear M1 M2 M3
      go_wp2
      go_end0
      rw [E0.out]
      exact ⟨rfl, B1.out⟩
theorem cuts_len : ∀ (b : List Nat) (ls : List Nat) (k : Nat), (cuts b k ls).length = ls.length
  | _, [], _ => rfl
  | b, n :: r, k => by rw [cuts, List.length_cons, cuts_len b r, List.length_cons]
theorem cuts_get : ∀ (b : List Nat) (ls : List Nat) (k i n : Nat), ls[i]? = some n → (cuts b k ls)[i]? = some ((b.drop (k + sumL (ls.take i))).take n)
  | b, [], k, i, n, h => by cases h
  | b, x :: r, k, 0, n, h => by simp at h; subst h; simp [cuts, sumL]
  | b, x :: r, k, i + 1, n, h => by
    rw [cuts, List.getElem?_cons_succ, cuts_get b r (k + x) i n (by simpa using h), List.take_succ_cons, sumL_cons, Nat.add_assoc]
/-- pieces in blocks of their own, at B or above: the values that stand in the list, and what each is -/
def Own1 (B : Nat) (W : World) (us : List Value) (ll : List (List Nat)) : Prop := ∀ (i : Nat) u l, us[i]? = some u → ll[i]? = some l → W.ownsRow B 5 1 u l.length (bV l)
theorem Own1.but {B : Nat} {S : Nat → Prop} {W W' : World} {us : List Value} {ll : List (List Nat)} (h : Own1 B W us ll) (k : But S W W') (hs : ∀ g, B ≤ g → ¬ S g) : Own1 B W' us ll := fun i u l h1 h2 => owns_row_blockB (h i u l h1 h2) fun g hg => k.block g ((h i u l h1 h2).lt g hg).2 (hs g ((h i u l h1 h2).lt g hg).1)
theorem Own1.butT {B b : Nat} {t : TypeId} {cs : List Value} {W W' : World} {us : List Value} {ll : List (List Nat)} (h : Own1 B W us ll) (k : But (fun g => g = b) W W') (hb : CBox W b t cs) (ht : t ≠ 5) : Own1 B W' us ll := fun i u l h1 h2 => owns_row_blockB (h i u l h1 h2) fun g hg => k.block g ((h i u l h1 h2).lt g hg).2 fun e => by
  subst e
  rcases (h i u l h1 h2).2 with ⟨rfl, _⟩ | ⟨g', c, cur, rfl, _, hh, _⟩
  · cases hg
  · injection hg with hg
    subst hg
    rw [show W.heap[g']? = _ from hb] at hh
    cases hh
    exact ht rfl
theorem Own1.snoc {B : Nat} {W : World} {us : List Value} {ll : List (List Nat)} {u : Value} {l : List Nat} (h : Own1 B W us ll) (hi : ll[us.length]? = some l) (hu : W.ownsRow B 5 1 u l.length (bV l)) : Own1 B W (us ++ [u]) ll := fun i u' l' h1 h2 => by
  by_cases e : i < us.length
  · rw [List.getElem?_append_left e] at h1
    exact h i u' l' h1 h2
  · rw [List.getElem?_append_right (by omega)] at h1
    have e0 : i - us.length = 0 := by
      have := (List.getElem?_eq_some_iff.1 h1).1
      simpa using this
    rw [e0] at h1
    simp at h1
    have ei : i = us.length := by omega
    subst ei h1
    rw [hi] at h2
    cases h2
    exact hu
def nilV : Value := .slice none 0 0
theorem vs_set (us : List Value) (r : Nat) (z u : Value) : (us ++ List.replicate (r + 1) z).set us.length u = (us ++ [u]) ++ List.replicate r z := by
  rw [List.set_append_right _ _ (by simp), Nat.sub_self, List.replicate_succ, List.set_cons_zero]
  simp
/-- pieces that were read -/
structure PcQ (rb : Nat) (w w' : World) (bs : Value) (b : List Nat) (k : Nat) (v : Value) (ll : List (List Nat)) : Prop where
  ex : ∃ g us, v = .slice (some ⟨g, 0, none⟩) ll.length ll.length ∧ CBox w' g 22 us ∧ us.length = ll.length ∧ w.heap.size ≤ g ∧ Own1 w.heap.size w' us ll
  rd : Rdr w' rb bs b k
  but : RB rb w w'
set_option maxHeartbeats 4000000 in
set_option maxRecDepth 100000 in
theorem pieces_is (w : World) (rb : Nat) (bs : Value) (b : List Nat) (k : Nat) (lv : Value) (ls : List Nat) (h : Rdr w rb bs b k) (hu : UL w lv ls) (hk : k + sumL ls ≤ b.length) (hn : ls.length ≤ 16777216) :
    Calls Try.prog 100 #[.pointer (some ⟨rb, 0, none⟩), lv] w fun e w' => ∃ v, e = .returned v ∧ PcQ rb w w' bs b (k + sumL ls) v (cuts b k ls) := by
  obtain ⟨ba, bc, rfl, hbc, _⟩ := h.by'.len
  obtain ⟨la, rfl⟩ := hu.len
  obtain ⟨W1, hmk, hcb, hB1, hsz⟩ := make_n 26 22 (.slice none 0 0) (.slice none 0 0) 1 24 Try.underlying26 Try.infoB (one_cell rfl) (by simp [Value.cells]) .i64 w ls.length (by omega) (by omega)
  have NE : Hid (w.heap.size ≠ rb) := by unfold Hid; have := h.box.lt; omega
  have HGR : Hid (rb < w.heap.size) := h.box.lt
  have HBX : Hid (CBox w rb 81 [.slice ba b.length bc, .int .i64 (k : Int)]) := h.box
  have nbl := h.len
  obtain ⟨CU, hCU⟩ : ∃ CU, CU = cuts b k ls := ⟨_, rfl⟩
  have HCL : Hid (CU.length = ls.length ∧ ∀ i x, ls[i]? = some x → CU[i]? = some ((b.drop (k + sumL (ls.take i))).take x)) := ⟨by rw [hCU, cuts_len], fun i x q => by rw [hCU]; exact cuts_get b ls k i x q⟩
  rw [← hCU]
  have C0 : Hid (CBox W1 w.heap.size 22 (([] : List Value) ++ List.replicate (ls.length - 0) nilV) ∧ Rdr W1 rb (.slice ba b.length bc) b (k + sumL (ls.take 0)) ∧ RB rb w W1 ∧ Own1 w.heap.size W1 [] CU) := ⟨by rw [Nat.mul_one] at hcb; simpa [nilV] using hcb, by simpa [sumL] using h.past hB1, below_but hB1, fun i u l q => by cases q⟩
  have HUL : Hid (UL w (.slice la ls.length ls.length) ls) := hu
  have HKL : Hid (k + sumL ls ≤ b.length ∧ b.length ≤ bc ∧ b.length ≤ 16777216) := ⟨hk, hbc, nbl⟩
  have nI : (ls.length : Int) ≤ 16777216 := by omega
  generalize hN : ls.length = n at *
  have HN : Hid (ls.length = n) := hN
  generalize hNB : b.length = nb at *
  have HNB : Hid (b.length = nb) := hNB
  clear h hu hcb hB1 hsz hk hn hCU hN hNB nbl hbc
  generalize hbw : w.heap.size = bw at *
  have GB : Hid (w.heap.size = bw) := hbw
  have GE : Hid (bw ≤ w.heap.size) := by unfold Hid; omega
  go_enter Try.func100, Try.ntmps100
  go_upto_region 2 with fail
  clear hmk hbw
  generalize hg : bw = g at C0 NE ⊢
  have HGB : Hid (bw = g) := hg
  have HGW : Hid (w.heap.size ≤ g) := by unfold Hid; have := GB.out; omega
  have HGR : Hid (rb < g) := by unfold Hid; have := HGR.out; omega
  clear hg
  go_wp2
  go_loopw [14] (fun s14 wr => ∃ (i : Nat) (us : List Value), s14 = .int .i64 (i : Int) ∧ i ≤ n ∧ us.length = i ∧ CBox wr g 22 (us ++ List.replicate (n - i) nilV) ∧ Rdr wr rb (.slice ba nb bc) b (k + sumL (ls.take i)) ∧ RB rb w wr ∧ Own1 bw wr us CU) (fun s14 _ => n - (intOf s14).toNat)
  case atStart => exact ⟨0, [], rfl, by omega, rfl, C0.out.1, C0.out.2.1, C0.out.2.2.1, by rw [HGB.out]; exact C0.out.2.2.2⟩
  case round =>
    obtain ⟨i, us, rfl, hi, hU, hC, hR, hB, hO⟩ := hrel
    have HU : Hid (us.length = i) := hU
    have HC0 : Hid (CBox wr g 22 (us ++ List.replicate (n - i) nilV) ∧ Rdr wr rb (.slice ba nb bc) b (k + sumL (ls.take i)) ∧ RB rb w wr ∧ Own1 bw wr us CU) := ⟨hC, hR, hB, hO⟩
    clear hC hR hB hO C0 hU
    by_cases e : i = n
    · subst e
      have E1 : Hid (CBox wr g 22 us) := by have := HC0.out.1; rwa [Nat.sub_self, List.replicate_zero, List.append_nil] at this
      have E2 : Hid (Rdr wr rb (.slice ba nb bc) b (k + sumL ls)) := by have := HC0.out.2.1; rwa [List.take_of_length_le (by have := HN.out; omega)] at this
      go_wp2
      go_ret
      refine ⟨_, rfl, ⟨g, us, by rw [HCL.out.1]; rfl, E1.out, by rw [HU.out, HCL.out.1], HGW.out, by rw [GB.out]; exact HC0.out.2.2.2⟩, E2.out, HC0.out.2.2.1⟩
    · have iI : (i : Int) < (n : Int) := by omega
      obtain ⟨q, hq⟩ : ∃ q, ls[i]? = some q := ⟨ls[i]'(by have := HN.out; omega), List.getElem?_eq_getElem _⟩
      obtain ⟨r, hr⟩ : ∃ r, n - i = r + 1 := ⟨n - i - 1, by omega⟩
      have HR1 : Hid (n - i = r + 1) := hr
      have hst := sumL_take hq
      have hsl2 := sumL_le ls (i + 1)
      have ul : UL wr (.slice la n n) ls := HUL.out.but2 HC0.out.2.2.1 HBX.out (by decide)
      obtain ⟨g3, rfl, hcell⟩ := ul.get hq
      have HCU0 := HCL.out.2 i q hq
      obtain ⟨kk, hkk⟩ : ∃ kk, kk = k + sumL (ls.take i) := ⟨_, rfl⟩
      rw [← hkk] at HCU0 HC0
      obtain ⟨t, ht⟩ : ∃ t, t = kk + q := ⟨_, rfl⟩
      have tl : t ≤ nb := by have := HKL.out; omega
      have HTT : Hid (t = k + sumL (ls.take (i + 1))) := by unfold Hid; omega
      have hsl := slice_ij ba nb bc kk t (by omega) (by have := HKL.out; omega)
      have CL0 : ∀ W, BL (fun g => g < rb) W (.slice ba nb bc) b → Calls Try.prog 88 #[.slice (if bc = kk then ba else ba.map (·.add kk)) (t - kk) (bc - kk)] W fun e w' => ∃ v', e = .returned v' ∧ w'.ownsRow W.heap.size 5 1 v' ((b.drop kk).take (t - kk)).length (bV ((b.drop kk).take (t - kk))) ∧ Below W.heap.size W w' := fun W hW => clone_is W _ _ (by have h9 := hW; rw [← HNB.out] at h9; exact BL.mid h9 kk t (by omega) (by rw [HNB.out]; exact tl)) (by have := HKL.out; simp; omega)
      rw [show t - kk = q by omega] at CL0 hsl
      have HSQ : Hid (((b.drop kk).take q).length = q) := by unfold Hid; rw [List.length_take, List.length_drop, HNB.out]; omega
      rw [HSQ.out] at CL0
      have CL : Hid (∀ W, BL (fun g => g < rb) W (.slice ba nb bc) b → Calls Try.prog 88 #[.slice (if bc = kk then ba else ba.map (·.add kk)) q (bc - kk)] W fun e w' => ∃ v', e = .returned v' ∧ w'.ownsRow W.heap.size 5 1 v' q (bV ((b.drop kk).take q)) ∧ Below W.heap.size W w') := CL0
      have HCU : Hid (CU[i]? = some ((b.drop kk).take q)) := HCU0
      generalize (if bc = kk then ba else ba.map (·.add kk)) = ad2 at CL hsl
      generalize bc - kk = cap2 at CL hsl
      generalize (b.drop kk).take q = seg at *
      have r1 : (kk : Int) + (q : Int) = (t : Int) := by omega
      have w1 : IntKind.i64.wrap (t : Int) = (t : Int) := by rw [IntKind.wrap_i64]; have := HKL.out; omega
      have w2 : IntKind.i64.wrap (q : Int) = (q : Int) := by rw [IntKind.wrap_i64]; have := HKL.out; omega
      have HC : Hid (CBox wr g 22 (us ++ List.replicate (n - i) nilV) ∧ Rdr wr rb (.slice ba nb bc) b kk ∧ RB rb w wr ∧ Own1 bw wr us CU) := HC0.out
      have c1 : wr.cell? ⟨rb, 1, none⟩ = some (.int .i64 (kk : Int)) := HC.out.2.1.box.cell 1
      clear HCU0 CL0 hq hst hsl2 hkk ht tl hr ul HC0 e
      go_upto_region 6 with fail
      clear c1 hcell
      refine wp_region_held_drew (S := fun V' => CBox V' rb 81 [.slice ba nb bc, .int .i64 (kk : Int)]) (by kernel_rfl) (HC.out.2.1.box.past below_drew) (fun hHeld => ?_)
      have B0 : Hid (CBox wr.drew g 22 (us ++ List.replicate (n - i) nilV) ∧ Rdr wr.drew rb (.slice ba nb bc) b kk ∧ RB rb w wr.drew ∧ Own1 bw wr.drew us CU) := ⟨HC.out.1.past below_drew, HC.out.2.1.past below_drew, HC.out.2.2.1.trans (below_but below_drew), HC.out.2.2.2.but (below_but (S := fun _ => False) below_drew) (fun _ _ => id)⟩
      clear HC
      generalize wr.drew = z0 at hHeld B0 ⊢
      refine wpAnyH_take (i := 0) (v := .slice (some ⟨g, 0, none⟩) n n) ov0 (by kernel_rfl) (by kernel_rfl) (by kernel_rfl) (fun _ _ _ h => h) (Or.inl ⟨by rfl, fun V' hS => ?_⟩) hHeld ?_
      · go_simp
      simp only [Act.put, List.setIfInBounds_toArray, List.set_cons_zero, List.set_cons_succ]
      refine wpAnyH_take (i := 1) (v := .int .i64 (i : Int)) ov1 (by kernel_rfl) (by kernel_rfl) (by kernel_rfl) (fun _ _ _ h => h) (Or.inl ⟨by rfl, fun V' hS => ?_⟩) hHeld ?_
      · go_simp
      simp only [Act.put, List.setIfInBounds_toArray, List.set_cons_zero, List.set_cons_succ]
      refine wpAnyH_take (i := 2) (v := .pointer (some ⟨rb, 0, none⟩)) ov2 (by kernel_rfl) (by kernel_rfl) (by kernel_rfl) (fun _ _ _ h => h) (Or.inl ⟨by rfl, fun V' hS => ?_⟩) hHeld ?_
      · go_simp
      simp only [Act.put, List.setIfInBounds_toArray, List.set_cons_zero, List.set_cons_succ]
      refine wpAnyH_take (i := 3) (v := .pointer (some ⟨rb, 0, none⟩)) ov3 (by kernel_rfl) (by kernel_rfl) (by kernel_rfl) (fun _ _ _ h => h) (Or.inl ⟨by rfl, fun V' hS => ?_⟩) hHeld ?_
      · go_simp
      simp only [Act.put, List.setIfInBounds_toArray, List.set_cons_zero, List.set_cons_succ]
      refine wpAnyH_take (i := 4) (v := .pointer (some ⟨rb, 0, none⟩)) ov4 (by kernel_rfl) (by kernel_rfl) (by kernel_rfl) (fun _ _ _ h => h) (Or.inl ⟨by rfl, fun V' hS => ?_⟩) hHeld ?_
      · go_simp
      simp only [Act.put, List.setIfInBounds_toArray, List.set_cons_zero, List.set_cons_succ]
      refine wpAnyH_take (i := 5) (v := .slice ba nb bc) ov5 (by kernel_rfl) (by kernel_rfl) (by kernel_rfl) (fun _ _ _ h => h) (Or.inl ⟨by rfl, fun V' hS => ?_⟩) hHeld ?_
      · have c0 : V'.cell? ⟨rb, 0, none⟩ = some (.slice ba nb bc) := hS.cell 0
        go_simp
      simp only [Act.put, List.setIfInBounds_toArray, List.set_cons_zero, List.set_cons_succ]
      refine wpAnyH_take (i := 6) (v := .pointer (some ⟨rb, 0, none⟩)) ov6 (by kernel_rfl) (by kernel_rfl) (by kernel_rfl) (fun _ _ _ h => h) (Or.inl ⟨by rfl, fun V' hS => ?_⟩) hHeld ?_
      · go_simp
      simp only [Act.put, List.setIfInBounds_toArray, List.set_cons_zero, List.set_cons_succ]
      refine wpAnyH_take (i := 7) (v := .pointer (some ⟨rb, 0, none⟩)) ov7 (by kernel_rfl) (by kernel_rfl) (by kernel_rfl) (fun _ _ _ h => h) (Or.inl ⟨by rfl, fun V' hS => ?_⟩) hHeld ?_
      · go_simp
      simp only [Act.put, List.setIfInBounds_toArray, List.set_cons_zero, List.set_cons_succ]
      refine wpAnyH_take (i := 8) (v := .pointer (some ⟨rb, 1, none⟩)) ov8 (by kernel_rfl) (by kernel_rfl) (by kernel_rfl) (fun _ _ _ h => h) (Or.inl ⟨by rfl, fun V' hS => ?_⟩) hHeld ?_
      · go_simp
      simp only [Act.put, List.setIfInBounds_toArray, List.set_cons_zero, List.set_cons_succ]
      refine wpAnyH_take (i := 9) (v := .int .i64 (kk : Int)) ov9 (by kernel_rfl) (by kernel_rfl) (by kernel_rfl) (fun _ _ _ h => h) (Or.inl ⟨by rfl, fun V' hS => ?_⟩) hHeld ?_
      · have c0 : V'.cell? ⟨rb, 1, none⟩ = some (.int .i64 (kk : Int)) := hS.cell 1
        go_simp
      simp only [Act.put, List.setIfInBounds_toArray, List.set_cons_zero, List.set_cons_succ]
      refine wpAnyH_take (i := 10) (v := .int .i64 (t : Int)) ov10 (by kernel_rfl) (by kernel_rfl) (by kernel_rfl) (fun _ _ _ h => h) (Or.inl ⟨by rfl, fun V' hS => ?_⟩) hHeld ?_
      · go_simp
      simp only [Act.put, List.setIfInBounds_toArray, List.set_cons_zero, List.set_cons_succ]
      refine wpAnyH_take (i := 11) (v := .slice ad2 q cap2) ov11 (by kernel_rfl) (by kernel_rfl) (by kernel_rfl) (fun _ _ _ h => h) (Or.inl ⟨by rfl, fun V' hS => ?_⟩) hHeld ?_
      · go_simp
      simp only [Act.put, List.setIfInBounds_toArray, List.set_cons_zero, List.set_cons_succ]
      refine wpAnyH_ready (rs := [12]) (by kernel_rfl) (by simp) ?_
      refine AllReadyH.cons ov12 (fun K hK => ?_) AllReadyH.nil
      rw [if_pos (by rfl)]
      go_simp
      refine (CL.out _ (B0.out.2.1.by')).mono ?_
      rintro e z1 ⟨v3, rfl, hO, hB1⟩
      obtain ⟨a3, c3, e3⟩ := owns_sl hO
      subst e3
      have H1 := hHeld.past hB1
      have B1 : Hid (CBox z1 g 22 (us ++ List.replicate (n - i) nilV) ∧ Rdr z1 rb (.slice ba nb bc) b kk ∧ RB rb w z1 ∧ Own1 bw z1 us CU ∧ z1.ownsRow bw 5 1 (.slice a3 q c3) q (bV seg)) := ⟨B0.out.1.past hB1, B0.out.2.1.past hB1, B0.out.2.2.1.trans (below_but hB1), B0.out.2.2.2.but (below_but (S := fun _ => False) hB1) (fun _ _ => id), owns_base hO (Nat.le_trans GE.out B0.out.2.2.1.size)⟩
      clear hO hB1
      (try go_wp2_with fail)
      refine hK.out _ _ H1 (fun _ => ?_)
      clear hK K
      (try simp only [Act.put, List.setIfInBounds_toArray, List.set_cons_zero, List.set_cons_succ])
      refine wpAnyH_take (i := 13) (v := .pointer (some ⟨g, i, none⟩)) ov13 (by kernel_rfl) (by kernel_rfl) (by kernel_rfl) (fun _ _ _ h => h) (Or.inl ⟨by rfl, fun V' hS => ?_⟩) H1 ?_
      · go_simp
      simp only [Act.put, List.setIfInBounds_toArray, List.set_cons_zero, List.set_cons_succ]
      refine wpAnyH_ready (rs := [14]) (by kernel_rfl) (by simp) ?_
      refine AllReadyH.cons ov14 (fun K hK => ?_) AllReadyH.nil
      rw [if_pos (by rfl)]
      have k0 : z1.cell? ⟨g, i, none⟩ = some nilV := by rw [B1.out.1.cell, HR1.out, List.getElem?_append_right (by rw [HU.out]; exact Nat.le_refl _), HU.out, Nat.sub_self]; rfl
      unfold nilV at k0
      have f0 := B1.out.1.frozen i
      go_simp
      have HS : But (fun y => y = g) z1 (z1.setCell ⟨g, i, none⟩ (.slice a3 q c3)) := (But.refl (fun y => y = g) z1).setCell ⟨g, i, none⟩ _ (Or.inl rfl)
      have B2 : Hid (CBox (z1.setCell ⟨g, i, none⟩ (.slice a3 q c3)) g 22 ((us ++ [.slice a3 q c3]) ++ List.replicate (n - (i + 1)) nilV) ∧ Rdr (z1.setCell ⟨g, i, none⟩ (.slice a3 q c3)) rb (.slice ba nb bc) b kk ∧ RB rb w (z1.setCell ⟨g, i, none⟩ (.slice a3 q c3)) ∧ Own1 bw (z1.setCell ⟨g, i, none⟩ (.slice a3 q c3)) (us ++ [.slice a3 q c3]) CU) := ⟨by (have h9 := B1.out.1.set i (.slice a3 q c3); rw [HR1.out, ← HU.out, vs_set] at h9; rw [show n - (i + 1) = r by have := HR1.out; omega]; rw [HU.out] at h9; exact h9), B1.out.2.1.keep HS (fun y hy e => by have := HGR.out; omega), B1.out.2.2.1.setCell ⟨g, i, none⟩ _ (Or.inr HGW.out), ((B1.out.2.2.2.1.snoc (by rw [HU.out]; exact HCU.out) (by rw [HSQ.out]; exact B1.out.2.2.2.2)).butT HS B1.out.1 (by decide))⟩
      refine hK.out _ (z1.setCell ⟨g, i, none⟩ (.slice a3 q c3)) (H1.but HS (Ne.symm NE.out)) (fun _ => ?_)
      clear hK K
      (try simp only [Act.put, List.setIfInBounds_toArray, List.set_cons_zero, List.set_cons_succ])
      clear k0 f0 HS B1
      generalize (z1.setCell ⟨g, i, none⟩ (.slice a3 q c3)) = z2 at B2 ⊢
      refine wpAnyH_done (by kernel_rfl) ?_ _
      clear hHeld B0
      have k1 : z2.cell? ⟨rb, 1, none⟩ = some (.int .i64 (kk : Int)) := B2.out.2.1.box.cell 1
      have f1 := B2.out.2.1.box.frozen 1
      have B3 : Hid (CBox (z2.setCell ⟨rb, 1, none⟩ (.int .i64 (t : Int))) g 22 ((us ++ [.slice a3 q c3]) ++ List.replicate (n - (i + 1)) nilV) ∧ Rdr (z2.setCell ⟨rb, 1, none⟩ (.int .i64 (t : Int))) rb (.slice ba nb bc) b (k + sumL (ls.take (i + 1))) ∧ RB rb w (z2.setCell ⟨rb, 1, none⟩ (.int .i64 (t : Int))) ∧ Own1 bw (z2.setCell ⟨rb, 1, none⟩ (.int .i64 (t : Int))) (us ++ [.slice a3 q c3]) CU) := by
        have hg := B2.out.2.1.go t
        refine ⟨B2.out.1.but hg.2 NE.out, by rw [← HTT.out]; exact hg.1, B2.out.2.2.1.trans hg.2, B2.out.2.2.2.butT hg.2 B2.out.2.1.box (by decide)⟩
      clear B2
      go_wp2
      go_roundw
      case rel => exact ⟨i + 1, us ++ [.slice a3 q c3], by first | rfl | go_num, by omega, by rw [List.length_append, HU.out]; rfl, B3.out⟩
      case measure => simp [intOf]; omega
end Go.Proofs.Ytndhabhlajldeaa
/- Pieces of one's own, each in a block of its own; append of one; the document's copied. -/
namespace Go.Proofs.Ytndhabhlajldeaa
open Go.RowKit
theorem owns_apart {B B' s s' n n' : Nat} {t t' : TypeId} {W : World} {v v' : Value} {cs cs' : List Value} (h : W.ownsRow B t s v n cs) (h' : W.ownsRow B' t' s' v' n' cs') (ht : t ≠ t') {k : Nat} (hk : OwnV v k) : ¬ OwnV v' k := fun hk' => by
  rcases h.2 with ⟨rfl, _⟩ | ⟨g, c, cur, rfl, _, hh, _⟩
  · cases hk
  · injection hk with hk
    subst hk
    rcases h'.2 with ⟨rfl, _⟩ | ⟨g', c', cur', rfl, _, hh', _⟩
    · cases hk'
    · injection hk' with hk'
      subst hk'
      rw [hh] at hh'
      cases hh'
      exact ht rfl
/-- a list of pieces of one's own -/
def PO (B : Nat) (W : World) (v : Value) (ll : List (List Nat)) : Prop := ∃ us : List Value, us.length = ll.length ∧ W.ownsRow B 22 1 v ll.length us ∧ Own1 B W us ll
theorem PO.nil (B : Nat) (W : World) : PO B W (.slice none 0 0) [] := ⟨[], rfl, World.ownsRow_nil _ _ _ _, fun i u l h => by cases h⟩
theorem PO.past {B : Nat} {W W' : World} {v : Value} {ll : List (List Nat)} (h : PO B W v ll) (k : Below W.heap.size W W') : PO B W' v ll := by
  obtain ⟨us, h1, h2, h3⟩ := h
  exact ⟨us, h1, owns_past h2 k, fun i u l a b => owns_past (h3 i u l a b) k⟩
theorem PO.sl {B : Nat} {W : World} {v : Value} {ll : List (List Nat)} (h : PO B W v ll) : ∃ ad cap, v = .slice ad ll.length cap := by
  obtain ⟨us, _, h2, _⟩ := h
  exact owns_sl h2
theorem PO.one {B : Nat} {W : World} {us : List Value} {ll : List (List Nat)} (h : us.length = ll.length) (h3 : Own1 B W us ll) : ∀ u ∈ us, u.oneCell' = true := fun u hu => by
  obtain ⟨i, hi⟩ := List.getElem?_of_mem hu
  have hl : i < ll.length := by rw [← h]; exact (List.getElem?_eq_some_iff.1 hi).1
  obtain ⟨ad, cap, rfl⟩ := owns_sl (h3 i u _ hi (List.getElem?_eq_getElem hl))
  rfl
end Go.Proofs.Ytndhabhlajldeaa
/- The document's containers: the header, whole. -/
namespace Go.Proofs.Ytndhabhlajldeaa
open Go.RowKit
/-- the document's lists in the midst of a header -/
structure RH (bw : Nat) (w W : World) (cv sv tv : Value) (cs ss : List Nat) (td : List (Nat × Nat)) : Prop where
  c : InO bw W cv cs
  s : InO bw W sv ss
  t : FO bw W tv td
  bel : Below bw w W
  ge : bw ≤ w.heap.size
  ap : ∀ g, OwnV cv g → ¬ OwnV sv g
section
variable {bw : Nat} {w W W' : World} {cv sv tv v' : Value} {cs ss : List Nat} {td : List (Nat × Nat)}
theorem RH.le (h : RH bw w W cv sv tv cs ss td) : bw ≤ W.heap.size := Nat.le_trans h.ge h.bel.size
theorem RH.past (h : RH bw w W cv sv tv cs ss td) (q : Below W.heap.size W W') : RH bw w W' cv sv tv cs ss td := ⟨h.c.past q, h.s.past q, h.t.past q, h.bel.trans (q.mono h.le), h.ge, h.ap⟩
end
theorem FO.get {B : Nat} {W : World} {ad : Option Addr} {n c : Nat} {l : List (Nat × Nat)} (h : FO B W (.slice ad n c) l) {i : Nat} {p : Nat × Nat} (hi : l[i]? = some p) : ∃ g, ad = some ⟨g, 0, none⟩ ∧ W.cell? ⟨g, i * 2, none⟩ = some (.int .i64 (p.1 : Int)) ∧ W.cell? ⟨g, i * 2 + 1, none⟩ = some (.int .i64 (p.2 : Int)) := by
  have hl : i < l.length := (List.getElem?_eq_some_iff.1 hi).1
  rcases id h.2 with ⟨e, e2⟩ | ⟨g, c', cur, e, hb, hh, hq, _, hz, ht⟩
  · omega
  · injection e with e1 _ _
    subst e1
    obtain ⟨k0, k1⟩ := fV_get l i p hi
    have c0 := World.ownsRow.cells h (g := g) rfl (i * 2) _ k0
    have c1 := World.ownsRow.cells h (g := g) rfl (i * 2 + 1) _ k1
    exact ⟨g, rfl, by simpa [Addr.add_mid] using c0, by simpa [Addr.add_mid] using c1⟩
end Go.Proofs.Ytndhabhlajldeaa
/- The document's cut: pieces out of bytes. -/
namespace Go.Proofs.Ytndhabhlajldeaa
open Go.RowKit
end Go.Proofs.Ytndhabhlajldeaa
/- Package container: the reader's types. -/
namespace Go.Proofs.Ytndhabhlajldeaa
open Go.RowKit
set_option maxHeartbeats 4000000 in
set_option maxRecDepth 100000 in
theorem ty1_0 (V : World) (g9 h7 i x : Nat) (hx : x ≤ 65535) (c2 : V.cell? ⟨g9, 2, none⟩ = some (.func (.func 107) #[] #[])) (c0 : V.cell? ⟨h7, 0, none⟩ = some (.int .i64 (i : Int))) : Calls Try.prog 114 #[.int .u64 (x : Int), .pointer (some ⟨g9, 0, none⟩), .pointer (some ⟨h7, 0, none⟩)] V fun e V' => e = .returned (.bool (okIn i x)) ∧ V' = V := by
  have wx : IntKind.i64.wrap (x : Int) = (x : Int) := by rw [IntKind.wrap_i64]; omega
  have RT : Hid (Calls Try.prog 107 #[.int .i64 (i : Int), .int .i64 (x : Int)] V fun e w' => e = .returned (.bool (okIn i x)) ∧ w' = V) := right0_is V i x
  generalize okIn i x = r at *
  clear hx
  go_enter Try.func114, Try.ntmps114
  go_wp2_with (go_at_call 107; refine RT.out.mono ?_; rintro e w' ⟨rfl, hw⟩; (have hw2 := hw.symm); clear hw; subst hw2)
  go_ret
  exact ⟨rfl, rfl⟩
set_option maxHeartbeats 4000000 in
set_option maxRecDepth 100000 in
theorem ty1_1 (V : World) (g9 h7 i x : Nat) (hx : x ≤ 65535) (c2 : V.cell? ⟨g9, 2, none⟩ = some (.func (.func 109) #[] #[])) (c0 : V.cell? ⟨h7, 0, none⟩ = some (.int .i64 (i : Int))) : Calls Try.prog 114 #[.int .u64 (x : Int), .pointer (some ⟨g9, 0, none⟩), .pointer (some ⟨h7, 0, none⟩)] V fun e V' => e = .returned (.bool (okOut i x)) ∧ V' = V := by
  have wx : IntKind.i64.wrap (x : Int) = (x : Int) := by rw [IntKind.wrap_i64]; omega
  have RT : Hid (Calls Try.prog 109 #[.int .i64 (i : Int), .int .i64 (x : Int)] V fun e w' => e = .returned (.bool (okOut i x)) ∧ w' = V) := right1_is V i x
  generalize okOut i x = r at *
  clear hx
  go_enter Try.func114, Try.ntmps114
  go_wp2_with (go_at_call 109; refine RT.out.mono ?_; rintro e w' ⟨rfl, hw⟩; (have hw2 := hw.symm); clear hw; subst hw2)
  go_ret
  exact ⟨rfl, rfl⟩
set_option maxHeartbeats 4000000 in
set_option maxRecDepth 100000 in
theorem ty1_2 (V : World) (g9 h7 i x : Nat) (hx : x ≤ 65535) (c2 : V.cell? ⟨g9, 2, none⟩ = some (.func (.func 111) #[] #[])) (c0 : V.cell? ⟨h7, 0, none⟩ = some (.int .i64 (i : Int))) : Calls Try.prog 114 #[.int .u64 (x : Int), .pointer (some ⟨g9, 0, none⟩), .pointer (some ⟨h7, 0, none⟩)] V fun e V' => e = .returned (.bool (okMost x)) ∧ V' = V := by
  have wx : IntKind.i64.wrap (x : Int) = (x : Int) := by rw [IntKind.wrap_i64]; omega
  have RT : Hid (Calls Try.prog 111 #[.int .i64 (i : Int), .int .i64 (x : Int)] V fun e w' => e = .returned (.bool (okMost x)) ∧ w' = V) := right2_is V i x
  generalize okMost x = r at *
  clear hx
  go_enter Try.func114, Try.ntmps114
  go_wp2_with (go_at_call 111; refine RT.out.mono ?_; rintro e w' ⟨rfl, hw⟩; (have hw2 := hw.symm); clear hw; subst hw2)
  go_ret
  exact ⟨rfl, rfl⟩
theorem rd_small {b : List Nat} (hb : Byt b) (k wd : Nat) (hw : wd ≤ 2) : rd b k wd ≤ 65535 := by
  have h1 := num_lt ((b.drop k).take wd) (fun x hx => hb x (List.mem_of_mem_drop (List.mem_of_mem_take hx)))
  have h2 : ((b.drop k).take wd).length ≤ 2 := by simp; omega
  have h3 : 256 ^ ((b.drop k).take wd).length ≤ 256 ^ 2 := Nat.pow_le_pow_right (by omega) h2
  unfold rd
  have : (256 : Nat) ^ 2 = 65536 := by decide
  omega
/-- what is still to be read of a type when j of its numbers are -/
def tyR (b : List Nat) (k i : Nat) (j x y z : Nat) : Except Er Ty :=
  match j with
  | 0 => tyAt b k i
  | 1 => (fld b (k + 1) 1 59 (fun n => okOut i n)).bind fun y => (fld b (k + 2) 2 59 (fun n => okMost n)).bind fun z => .ok ((x : Int), (y : Int), (z : Int))
  | 2 => (fld b (k + 2) 2 59 (fun n => okMost n)).bind fun z => .ok ((x : Int), (y : Int), (z : Int))
  | _ => .ok ((x : Int), (y : Int), (z : Int))
/-- the type's cells when j of its numbers are laid -/
def tyC (j x y z : Nat) : List Value :=
  match j with
  | 0 => [.int .i64 0, .int .i64 0, .int .i64 0]
  | 1 => [.int .i64 (x : Int), .int .i64 0, .int .i64 0]
  | 2 => [.int .i64 (x : Int), .int .i64 (y : Int), .int .i64 0]
  | _ => [.int .i64 (x : Int), .int .i64 (y : Int), .int .i64 (z : Int)]
def tyO (j : Nat) : Nat := match j with
  | 0 => 0
  | 1 => 1
  | 2 => 2
  | _ => 4
def z0V : Value := .int .i64 0
theorem ty_cell (A B : List Value) (n j : Nat) (c : List Value) (hA : A.length = n) (v : Value) (h : c[j]? = some v) : (A ++ (c ++ B))[n + j]? = some v := by
  rw [List.getElem?_append_right (by omega), hA, Nat.add_sub_cancel_left, List.getElem?_append_left (List.getElem?_eq_some_iff.1 h).1]
  exact h
theorem ty_set (A B : List Value) (n j : Nat) (c : List Value) (hA : A.length = n) (v : Value) (hj : j < c.length) : (A ++ (c ++ B)).set (n + j) v = A ++ (c.set j v ++ B) := by
  rw [List.set_append_right _ _ (by omega), hA, Nat.add_sub_cancel_left, List.set_append_left _ _ hj]
theorem tyC_len (j x y z : Nat) : (tyC j x y z).length = 3 := by unfold tyC; split <;> rfl
/-- types that were read -/
structure TyQ (rb : Nat) (w w' : World) (bs : Value) (b : List Nat) (k : Nat) (e : Ending) (l : List Ty) : Prop where
  ex : ∃ g, e = .returned (.slice (some ⟨g, 0, none⟩) l.length l.length) ∧ CBox w' g 77 (tV l) ∧ w.heap.size ≤ g
  rd : Rdr w' rb bs b k
  but : RB rb w w'
/-- in the midst of types -/
structure TyM (rb bw g bp : Nat) (w W : World) (bs : Value) (b : List Nat) (cs : List Value) (k : Nat) : Prop where
  cg : CBox W g 77 cs
  cp : CBox W bp 109 partsL
  rd : Rdr W rb bs b k
  but : RB rb w W
  kl : k ≤ b.length
section
variable {rb bw g bp k k' : Nat} {w W W' : World} {bs : Value} {b : List Nat} {cs cs' : List Value}
theorem TyM.past (h : TyM rb bw g bp w W bs b cs k) (q : Below W.heap.size W W') : TyM rb bw g bp w W' bs b cs k := ⟨h.cg.past q, h.cp.past q, h.rd.past q, h.but.trans (below_but q), h.kl⟩
theorem TyM.read (h : TyM rb bw g bp w W bs b cs k) (hg : rb < g) (q : RB rb W W') (r : Rdr W' rb bs b k') (hk : k' ≤ b.length) : TyM rb bw g bp w W' bs b cs k' := ⟨h.cg.but q (by omega), h.cp.but q (fun e => by
    have h1 : W.heap[bp]? = _ := h.cp
    have h2 : W.heap[rb]? = _ := h.rd.box
    rw [e, h2] at h1
    injection h1 with h1
    injection h1 with _ h1 _
    exact absurd h1 (by decide)), r, h.but.trans q, hk⟩
theorem TyM.put (h : TyM rb bw g bp w W bs b cs k) (hg : rb < g) (hw : w.heap.size ≤ g) (j : Nat) (v : Value) : TyM rb bw g bp w (W.setCell ⟨g, j, none⟩ v) bs b (cs.set j v) k := by
  have hs : But (fun y => y = g) W (W.setCell ⟨g, j, none⟩ v) := (But.refl (fun y => y = g) W).setCell ⟨g, j, none⟩ _ (Or.inl rfl)
  exact ⟨h.cg.set j v, h.cp.but hs (fun e => by
    have h1 : W.heap[bp]? = _ := h.cp
    have h2 : W.heap[g]? = _ := h.cg
    rw [e, h2] at h1
    injection h1 with h1
    injection h1 with _ h1 _
    exact absurd h1 (by decide)), h.rd.keep hs (fun y hy e => by omega), h.but.setCell ⟨g, j, none⟩ _ (Or.inr hw), h.kl⟩
end
set_option maxHeartbeats 4000000 in
set_option maxRecDepth 100000 in
theorem types_is (w : World) (rb : Nat) (bs : Value) (b : List Nat) (k m : Nat) (h : Rdr w rb bs b k) (hk : k ≤ b.length) (hm : m ≤ 65536) :
    Calls Try.prog 99 #[.pointer (some ⟨rb, 0, none⟩), .int .i64 (m : Int)] w fun e w' => Out rb w (tys b k 0 m) (fun l e w' => TyQ rb w w' bs b (k + 4 * m) e l) e w' := by
  obtain ⟨W1, hmk, hcb, hB1, hsz⟩ := make_n 25 77 (.agg #[.int .i64 0, .int .i64 0, .int .i64 0]) (.int .i64 0) 3 24 Try.underlying25 Try.infoT (fun i hi => by
    have h3 : i < 3 := hi
    obtain rfl | rfl | rfl : i = 0 ∨ i = 1 ∨ i = 2 := by omega
    all_goals rfl) (by simp [Value.cells]) .i64 w m (by omega) (by omega)
  have HRG : Hid (rb < w.heap.size) := h.box.lt
  obtain ⟨LL, hLL⟩ : ∃ LL, LL = tys b k 0 m := ⟨_, rfl⟩
  rw [← hLL]
  have C0 : Hid (CBox W1 w.heap.size 77 (List.replicate (m * 3) z0V) ∧ Below w.heap.size w W1 ∧ Rdr W1 rb bs b k ∧ k ≤ b.length ∧ LL = (tys b (k + 4 * 0) 0 (m - 0)).bind fun r => .ok ([] ++ r)) := ⟨hcb, hB1, h.past hB1, hk, by rw [hLL]; cases tys b k 0 m <;> simp [Except.bind]⟩
  have mI : (m : Int) ≤ 65536 := by omega
  have HB : Hid (Byt b) := h.byt
  clear hcb hB1 hsz h hk hLL hm
  generalize hbw : w.heap.size = bw at *
  have GB : Hid (w.heap.size = bw) := hbw
  have GE : Hid (bw ≤ w.heap.size) := by unfold Hid; omega
  go_enter Try.func99, Try.ntmps99
  go_upto_region 2 with fail
  clear hmk hbw
  go_upto_region 3 with (go_at_call 87; refine (typeParts_is _).mono ?_; rintro e w1 ⟨rfl, hB1⟩; unfold partsV partsL pF)
  have HGW : Hid (w.heap.size ≤ bw) := by unfold Hid; have := GB.out; omega
  have hb1 : RB rb w W1 := below_but (by rw [GB.out]; exact C0.out.2.1)
  have C1 : Hid (TyM rb bw bw w1.heap.size w (w1.alloc (.cells partsL.toArray 109)) bs b (tV [] ++ List.replicate ((m - 0) * 3) z0V) (k + 4 * 0) ∧ LL = (tys b (k + 4 * 0) 0 (m - 0)).bind fun r => .ok ([] ++ r)) := ⟨⟨(C0.out.1.past hB1).past (below_alloc _ _), CBox.new _ _ _, (C0.out.2.2.1.past hB1).past (below_alloc _ _), (hb1.trans (below_but hB1)).trans (below_but (below_alloc _ _)), C0.out.2.2.2.1⟩, C0.out.2.2.2.2⟩
  unfold partsL pF at C1
  clear hb1 hB1 C0
  generalize w1.alloc _ = V0 at C1 ⊢
  generalize w1.heap.size = bp at C1 ⊢
  generalize hg : bw = g at C1 HGW HRG ⊢
  have HGB : Hid (bw = g) := hg
  clear hg
  go_wp2
  go_loopw [16] (fun s16 wr => ∃ (i : Nat) (L : List Ty), s16 = .int .i64 (i : Int) ∧ i ≤ m ∧ L.length = i ∧ TyM rb bw g bp w wr bs b (tV L ++ List.replicate ((m - i) * 3) z0V) (k + 4 * i) ∧ LL = (tys b (k + 4 * i) i (m - i)).bind fun r => .ok (L ++ r)) (fun s16 _ => m - (intOf s16).toNat)
  case atStart => exact ⟨0, [], rfl, by omega, rfl, by rw [HGB.out]; exact C1.out⟩
  case round =>
    obtain ⟨i, L, rfl, hi, hL, hM, hE⟩ := hrel
    have HM : Hid (TyM rb bw g bp w wr bs b (tV L ++ List.replicate ((m - i) * 3) z0V) (k + 4 * i)) := hM
    have HE : Hid (LL = (tys b (k + 4 * i) i (m - i)).bind fun r => .ok (L ++ r)) := hE
    have HLn : Hid (L.length = i) := hL
    clear hM hE hL C1
    by_cases e : i = m
    · subst e
      have E0 : Hid (LL = .ok L) := by unfold Hid; rw [HE.out, Nat.sub_self, tys]; simp [Except.bind]
      have E1 : Hid (CBox wr g 77 (tV L)) := by have := HM.out.cg; rwa [Nat.sub_self, Nat.zero_mul, List.replicate_zero, List.append_nil] at this
      go_wp2
      go_ret
      rw [E0.out]
      exact ⟨⟨g, by rw [HLn.out]; rfl, E1.out, HGW.out⟩, HM.out.rd, HM.out.but⟩
    · have iI : (i : Int) < (m : Int) := by omega
      obtain ⟨r, hr⟩ : ∃ r, m - i = r + 1 := ⟨m - i - 1, by omega⟩
      have HTV : Hid ((tV L).length = i * 3) := by unfold Hid; rw [tV_len, HLn.out]
      have HR1 : Hid (m - i = r + 1) := hr
      have HE2 : Hid (LL = (tyR b (k + 4 * i) i 0 0 0 0).bind fun t => (tys b (k + 4 * i + 4) (i + 1) r).bind fun q => .ok (L ++ (t :: q))) := by
        unfold Hid
        rw [HE.out, hr, tys, tyR]
        cases tyAt b (k + 4 * i) i with
        | error er => rfl
        | ok t => cases tys b (k + 4 * i + 4) (i + 1) r <;> rfl
      have M7 : Hid (TyM rb bw g bp w (wr.alloc (.cells #[.int .i64 (i : Int)] 3)) bs b (tV L ++ (tyC 0 0 0 0 ++ List.replicate (r * 3) z0V)) (k + 4 * i + 0) ∧ CBox (wr.alloc (.cells #[.int .i64 (i : Int)] 3)) wr.heap.size 3 [.int .i64 (i : Int)]) := by
        refine ⟨?_, CBox.new _ _ [_]⟩
        have h9 := HM.out.past (below_alloc wr (.cells #[.int .i64 (i : Int)] 3))
        rw [hr, show (r + 1) * 3 = r * 3 + 1 + 1 + 1 by omega, List.replicate_succ, List.replicate_succ, List.replicate_succ] at h9
        exact h9
      have N7 : Hid (wr.heap.size ≠ g) := by unfold Hid; have := HM.out.cg.lt; omega
      have N7r : Hid (wr.heap.size ≠ rb) := by unfold Hid; have := HM.out.rd.box.lt; omega
      clear HM HE hr e
      go_upto_region 6 with fail
      generalize wr.alloc _ = V1 at M7 ⊢
      generalize wr.heap.size = b7 at M7 N7 N7r ⊢
      have p0 : V1.cell? ⟨bp, 0, none⟩ = some (.int .i64 1) := M7.out.1.cp.cell 0
      have p1 : V1.cell? ⟨bp, 1, none⟩ = some (.func (.func 106) #[] #[]) := M7.out.1.cp.cell 1
      have p2 : V1.cell? ⟨bp, 2, none⟩ = some (.func (.func 107) #[] #[]) := M7.out.1.cp.cell 2
      have p3 : V1.cell? ⟨bp, 3, none⟩ = some (.int .i64 1) := M7.out.1.cp.cell 3
      have p4 : V1.cell? ⟨bp, 4, none⟩ = some (.func (.func 108) #[] #[]) := M7.out.1.cp.cell 4
      have p5 : V1.cell? ⟨bp, 5, none⟩ = some (.func (.func 109) #[] #[]) := M7.out.1.cp.cell 5
      have p6 : V1.cell? ⟨bp, 6, none⟩ = some (.int .i64 2) := M7.out.1.cp.cell 6
      have p7 : V1.cell? ⟨bp, 7, none⟩ = some (.func (.func 110) #[] #[]) := M7.out.1.cp.cell 7
      have p8 : V1.cell? ⟨bp, 8, none⟩ = some (.func (.func 111) #[] #[]) := M7.out.1.cp.cell 8
      go_wp2
      clear p0 p1 p2 p3 p4 p5 p6 p7 p8
      go_loopw [20] (fun s20 wq => ∃ j x y z : Nat, s20 = .int .i64 (j : Int) ∧ j ≤ 3 ∧ (TyM rb bw g bp w wq bs b (tV L ++ (tyC j x y z ++ List.replicate (r * 3) z0V)) (k + 4 * i + tyO j) ∧ CBox wq b7 3 [.int .i64 (i : Int)]) ∧ LL = (tyR b (k + 4 * i) i j x y z).bind fun t => (tys b (k + 4 * i + 4) (i + 1) r).bind fun q => .ok (L ++ (t :: q))) (fun s20 _ => 3 - (intOf s20).toNat)
      case atStart => exact ⟨0, 0, 0, 0, rfl, by omega, M7.out, HE2.out⟩
      case round =>
        obtain ⟨j, x, y, z, rfl, hj, hM, hE⟩ := hrel
        clear M7 HE2
        obtain rfl | rfl | rfl | rfl : j = 3 ∨ j = 0 ∨ j = 1 ∨ j = 2 := by omega
        · have E0 : Hid (LL = (tys b (k + 4 * (i + 1)) (i + 1) (m - (i + 1))).bind fun q => .ok ((L ++ [((x : Int), (y : Int), (z : Int))]) ++ q)) := by
            unfold Hid
            rw [hE, show m - (i + 1) = r by have := HR1.out; omega, show k + 4 * (i + 1) = k + 4 * i + 4 by omega, show tyR b (k + 4 * i) i 3 x y z = .ok ((x : Int), (y : Int), (z : Int)) from rfl]
            cases tys b (k + 4 * i + 4) (i + 1) r <;> simp [Except.bind]
          have E1 : Hid (TyM rb bw g bp w wr bs b (tV (L ++ [((x : Int), (y : Int), (z : Int))]) ++ List.replicate ((m - (i + 1)) * 3) z0V) (k + 4 * (i + 1))) := by
            unfold Hid
            rw [tV_app, List.append_assoc, show m - (i + 1) = r by have := HR1.out; omega]
            exact hM.1
          clear hM hE
          go_wp2
          go_roundw
          case rel => exact ⟨i + 1, L ++ [((x : Int), (y : Int), (z : Int))], by first | rfl | go_num, by omega, by rw [List.length_append, HLn.out]; rfl, E1.out, E0.out⟩
          case measure => simp [intOf]; omega
        · have C7 : Hid (TyM rb bw g bp w (wr.alloc (.cells #[.int .i64 1, .func (.func 106) #[] #[], .func (.func 107) #[] #[]] 108)) bs b (tV L ++ (tyC 0 x y z ++ List.replicate (r * 3) z0V)) (k + 4 * i + 0) ∧ CBox (wr.alloc (.cells #[.int .i64 1, .func (.func 106) #[] #[], .func (.func 107) #[] #[]] 108)) b7 3 [.int .i64 (i : Int)] ∧ CBox (wr.alloc (.cells #[.int .i64 1, .func (.func 106) #[] #[], .func (.func 107) #[] #[]] 108)) wr.heap.size 108 [.int .i64 1, .func (.func 106) #[] #[], .func (.func 107) #[] #[]]) := ⟨hM.1.past (below_alloc _ _), hM.2.past (below_alloc _ _), CBox.new _ _ [_, _, _]⟩
          have N9h : Hid (wr.heap.size ≠ g) := by unfold Hid; have := hM.1.cg.lt; omega
          have N9r : Hid (wr.heap.size ≠ rb) := by unfold Hid; have := hM.1.rd.box.lt; omega
          have HE3 : Hid (LL = ((fld b (k + 4 * i + 0) 1 59 (fun n => okIn i n)).bind fun xv => tyR b (k + 4 * i) i 1 xv y z).bind fun t => (tys b (k + 4 * i + 4) (i + 1) r).bind fun q => .ok (L ++ (t :: q))) := hE
          have ix := ixp0 wr
          clear hM hE
          go_upto_region 9 with fail
          clear ix
          generalize wr.alloc _ = V7 at C7 ⊢
          generalize wr.heap.size = b9 at C7 N9h N9r ⊢
          have FC0 := field2_is V7 rb bs b (k + 4 * i + 0) 1 59 C7.out.1.rd C7.out.1.kl (by omega) (fun n => okIn i n) 114 (.pointer (some ⟨b9, 0, none⟩)) (.pointer (some ⟨b7, 0, none⟩)) (fun _ _ => by kernel_rfl) (fun V hV => ty1_0 V b9 b7 i (rd b (k + 4 * i + 0) 1) (rd_small HB.out _ _ (by omega)) ((C7.out.2.2.but hV N9r.out).cell 2) ((C7.out.2.1.but hV N7r.out).cell 0))
          have FC : Hid _ := FC0
          have FK : Hid (∀ q, fld b (k + 4 * i + 0) 1 59 (fun n => okIn i n) = .ok q → k + 4 * i + 1 ≤ b.length ∧ q ≤ 65535) := fun q hq => by
            unfold fld at hq
            split at hq
            · cases hq
            · split at hq
              · cases hq
                exact ⟨by omega, rd_small HB.out _ _ (by omega)⟩
              · cases hq
          clear FC0
          generalize fld b (k + 4 * i + 0) 1 59 (fun n => okIn i n) = FF at *
          have hmf : ∀ (fn : Fn) (first cap : Array Value) (w : World), (Instr.makeFunc fn first cap).run Try.prog w = .ok (.func fn first cap) w := fun _ _ _ _ => rfl
          have c9 : V7.cell? ⟨b9, 0, none⟩ = some (.int .i64 1) := C7.out.2.2.cell 0
          cases FF with
          | error er =>
            obtain ⟨ec, ea⟩ := er
            have E0 : Hid (LL = .error (ec, ea)) := HE3.out
            go_wp2_with (go_at_call 91; refine Calls.mono FC.out ?_; rintro e w' ⟨rfl, hB⟩; unfold thrown rejV)
            refine ⟨rfl, ?_⟩
            rw [E0.out]
            exact ⟨rfl, C7.out.1.but.trans hB⟩
          | ok xv =>
          have HE4 : Hid (LL = (tyR b (k + 4 * i) i 1 xv y z).bind fun t => (tys b (k + 4 * i + 4) (i + 1) r).bind fun q => .ok (L ++ (t :: q))) := HE3.out
          have HKX : Hid (k + 4 * i + 1 ≤ b.length ∧ xv ≤ 65535) := FK.out xv rfl
          have wxv : IntKind.i64.wrap (xv : Int) = (xv : Int) := by rw [IntKind.wrap_i64]; have := HKX.out; omega
          clear HE3 FK
          go_upto_region 10 with (go_at_call 91; refine Calls.mono FC.out ?_; rintro e w5 ⟨rfl, hR, hB⟩)
          have M5 : Hid (TyM rb bw g bp w w5 bs b (tV L ++ (tyC 0 x y z ++ List.replicate (r * 3) z0V)) (k + 4 * i + 1) ∧ CBox w5 b7 3 [.int .i64 (i : Int)] ∧ CBox w5 b9 108 [.int .i64 1, .func (.func 106) #[] #[], .func (.func 107) #[] #[]]) := ⟨C7.out.1.read HRG.out hB hR HKX.out.1, C7.out.2.1.but hB N7r.out, C7.out.2.2.but hB N9r.out⟩
          clear hR hB C7 FC c9 hmf
          refine wp_region_held_drew (S := fun V' => CBox V' b7 3 [.int .i64 (i : Int)] ∧ CBox V' b9 108 [.int .i64 1, .func (.func 106) #[] #[], .func (.func 107) #[] #[]]) (by kernel_rfl) ⟨M5.out.2.1.past below_drew, M5.out.2.2.past below_drew⟩ (fun hHeld => ?_)
          have M0 : Hid (TyM rb bw g bp w w5.drew bs b (tV L ++ (tyC 0 x y z ++ List.replicate (r * 3) z0V)) (k + 4 * i + 1)) := M5.out.1.past below_drew
          have N9 : b9 ≠ g := N9h.out
          clear M5
          generalize w5.drew = z0 at hHeld M0 ⊢
          refine wpAnyH_take (i := 0) (v := .pointer (some ⟨b9, 1, none⟩)) ov0 (by kernel_rfl) (by kernel_rfl) (by kernel_rfl) (fun _ _ _ h => h) (Or.inl ⟨by rfl, fun V' hS => ?_⟩) hHeld ?_
          · go_simp
          simp only [Act.put, List.setIfInBounds_toArray, List.set_cons_zero, List.set_cons_succ]
          refine wpAnyH_take (i := 1) (v := .func (.func 106) #[] #[]) ov1 (by kernel_rfl) (by kernel_rfl) (by kernel_rfl) (fun _ _ _ h => h) (Or.inl ⟨by rfl, fun V' hS => ?_⟩) hHeld ?_
          · have c1 : V'.cell? ⟨b9, 1, none⟩ = some (.func (.func 106) #[] #[]) := hS.2.cell 1
            go_simp
          simp only [Act.put, List.setIfInBounds_toArray, List.set_cons_zero, List.set_cons_succ]
          refine wpAnyH_take (i := 2) (v := .slice (some ⟨g, 0, none⟩) m m) ov2 (by kernel_rfl) (by kernel_rfl) (by kernel_rfl) (fun _ _ _ h => h) (Or.inl ⟨by rfl, fun V' hS => ?_⟩) hHeld ?_
          · go_simp
          simp only [Act.put, List.setIfInBounds_toArray, List.set_cons_zero, List.set_cons_succ]
          refine wpAnyH_take (i := 3) (v := .int .i64 (i : Int)) ov3 (by kernel_rfl) (by kernel_rfl) (by kernel_rfl) (fun _ _ _ h => h) (Or.inl ⟨by rfl, fun V' hS => ?_⟩) hHeld ?_
          · have c1 : V'.cell? ⟨b7, 0, none⟩ = some (.int .i64 (i : Int)) := hS.1.cell 0
            go_simp
          simp only [Act.put, List.setIfInBounds_toArray, List.set_cons_zero, List.set_cons_succ]
          refine wpAnyH_take (i := 4) (v := .pointer (some ⟨g, i * 3, none⟩)) ov4 (by kernel_rfl) (by kernel_rfl) (by kernel_rfl) (fun _ _ _ h => h) (Or.inl ⟨by rfl, fun V' hS => ?_⟩) hHeld ?_
          · go_simp
          simp only [Act.put, List.setIfInBounds_toArray, List.set_cons_zero, List.set_cons_succ]
          refine wpAnyH_take (i := 6) (v := .int .u64 (xv : Int)) ov6 (by kernel_rfl) (by kernel_rfl) (by kernel_rfl) (fun _ _ _ h => h) (Or.inl ⟨by rfl, fun V' hS => ?_⟩) hHeld ?_
          · go_simp
          simp only [Act.put, List.setIfInBounds_toArray, List.set_cons_zero, List.set_cons_succ]
          refine wpAnyH_take (i := 7) (v := .int .i64 (xv : Int)) ov7 (by kernel_rfl) (by kernel_rfl) (by kernel_rfl) (fun _ _ _ h => h) (Or.inl ⟨by rfl, fun V' hS => ?_⟩) hHeld ?_
          · go_simp
          simp only [Act.put, List.setIfInBounds_toArray, List.set_cons_zero, List.set_cons_succ]
          refine wpAnyH_ready (rs := [5]) (by kernel_rfl) (by simp) ?_
          refine AllReadyH.cons ov5 (fun K hK => ?_) AllReadyH.nil
          rw [if_pos (by rfl)]
          go_simp
          refine (of0_is _ g (i * 3)).mono ?_
          rintro e w' ⟨rfl, hw⟩
          have hw2 := hw.symm
          clear hw
          subst hw2
          (try go_wp2_with fail)
          refine hK.out _ _ hHeld (fun _ => ?_)
          clear hK K
          (try simp only [Act.put, List.setIfInBounds_toArray, List.set_cons_zero, List.set_cons_succ])
          refine wpAnyH_take (i := 8) (v := .pointer (some ⟨g, i * 3, none⟩)) ov8 (by kernel_rfl) (by kernel_rfl) (by kernel_rfl) (fun _ _ _ h => h) (Or.inl ⟨by rfl, fun V' hS => ?_⟩) hHeld ?_
          · go_simp
          simp only [Act.put, List.setIfInBounds_toArray, List.set_cons_zero, List.set_cons_succ]
          refine wpAnyH_ready (rs := [9]) (by kernel_rfl) (by simp) ?_
          refine AllReadyH.cons ov9 (fun K hK => ?_) AllReadyH.nil
          rw [if_pos (by rfl)]
          have k0 : z0.cell? ⟨g, i * 3, none⟩ = some (.int .i64 0) := by (rw [M0.out.cg.cell]; exact ty_cell _ _ _ 0 _ HTV.out _ rfl)
          have f0 := M0.out.cg.frozen (i * 3)
          go_simp
          have M1 : Hid (TyM rb bw g bp w (z0.setCell ⟨g, i * 3, none⟩ (.int .i64 (xv : Int))) bs b (tV L ++ (tyC 1 xv y z ++ List.replicate (r * 3) z0V)) (k + 4 * i + 1) ∧ CBox (z0.setCell ⟨g, i * 3, none⟩ (.int .i64 (xv : Int))) b7 3 [.int .i64 (i : Int)] ∧ CBox (z0.setCell ⟨g, i * 3, none⟩ (.int .i64 (xv : Int))) b9 108 [.int .i64 1, .func (.func 106) #[] #[], .func (.func 107) #[] #[]]) := by
            have hs : But (fun y => y = g) z0 (z0.setCell ⟨g, i * 3, none⟩ (.int .i64 (xv : Int))) := (But.refl (fun y => y = g) z0).setCell ⟨g, i * 3, none⟩ _ (Or.inl rfl)
            refine ⟨?_, hHeld.1.but hs N7.out, hHeld.2.but hs N9⟩
            have h9 := M0.out.put HRG.out HGW.out (i * 3) (.int .i64 (xv : Int))
            rw [show i * 3 = i * 3 + 0 from rfl, ty_set _ _ _ 0 _ HTV.out _ (by rw [tyC_len]; omega)] at h9
            exact h9
          refine hK.out _ (z0.setCell ⟨g, i * 3, none⟩ (.int .i64 (xv : Int))) M1.out.2 (fun _ => ?_)
          clear hK K
          (try simp only [Act.put, List.setIfInBounds_toArray, List.set_cons_zero, List.set_cons_succ])
          clear k0 f0
          generalize (z0.setCell ⟨g, i * 3, none⟩ (.int .i64 (xv : Int))) = z5 at M1 ⊢
          refine wpAnyH_done (by kernel_rfl) ?_ _
          clear hHeld M0
          have E9 : Hid (TyM rb bw g bp w z5 bs b (tV L ++ (tyC 1 xv y z ++ List.replicate (r * 3) z0V)) (k + 4 * i + 1) ∧ CBox z5 b7 3 [.int .i64 (i : Int)]) := ⟨M1.out.1, M1.out.2.1⟩
          clear M1
          go_wp2
          go_roundw
          case rel => exact ⟨1, xv, y, z, by first | rfl | go_num, by omega, E9.out, HE4.out⟩
          case measure => simp [intOf]
        · have C7 : Hid (TyM rb bw g bp w (wr.alloc (.cells #[.int .i64 1, .func (.func 108) #[] #[], .func (.func 109) #[] #[]] 108)) bs b (tV L ++ (tyC 1 x y z ++ List.replicate (r * 3) z0V)) (k + 4 * i + 1) ∧ CBox (wr.alloc (.cells #[.int .i64 1, .func (.func 108) #[] #[], .func (.func 109) #[] #[]] 108)) b7 3 [.int .i64 (i : Int)] ∧ CBox (wr.alloc (.cells #[.int .i64 1, .func (.func 108) #[] #[], .func (.func 109) #[] #[]] 108)) wr.heap.size 108 [.int .i64 1, .func (.func 108) #[] #[], .func (.func 109) #[] #[]]) := ⟨hM.1.past (below_alloc _ _), hM.2.past (below_alloc _ _), CBox.new _ _ [_, _, _]⟩
          have N9h : Hid (wr.heap.size ≠ g) := by unfold Hid; have := hM.1.cg.lt; omega
          have N9r : Hid (wr.heap.size ≠ rb) := by unfold Hid; have := hM.1.rd.box.lt; omega
          have HE3 : Hid (LL = ((fld b (k + 4 * i + 1) 1 59 (fun n => okOut i n)).bind fun xv => tyR b (k + 4 * i) i 2 x xv z).bind fun t => (tys b (k + 4 * i + 4) (i + 1) r).bind fun q => .ok (L ++ (t :: q))) := hE
          have ix := ixp1 wr
          clear hM hE
          go_upto_region 9 with fail
          clear ix
          generalize wr.alloc _ = V7 at C7 ⊢
          generalize wr.heap.size = b9 at C7 N9h N9r ⊢
          have FC0 := field2_is V7 rb bs b (k + 4 * i + 1) 1 59 C7.out.1.rd C7.out.1.kl (by omega) (fun n => okOut i n) 114 (.pointer (some ⟨b9, 0, none⟩)) (.pointer (some ⟨b7, 0, none⟩)) (fun _ _ => by kernel_rfl) (fun V hV => ty1_1 V b9 b7 i (rd b (k + 4 * i + 1) 1) (rd_small HB.out _ _ (by omega)) ((C7.out.2.2.but hV N9r.out).cell 2) ((C7.out.2.1.but hV N7r.out).cell 0))
          have FC : Hid _ := FC0
          have FK : Hid (∀ q, fld b (k + 4 * i + 1) 1 59 (fun n => okOut i n) = .ok q → k + 4 * i + 2 ≤ b.length ∧ q ≤ 65535) := fun q hq => by
            unfold fld at hq
            split at hq
            · cases hq
            · split at hq
              · cases hq
                exact ⟨by omega, rd_small HB.out _ _ (by omega)⟩
              · cases hq
          clear FC0
          generalize fld b (k + 4 * i + 1) 1 59 (fun n => okOut i n) = FF at *
          have hmf : ∀ (fn : Fn) (first cap : Array Value) (w : World), (Instr.makeFunc fn first cap).run Try.prog w = .ok (.func fn first cap) w := fun _ _ _ _ => rfl
          have c9 : V7.cell? ⟨b9, 0, none⟩ = some (.int .i64 1) := C7.out.2.2.cell 0
          cases FF with
          | error er =>
            obtain ⟨ec, ea⟩ := er
            have E0 : Hid (LL = .error (ec, ea)) := HE3.out
            go_wp2_with (go_at_call 91; refine Calls.mono FC.out ?_; rintro e w' ⟨rfl, hB⟩; unfold thrown rejV)
            refine ⟨rfl, ?_⟩
            rw [E0.out]
            exact ⟨rfl, C7.out.1.but.trans hB⟩
          | ok xv =>
          have HE4 : Hid (LL = (tyR b (k + 4 * i) i 2 x xv z).bind fun t => (tys b (k + 4 * i + 4) (i + 1) r).bind fun q => .ok (L ++ (t :: q))) := HE3.out
          have HKX : Hid (k + 4 * i + 2 ≤ b.length ∧ xv ≤ 65535) := FK.out xv rfl
          have wxv : IntKind.i64.wrap (xv : Int) = (xv : Int) := by rw [IntKind.wrap_i64]; have := HKX.out; omega
          clear HE3 FK
          go_upto_region 10 with (go_at_call 91; refine Calls.mono FC.out ?_; rintro e w5 ⟨rfl, hR, hB⟩)
          have M5 : Hid (TyM rb bw g bp w w5 bs b (tV L ++ (tyC 1 x y z ++ List.replicate (r * 3) z0V)) (k + 4 * i + 2) ∧ CBox w5 b7 3 [.int .i64 (i : Int)] ∧ CBox w5 b9 108 [.int .i64 1, .func (.func 108) #[] #[], .func (.func 109) #[] #[]]) := ⟨C7.out.1.read HRG.out hB hR HKX.out.1, C7.out.2.1.but hB N7r.out, C7.out.2.2.but hB N9r.out⟩
          clear hR hB C7 FC c9 hmf
          refine wp_region_held_drew (S := fun V' => CBox V' b7 3 [.int .i64 (i : Int)] ∧ CBox V' b9 108 [.int .i64 1, .func (.func 108) #[] #[], .func (.func 109) #[] #[]]) (by kernel_rfl) ⟨M5.out.2.1.past below_drew, M5.out.2.2.past below_drew⟩ (fun hHeld => ?_)
          have M0 : Hid (TyM rb bw g bp w w5.drew bs b (tV L ++ (tyC 1 x y z ++ List.replicate (r * 3) z0V)) (k + 4 * i + 2)) := M5.out.1.past below_drew
          have N9 : b9 ≠ g := N9h.out
          clear M5
          generalize w5.drew = z0 at hHeld M0 ⊢
          refine wpAnyH_take (i := 0) (v := .pointer (some ⟨b9, 1, none⟩)) ov0 (by kernel_rfl) (by kernel_rfl) (by kernel_rfl) (fun _ _ _ h => h) (Or.inl ⟨by rfl, fun V' hS => ?_⟩) hHeld ?_
          · go_simp
          simp only [Act.put, List.setIfInBounds_toArray, List.set_cons_zero, List.set_cons_succ]
          refine wpAnyH_take (i := 1) (v := .func (.func 108) #[] #[]) ov1 (by kernel_rfl) (by kernel_rfl) (by kernel_rfl) (fun _ _ _ h => h) (Or.inl ⟨by rfl, fun V' hS => ?_⟩) hHeld ?_
          · have c1 : V'.cell? ⟨b9, 1, none⟩ = some (.func (.func 108) #[] #[]) := hS.2.cell 1
            go_simp
          simp only [Act.put, List.setIfInBounds_toArray, List.set_cons_zero, List.set_cons_succ]
          refine wpAnyH_take (i := 2) (v := .slice (some ⟨g, 0, none⟩) m m) ov2 (by kernel_rfl) (by kernel_rfl) (by kernel_rfl) (fun _ _ _ h => h) (Or.inl ⟨by rfl, fun V' hS => ?_⟩) hHeld ?_
          · go_simp
          simp only [Act.put, List.setIfInBounds_toArray, List.set_cons_zero, List.set_cons_succ]
          refine wpAnyH_take (i := 3) (v := .int .i64 (i : Int)) ov3 (by kernel_rfl) (by kernel_rfl) (by kernel_rfl) (fun _ _ _ h => h) (Or.inl ⟨by rfl, fun V' hS => ?_⟩) hHeld ?_
          · have c1 : V'.cell? ⟨b7, 0, none⟩ = some (.int .i64 (i : Int)) := hS.1.cell 0
            go_simp
          simp only [Act.put, List.setIfInBounds_toArray, List.set_cons_zero, List.set_cons_succ]
          refine wpAnyH_take (i := 4) (v := .pointer (some ⟨g, i * 3, none⟩)) ov4 (by kernel_rfl) (by kernel_rfl) (by kernel_rfl) (fun _ _ _ h => h) (Or.inl ⟨by rfl, fun V' hS => ?_⟩) hHeld ?_
          · go_simp
          simp only [Act.put, List.setIfInBounds_toArray, List.set_cons_zero, List.set_cons_succ]
          refine wpAnyH_take (i := 6) (v := .int .u64 (xv : Int)) ov6 (by kernel_rfl) (by kernel_rfl) (by kernel_rfl) (fun _ _ _ h => h) (Or.inl ⟨by rfl, fun V' hS => ?_⟩) hHeld ?_
          · go_simp
          simp only [Act.put, List.setIfInBounds_toArray, List.set_cons_zero, List.set_cons_succ]
          refine wpAnyH_take (i := 7) (v := .int .i64 (xv : Int)) ov7 (by kernel_rfl) (by kernel_rfl) (by kernel_rfl) (fun _ _ _ h => h) (Or.inl ⟨by rfl, fun V' hS => ?_⟩) hHeld ?_
          · go_simp
          simp only [Act.put, List.setIfInBounds_toArray, List.set_cons_zero, List.set_cons_succ]
          refine wpAnyH_ready (rs := [5]) (by kernel_rfl) (by simp) ?_
          refine AllReadyH.cons ov5 (fun K hK => ?_) AllReadyH.nil
          rw [if_pos (by rfl)]
          go_simp
          refine (of1_is _ g (i * 3)).mono ?_
          rintro e w' ⟨rfl, hw⟩
          have hw2 := hw.symm
          clear hw
          subst hw2
          (try go_wp2_with fail)
          refine hK.out _ _ hHeld (fun _ => ?_)
          clear hK K
          (try simp only [Act.put, List.setIfInBounds_toArray, List.set_cons_zero, List.set_cons_succ])
          refine wpAnyH_take (i := 8) (v := .pointer (some ⟨g, i * 3 + 1, none⟩)) ov8 (by kernel_rfl) (by kernel_rfl) (by kernel_rfl) (fun _ _ _ h => h) (Or.inl ⟨by rfl, fun V' hS => ?_⟩) hHeld ?_
          · go_simp
          simp only [Act.put, List.setIfInBounds_toArray, List.set_cons_zero, List.set_cons_succ]
          refine wpAnyH_ready (rs := [9]) (by kernel_rfl) (by simp) ?_
          refine AllReadyH.cons ov9 (fun K hK => ?_) AllReadyH.nil
          rw [if_pos (by rfl)]
          have k0 : z0.cell? ⟨g, i * 3 + 1, none⟩ = some (.int .i64 0) := by (rw [M0.out.cg.cell]; exact ty_cell _ _ _ 1 _ HTV.out _ rfl)
          have f0 := M0.out.cg.frozen (i * 3 + 1)
          go_simp
          have M1 : Hid (TyM rb bw g bp w (z0.setCell ⟨g, i * 3 + 1, none⟩ (.int .i64 (xv : Int))) bs b (tV L ++ (tyC 2 x xv z ++ List.replicate (r * 3) z0V)) (k + 4 * i + 2) ∧ CBox (z0.setCell ⟨g, i * 3 + 1, none⟩ (.int .i64 (xv : Int))) b7 3 [.int .i64 (i : Int)] ∧ CBox (z0.setCell ⟨g, i * 3 + 1, none⟩ (.int .i64 (xv : Int))) b9 108 [.int .i64 1, .func (.func 108) #[] #[], .func (.func 109) #[] #[]]) := by
            have hs : But (fun y => y = g) z0 (z0.setCell ⟨g, i * 3 + 1, none⟩ (.int .i64 (xv : Int))) := (But.refl (fun y => y = g) z0).setCell ⟨g, i * 3 + 1, none⟩ _ (Or.inl rfl)
            refine ⟨?_, hHeld.1.but hs N7.out, hHeld.2.but hs N9⟩
            have h9 := M0.out.put HRG.out HGW.out (i * 3 + 1) (.int .i64 (xv : Int))
            rw [ty_set _ _ _ 1 _ HTV.out _ (by rw [tyC_len]; omega)] at h9
            exact h9
          refine hK.out _ (z0.setCell ⟨g, i * 3 + 1, none⟩ (.int .i64 (xv : Int))) M1.out.2 (fun _ => ?_)
          clear hK K
          (try simp only [Act.put, List.setIfInBounds_toArray, List.set_cons_zero, List.set_cons_succ])
          clear k0 f0
          generalize (z0.setCell ⟨g, i * 3 + 1, none⟩ (.int .i64 (xv : Int))) = z5 at M1 ⊢
          refine wpAnyH_done (by kernel_rfl) ?_ _
          clear hHeld M0
          have E9 : Hid (TyM rb bw g bp w z5 bs b (tV L ++ (tyC 2 x xv z ++ List.replicate (r * 3) z0V)) (k + 4 * i + 2) ∧ CBox z5 b7 3 [.int .i64 (i : Int)]) := ⟨M1.out.1, M1.out.2.1⟩
          clear M1
          go_wp2
          go_roundw
          case rel => exact ⟨2, x, xv, z, by first | rfl | go_num, by omega, E9.out, HE4.out⟩
          case measure => simp [intOf]
        · have C7 : Hid (TyM rb bw g bp w (wr.alloc (.cells #[.int .i64 2, .func (.func 110) #[] #[], .func (.func 111) #[] #[]] 108)) bs b (tV L ++ (tyC 2 x y z ++ List.replicate (r * 3) z0V)) (k + 4 * i + 2) ∧ CBox (wr.alloc (.cells #[.int .i64 2, .func (.func 110) #[] #[], .func (.func 111) #[] #[]] 108)) b7 3 [.int .i64 (i : Int)] ∧ CBox (wr.alloc (.cells #[.int .i64 2, .func (.func 110) #[] #[], .func (.func 111) #[] #[]] 108)) wr.heap.size 108 [.int .i64 2, .func (.func 110) #[] #[], .func (.func 111) #[] #[]]) := ⟨hM.1.past (below_alloc _ _), hM.2.past (below_alloc _ _), CBox.new _ _ [_, _, _]⟩
          have N9h : Hid (wr.heap.size ≠ g) := by unfold Hid; have := hM.1.cg.lt; omega
          have N9r : Hid (wr.heap.size ≠ rb) := by unfold Hid; have := hM.1.rd.box.lt; omega
          have HE3 : Hid (LL = ((fld b (k + 4 * i + 2) 2 59 (fun n => okMost n)).bind fun xv => tyR b (k + 4 * i) i 3 x y xv).bind fun t => (tys b (k + 4 * i + 4) (i + 1) r).bind fun q => .ok (L ++ (t :: q))) := hE
          have ix := ixp2 wr
          clear hM hE
          go_upto_region 9 with fail
          clear ix
          generalize wr.alloc _ = V7 at C7 ⊢
          generalize wr.heap.size = b9 at C7 N9h N9r ⊢
          have FC0 := field2_is V7 rb bs b (k + 4 * i + 2) 2 59 C7.out.1.rd C7.out.1.kl (by omega) (fun n => okMost n) 114 (.pointer (some ⟨b9, 0, none⟩)) (.pointer (some ⟨b7, 0, none⟩)) (fun _ _ => by kernel_rfl) (fun V hV => ty1_2 V b9 b7 i (rd b (k + 4 * i + 2) 2) (rd_small HB.out _ _ (by omega)) ((C7.out.2.2.but hV N9r.out).cell 2) ((C7.out.2.1.but hV N7r.out).cell 0))
          have FC : Hid _ := FC0
          have FK : Hid (∀ q, fld b (k + 4 * i + 2) 2 59 (fun n => okMost n) = .ok q → k + 4 * i + 4 ≤ b.length ∧ q ≤ 65535) := fun q hq => by
            unfold fld at hq
            split at hq
            · cases hq
            · split at hq
              · cases hq
                exact ⟨by omega, rd_small HB.out _ _ (by omega)⟩
              · cases hq
          clear FC0
          generalize fld b (k + 4 * i + 2) 2 59 (fun n => okMost n) = FF at *
          have hmf : ∀ (fn : Fn) (first cap : Array Value) (w : World), (Instr.makeFunc fn first cap).run Try.prog w = .ok (.func fn first cap) w := fun _ _ _ _ => rfl
          have c9 : V7.cell? ⟨b9, 0, none⟩ = some (.int .i64 2) := C7.out.2.2.cell 0
          cases FF with
          | error er =>
            obtain ⟨ec, ea⟩ := er
            have E0 : Hid (LL = .error (ec, ea)) := HE3.out
            go_wp2_with (go_at_call 91; refine Calls.mono FC.out ?_; rintro e w' ⟨rfl, hB⟩; unfold thrown rejV)
            refine ⟨rfl, ?_⟩
            rw [E0.out]
            exact ⟨rfl, C7.out.1.but.trans hB⟩
          | ok xv =>
          have HE4 : Hid (LL = (tyR b (k + 4 * i) i 3 x y xv).bind fun t => (tys b (k + 4 * i + 4) (i + 1) r).bind fun q => .ok (L ++ (t :: q))) := HE3.out
          have HKX : Hid (k + 4 * i + 4 ≤ b.length ∧ xv ≤ 65535) := FK.out xv rfl
          have wxv : IntKind.i64.wrap (xv : Int) = (xv : Int) := by rw [IntKind.wrap_i64]; have := HKX.out; omega
          clear HE3 FK
          go_upto_region 10 with (go_at_call 91; refine Calls.mono FC.out ?_; rintro e w5 ⟨rfl, hR, hB⟩)
          have M5 : Hid (TyM rb bw g bp w w5 bs b (tV L ++ (tyC 2 x y z ++ List.replicate (r * 3) z0V)) (k + 4 * i + 4) ∧ CBox w5 b7 3 [.int .i64 (i : Int)] ∧ CBox w5 b9 108 [.int .i64 2, .func (.func 110) #[] #[], .func (.func 111) #[] #[]]) := ⟨C7.out.1.read HRG.out hB hR HKX.out.1, C7.out.2.1.but hB N7r.out, C7.out.2.2.but hB N9r.out⟩
          clear hR hB C7 FC c9 hmf
          refine wp_region_held_drew (S := fun V' => CBox V' b7 3 [.int .i64 (i : Int)] ∧ CBox V' b9 108 [.int .i64 2, .func (.func 110) #[] #[], .func (.func 111) #[] #[]]) (by kernel_rfl) ⟨M5.out.2.1.past below_drew, M5.out.2.2.past below_drew⟩ (fun hHeld => ?_)
          have M0 : Hid (TyM rb bw g bp w w5.drew bs b (tV L ++ (tyC 2 x y z ++ List.replicate (r * 3) z0V)) (k + 4 * i + 4)) := M5.out.1.past below_drew
          have N9 : b9 ≠ g := N9h.out
          clear M5
          generalize w5.drew = z0 at hHeld M0 ⊢
          refine wpAnyH_take (i := 0) (v := .pointer (some ⟨b9, 1, none⟩)) ov0 (by kernel_rfl) (by kernel_rfl) (by kernel_rfl) (fun _ _ _ h => h) (Or.inl ⟨by rfl, fun V' hS => ?_⟩) hHeld ?_
          · go_simp
          simp only [Act.put, List.setIfInBounds_toArray, List.set_cons_zero, List.set_cons_succ]
          refine wpAnyH_take (i := 1) (v := .func (.func 110) #[] #[]) ov1 (by kernel_rfl) (by kernel_rfl) (by kernel_rfl) (fun _ _ _ h => h) (Or.inl ⟨by rfl, fun V' hS => ?_⟩) hHeld ?_
          · have c1 : V'.cell? ⟨b9, 1, none⟩ = some (.func (.func 110) #[] #[]) := hS.2.cell 1
            go_simp
          simp only [Act.put, List.setIfInBounds_toArray, List.set_cons_zero, List.set_cons_succ]
          refine wpAnyH_take (i := 2) (v := .slice (some ⟨g, 0, none⟩) m m) ov2 (by kernel_rfl) (by kernel_rfl) (by kernel_rfl) (fun _ _ _ h => h) (Or.inl ⟨by rfl, fun V' hS => ?_⟩) hHeld ?_
          · go_simp
          simp only [Act.put, List.setIfInBounds_toArray, List.set_cons_zero, List.set_cons_succ]
          refine wpAnyH_take (i := 3) (v := .int .i64 (i : Int)) ov3 (by kernel_rfl) (by kernel_rfl) (by kernel_rfl) (fun _ _ _ h => h) (Or.inl ⟨by rfl, fun V' hS => ?_⟩) hHeld ?_
          · have c1 : V'.cell? ⟨b7, 0, none⟩ = some (.int .i64 (i : Int)) := hS.1.cell 0
            go_simp
          simp only [Act.put, List.setIfInBounds_toArray, List.set_cons_zero, List.set_cons_succ]
          refine wpAnyH_take (i := 4) (v := .pointer (some ⟨g, i * 3, none⟩)) ov4 (by kernel_rfl) (by kernel_rfl) (by kernel_rfl) (fun _ _ _ h => h) (Or.inl ⟨by rfl, fun V' hS => ?_⟩) hHeld ?_
          · go_simp
          simp only [Act.put, List.setIfInBounds_toArray, List.set_cons_zero, List.set_cons_succ]
          refine wpAnyH_take (i := 6) (v := .int .u64 (xv : Int)) ov6 (by kernel_rfl) (by kernel_rfl) (by kernel_rfl) (fun _ _ _ h => h) (Or.inl ⟨by rfl, fun V' hS => ?_⟩) hHeld ?_
          · go_simp
          simp only [Act.put, List.setIfInBounds_toArray, List.set_cons_zero, List.set_cons_succ]
          refine wpAnyH_take (i := 7) (v := .int .i64 (xv : Int)) ov7 (by kernel_rfl) (by kernel_rfl) (by kernel_rfl) (fun _ _ _ h => h) (Or.inl ⟨by rfl, fun V' hS => ?_⟩) hHeld ?_
          · go_simp
          simp only [Act.put, List.setIfInBounds_toArray, List.set_cons_zero, List.set_cons_succ]
          refine wpAnyH_ready (rs := [5]) (by kernel_rfl) (by simp) ?_
          refine AllReadyH.cons ov5 (fun K hK => ?_) AllReadyH.nil
          rw [if_pos (by rfl)]
          go_simp
          refine (of2_is _ g (i * 3)).mono ?_
          rintro e w' ⟨rfl, hw⟩
          have hw2 := hw.symm
          clear hw
          subst hw2
          (try go_wp2_with fail)
          refine hK.out _ _ hHeld (fun _ => ?_)
          clear hK K
          (try simp only [Act.put, List.setIfInBounds_toArray, List.set_cons_zero, List.set_cons_succ])
          refine wpAnyH_take (i := 8) (v := .pointer (some ⟨g, i * 3 + 2, none⟩)) ov8 (by kernel_rfl) (by kernel_rfl) (by kernel_rfl) (fun _ _ _ h => h) (Or.inl ⟨by rfl, fun V' hS => ?_⟩) hHeld ?_
          · go_simp
          simp only [Act.put, List.setIfInBounds_toArray, List.set_cons_zero, List.set_cons_succ]
          refine wpAnyH_ready (rs := [9]) (by kernel_rfl) (by simp) ?_
          refine AllReadyH.cons ov9 (fun K hK => ?_) AllReadyH.nil
          rw [if_pos (by rfl)]
          have k0 : z0.cell? ⟨g, i * 3 + 2, none⟩ = some (.int .i64 0) := by (rw [M0.out.cg.cell]; exact ty_cell _ _ _ 2 _ HTV.out _ rfl)
          have f0 := M0.out.cg.frozen (i * 3 + 2)
          go_simp
          have M1 : Hid (TyM rb bw g bp w (z0.setCell ⟨g, i * 3 + 2, none⟩ (.int .i64 (xv : Int))) bs b (tV L ++ (tyC 3 x y xv ++ List.replicate (r * 3) z0V)) (k + 4 * i + 4) ∧ CBox (z0.setCell ⟨g, i * 3 + 2, none⟩ (.int .i64 (xv : Int))) b7 3 [.int .i64 (i : Int)] ∧ CBox (z0.setCell ⟨g, i * 3 + 2, none⟩ (.int .i64 (xv : Int))) b9 108 [.int .i64 2, .func (.func 110) #[] #[], .func (.func 111) #[] #[]]) := by
            have hs : But (fun y => y = g) z0 (z0.setCell ⟨g, i * 3 + 2, none⟩ (.int .i64 (xv : Int))) := (But.refl (fun y => y = g) z0).setCell ⟨g, i * 3 + 2, none⟩ _ (Or.inl rfl)
            refine ⟨?_, hHeld.1.but hs N7.out, hHeld.2.but hs N9⟩
            have h9 := M0.out.put HRG.out HGW.out (i * 3 + 2) (.int .i64 (xv : Int))
            rw [ty_set _ _ _ 2 _ HTV.out _ (by rw [tyC_len]; omega)] at h9
            exact h9
          refine hK.out _ (z0.setCell ⟨g, i * 3 + 2, none⟩ (.int .i64 (xv : Int))) M1.out.2 (fun _ => ?_)
          clear hK K
          (try simp only [Act.put, List.setIfInBounds_toArray, List.set_cons_zero, List.set_cons_succ])
          clear k0 f0
          generalize (z0.setCell ⟨g, i * 3 + 2, none⟩ (.int .i64 (xv : Int))) = z5 at M1 ⊢
          refine wpAnyH_done (by kernel_rfl) ?_ _
          clear hHeld M0
          have E9 : Hid (TyM rb bw g bp w z5 bs b (tV L ++ (tyC 3 x y xv ++ List.replicate (r * 3) z0V)) (k + 4 * i + 4) ∧ CBox z5 b7 3 [.int .i64 (i : Int)]) := ⟨M1.out.1, M1.out.2.1⟩
          clear M1
          go_wp2
          go_roundw
          case rel => exact ⟨3, x, y, xv, by first | rfl | go_num, by omega, E9.out, HE4.out⟩
          case measure => simp [intOf]
end Go.Proofs.Ytndhabhlajldeaa
/- Package container: the reader's header. -/
namespace Go.Proofs.Ytndhabhlajldeaa
open Go.RowKit
theorem hd1_is (V : World) (x : Nat) : Calls Try.prog 92 #[.int .u64 (x : Int)] V fun e V' => e = .returned (.bool (pT x)) ∧ V' = V := by
  have t1 : Int.tmod (x : Int) 4 = ((x % 4 : Nat) : Int) := by rw [Int.tmod_eq_emod_of_nonneg (by omega)]; omega
  have EP : Hid (pT x = (decide (0 < x) && (x % 4 == 0 && decide (x ≤ 4096)))) := rfl
  generalize hq : x % 4 = q at *
  clear hq
  generalize pT x = r at *
  by_cases e0 : 0 < x
  · have c0 : (0 : Int) < (x : Int) := by omega
    by_cases e1 : q = 0
    · subst e1
      by_cases e2 : x ≤ 4096
      · have c2 : (x : Int) ≤ 4096 := by omega
        have E0 : Hid (r = true) := by unfold Hid; rw [EP.out]; simp [e0, e2]
        clear e0 e2
        go_enter Try.func92, Try.ntmps92
        go_wp2
        go_ret
        exact ⟨by rw [E0.out]; rfl, rfl⟩
      · have c2 : ¬ (x : Int) ≤ 4096 := by omega
        have E0 : Hid (r = false) := by unfold Hid; rw [EP.out]; simp [e2]
        clear e0 e2
        go_enter Try.func92, Try.ntmps92
        go_wp2
        go_ret
        exact ⟨by rw [E0.out]; rfl, rfl⟩
    · have c1 : ((q : Int) == 0) = false := by simp; omega
      have E0 : Hid (r = false) := by unfold Hid; rw [EP.out]; simp [e1]
      clear e0 e1
      go_enter Try.func92, Try.ntmps92
      go_wp2
      go_ret
      exact ⟨by rw [E0.out]; rfl, rfl⟩
  · have c0 : ¬ (0 : Int) < (x : Int) := by omega
    have E0 : Hid (r = false) := by unfold Hid; rw [EP.out]; simp [e0]
    clear e0
    go_enter Try.func92, Try.ntmps92
    go_wp2
    go_ret
    exact ⟨by rw [E0.out]; rfl, rfl⟩
theorem hd2_is (V : World) (g x t : Nat) (ht : t < 18446744073709551616) (h : V.cell? ⟨g, 0, none⟩ = some (.int .u64 (t : Int))) : Calls Try.prog 93 #[.int .u64 (x : Int), .pointer (some ⟨g, 0, none⟩)] V fun e V' => e = .returned (.bool (x == t / 4)) ∧ V' = V := by
  obtain ⟨q, hq⟩ : ∃ q, q = t / 4 := ⟨_, rfl⟩
  have t1 : Int.tdiv (t : Int) 4 = (q : Int) := by rw [Int.tdiv_eq_ediv_of_nonneg (by omega)]; omega
  have t2 : (t : Int) / 4 = (q : Int) := by omega
  rw [← hq]
  have EQ := eq_nat x q
  have wq : IntKind.u64.wrap (q : Int) = (q : Int) := by rw [IntKind.wrap_u64]; omega
  clear hq ht
  go_enter Try.func93, Try.ntmps93
  go_wp2
  go_ret
  exact ⟨by rw [← EQ]; rfl, rfl⟩
theorem hd3_is (V : World) (x : Nat) : Calls Try.prog 95 #[.int .u64 (x : Int)] V fun e V' => e = .returned (.bool (pK x)) ∧ V' = V := by
  have EP : Hid (pK x = (x == 3 || x == 255)) := rfl
  generalize pK x = r at *
  by_cases e0 : x = 3
  · subst e0
    have E0 : Hid (r = true) := EP.out
    go_enter Try.func95, Try.ntmps95
    go_wp2
    go_ret
    exact ⟨by rw [E0.out]; rfl, rfl⟩
  have c0 : ((x : Int) == 3) = false := by simp; omega
  by_cases e1 : x = 255
  · subst e1
    have E0 : Hid (r = true) := EP.out
    go_enter Try.func95, Try.ntmps95
    go_wp2
    go_ret
    exact ⟨by rw [E0.out]; rfl, rfl⟩
  have c1 : ((x : Int) == 255) = false := by simp; omega
  have E0 : Hid (r = false) := by unfold Hid; rw [EP.out]; simp [e0, e1]
  clear e0 e1
  go_enter Try.func95, Try.ntmps95
  go_wp2
  go_ret
  exact ⟨by rw [E0.out]; rfl, rfl⟩
theorem hd4_is (V : World) (x : Nat) : Calls Try.prog 96 #[.int .u64 (x : Int)] V fun e V' => e = .returned (.bool (pS x)) ∧ V' = V := by
  have EP : Hid (pS x = (decide (0 < x) && decide (x ≤ 256))) := rfl
  generalize pS x = r at *
  by_cases e0 : 0 < x
  · have c0 : (0 : Int) < (x : Int) := by omega
    by_cases e2 : x ≤ 256
    · have c2 : (x : Int) ≤ 256 := by omega
      have E0 : Hid (r = true) := by unfold Hid; rw [EP.out]; simp [e0, e2]
      clear e0 e2
      go_enter Try.func96, Try.ntmps96
      go_wp2
      go_ret
      exact ⟨by rw [E0.out]; rfl, rfl⟩
    · have c2 : ¬ (x : Int) ≤ 256 := by omega
      have E0 : Hid (r = false) := by unfold Hid; rw [EP.out]; simp [e2]
      clear e0 e2
      go_enter Try.func96, Try.ntmps96
      go_wp2
      go_ret
      exact ⟨by rw [E0.out]; rfl, rfl⟩
  · have c0 : ¬ (0 : Int) < (x : Int) := by omega
    have E0 : Hid (r = false) := by unfold Hid; rw [EP.out]; simp [e0]
    clear e0
    go_enter Try.func96, Try.ntmps96
    go_wp2
    go_ret
    exact ⟨by rw [E0.out]; rfl, rfl⟩
end Go.Proofs.Ytndhabhlajldeaa
