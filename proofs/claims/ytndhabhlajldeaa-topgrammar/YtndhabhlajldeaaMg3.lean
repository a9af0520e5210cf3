/- What is written is read as what it was; what is read is written as it was. -/
import Derived.Test.YtndhabhlajldeaaMg2
import Derived.Defers
import Derived.Recover
import Derived.Laws.Slices
namespace Go.Proofs.Ytndhabhlajldeaa
theorem drop_more {b l r : List Nat} {k : Nat} (h : b.drop k = l ++ r) (hl : 0 < l.length) : k + l.length ≤ b.length ∧ b.drop (k + l.length) = r := by
  have e := congrArg List.length h
  rw [List.length_drop, List.length_append] at e
  refine ⟨by omega, ?_⟩
  rw [← List.drop_drop, h, List.drop_left]
theorem fld_at {b r : List Nat} {k w n why : Nat} {p : Nat → Bool} (h : b.drop k = dig w n ++ r) (hw : 0 < w) (hn : n < 256 ^ w) (hp : p n = true) : fld b k w why p = .ok n ∧ b.drop (k + w) = r := by
  obtain ⟨h1, h2⟩ := drop_more h (by rw [dig_len]; exact hw)
  rw [dig_len] at h1 h2
  have e : rd b k w = n := by
    unfold rd
    rw [h, List.take_left' (dig_len w n), num_dig, Nat.mod_eq_of_lt hn]
  refine ⟨?_, h2⟩
  unfold fld
  rw [if_neg (by omega), e, if_pos hp]
theorem lens_at {b : List Nat} {w : Nat} (hw : 0 < w) : ∀ (l : List Nat) (k : Nat) (r : List Nat), b.drop k = l.flatMap (dig w) ++ r → (∀ x ∈ l, 0 < x ∧ x < 256 ^ w) → lens b w k l.length = .ok l ∧ b.drop (k + w * l.length) = r
  | [], k, r, h, _ => ⟨rfl, by simpa using h⟩
  | x :: l, k, r, h, hl => by
    rw [List.flatMap_cons, List.append_assoc] at h
    obtain ⟨h1, h2⟩ := fld_at (why := 56) (p := fun n => decide (0 < n)) h hw (hl x (List.mem_cons_self ..)).2 (by simpa using (hl x (List.mem_cons_self ..)).1)
    obtain ⟨h3, h4⟩ := lens_at hw l (k + w) r h2 (fun y hy => hl y (List.mem_cons_of_mem _ hy))
    refine ⟨?_, ?_⟩
    · rw [List.length_cons, lens, h1]
      show (lens b w (k + w) l.length).bind _ = _
      rw [h3]
      rfl
    · rw [List.length_cons, Nat.mul_succ, show k + (w * l.length + w) = k + w + w * l.length by omega]
      exact h4
theorem cuts_at {b : List Nat} : ∀ (l : List (List Nat)) (k : Nat) (r : List Nat), b.drop k = l.flatten ++ r → cuts b k (lns l) = l ∧ b.drop (k + sumL (lns l)) = r
  | [], k, r, h => ⟨rfl, by simpa [lns, sumL] using h⟩
  | x :: l, k, r, h => by
    rw [List.flatten_cons, List.append_assoc] at h
    have h2 : b.drop (k + x.length) = l.flatten ++ r := by rw [← List.drop_drop, h, List.drop_left]
    obtain ⟨h3, h4⟩ := cuts_at l (k + x.length) r h2
    refine ⟨?_, ?_⟩
    · show (b.drop k).take x.length :: cuts b (k + x.length) (lns l) = _
      rw [h3, h, List.take_left]
    · show b.drop (k + sumL (x.length :: lns l)) = r
      rw [sumL_cons, ← Nat.add_assoc]
      exact h4
theorem ty_parts {i : Nat} {t : Ty} (h : ¬ tyBad i t < 3) : okIn i t.1 = true ∧ okOut i t.2.1 = true ∧ okMost t.2.2 = true := by
  have h0 : okIn i t.1 = true := by
    cases e : okIn i t.1
    · exact absurd (by unfold tyBad; rw [if_pos e]; omega) h
    · rfl
  have h1 : okOut i t.2.1 = true := by
    cases e : okOut i t.2.1
    · exact absurd (by unfold tyBad; rw [if_neg (by rw [h0]; decide), if_pos e]; omega) h
    · rfl
  refine ⟨h0, h1, ?_⟩
  cases e : okMost t.2.2
  · exact absurd (by unfold tyBad; rw [if_neg (by rw [h0]; decide), if_neg (by rw [h1]; decide), if_pos e]; omega) h
  · rfl
theorem parts_ty {i : Nat} {t : Ty} (h0 : okIn i t.1 = true) (h1 : okOut i t.2.1 = true) (h2 : okMost t.2.2 = true) : ¬ tyBad i t < 3 := by
  unfold tyBad
  rw [if_neg (by rw [h0]; decide), if_neg (by rw [h1]; decide), if_neg (by rw [h2]; decide)]
  omega
theorem ok_in {i : Nat} {x : Int} (h : okIn i x = true) : 0 ≤ x ∧ x < 256 := by
  unfold okIn at h
  simp at h
  omega
theorem ok_out {i : Nat} {x : Int} (h : okOut i x = true) : 0 ≤ x ∧ x < 256 := by
  unfold okOut at h
  simp at h
  omega
theorem ok_most {x : Int} (h : okMost x = true) : 0 ≤ x ∧ x < 65536 := by
  unfold okMost at h
  simp at h
  omega
theorem tyAt_at {b r : List Nat} {k i : Nat} {t : Ty} (h : b.drop k = tyb t ++ r) (ht : ¬ tyBad i t < 3) : tyAt b k i = .ok t ∧ b.drop (k + 4) = r := by
  obtain ⟨p0, p1, p2⟩ := ty_parts ht
  obtain ⟨x, y, z⟩ := t
  have q0 := ok_in p0
  have q1 := ok_out p1
  have q2 := ok_most p2
  simp only at p0 p1 p2 q0 q1 q2
  unfold tyb at h
  rw [List.append_assoc, List.append_assoc] at h
  obtain ⟨h1, h2⟩ := fld_at (why := 59) (p := fun n => okIn i n) h (by omega) (by simp only; omega) (by simp only; rw [Int.toNat_of_nonneg q0.1]; exact p0)
  obtain ⟨h3, h4⟩ := fld_at (why := 59) (p := fun n => okOut i n) h2 (by omega) (by simp only; omega) (by simp only; rw [Int.toNat_of_nonneg q1.1]; exact p1)
  obtain ⟨h5, h6⟩ := fld_at (why := 59) (p := fun n => okMost n) h4 (by omega) (by simp only; omega) (by simp only; rw [Int.toNat_of_nonneg q2.1]; exact p2)
  refine ⟨?_, by simpa [Nat.add_assoc] using h6⟩
  unfold tyAt
  rw [h1]
  show (fld b (k + 1) 1 59 _).bind _ = _
  rw [h3]
  show (fld b (k + 2) 2 59 _).bind _ = _
  rw [show k + 2 = k + 1 + 1 by omega, h5]
  show Except.ok _ = _
  simp only
  rw [Int.toNat_of_nonneg q0.1, Int.toNat_of_nonneg q1.1, Int.toNat_of_nonneg q2.1]
theorem tys_at {b : List Nat} : ∀ (l : List Ty) (k i : Nat) (r : List Nat), b.drop k = l.flatMap tyb ++ r → chkT i l = 0 → tys b k i l.length = .ok l ∧ b.drop (k + 4 * l.length) = r
  | [], k, i, r, h, _ => ⟨rfl, by simpa using h⟩
  | t :: l, k, i, r, h, hc => by
    rw [List.flatMap_cons, List.append_assoc] at h
    unfold chkT at hc
    split at hc
    · exact absurd hc (by decide)
    rename_i ht
    obtain ⟨h1, h2⟩ := tyAt_at h ht
    obtain ⟨h3, h4⟩ := tys_at l (k + 4) (i + 1) r h2 hc
    refine ⟨?_, ?_⟩
    · rw [List.length_cons, tys, h1]
      show (tys b (k + 4) (i + 1) l.length).bind _ = _
      rw [h3]
      rfl
    · rw [List.length_cons, Nat.mul_succ, show k + (4 * l.length + 4) = k + 4 + 4 * l.length by omega]
      exact h4
/-- a header that is written is read -/
theorem hdEnd_at {b r cs ss : List Nat} {k n : Nat} (h : b.drop k = dig 2 n ++ (dig 1 0 ++ r)) (hn : n < 65536) : hdEnd b k cs ss = .ok ⟨cs, ss, n, k + 3⟩ ∧ b.drop (k + 3) = r := by
  obtain ⟨h1, h2⟩ := fld_at (why := 0) (p := fun _ => true) h (by omega) (by omega) rfl
  obtain ⟨h3, h4⟩ := fld_at (why := 53) (p := fun n => n == 0) h2 (by omega) (by omega) rfl
  refine ⟨?_, h4⟩
  unfold hdEnd
  rw [h1]
  show (fld b (k + 2) 1 53 _).bind _ = _
  rw [h3]
  rfl
theorem hdSubs_at {b r cs ss : List Nat} {k n : Nat} (h : b.drop k = dig 2 ss.length ++ (ss.flatMap (dig 4) ++ (dig 1 255 ++ (dig 2 n ++ (dig 1 0 ++ r))))) (hn : n < 65536) (h0 : 0 < ss.length) (h1 : ss.length ≤ 256) (hs : ∀ x ∈ ss, 0 < x ∧ x < 256 ^ 4) : hdSubs b k cs = .ok ⟨cs, ss, n, k + 2 + 4 * ss.length + 1 + 3⟩ ∧ b.drop (k + 2 + 4 * ss.length + 1 + 3) = r := by
  obtain ⟨a1, a2⟩ := fld_at (why := 57) (p := pS) h (by omega) (by omega) (by unfold pS; simp; omega)
  obtain ⟨a3, a4⟩ := lens_at (by omega) ss (k + 2) _ a2 hs
  obtain ⟨a5, a6⟩ := fld_at (why := 53) (p := fun n => n == 255) a4 (by omega) (by omega) rfl
  obtain ⟨a7, a8⟩ := hdEnd_at (cs := cs) (ss := ss) a6 hn
  refine ⟨?_, a8⟩
  unfold hdSubs
  rw [a1]
  show (lens b 4 (k + 2) ss.length).bind _ = _
  rw [a3]
  show (fld b _ 1 53 _).bind _ = _
  rw [a5]
  exact a7
theorem hdr_at {r cs ss : List Nat} {n : Nat} (hn : n < 65536) (c0 : 0 < cs.length) (c1 : cs.length ≤ 1024) (hc : ∀ x ∈ cs, 0 < x ∧ x < 256 ^ 2) (s1 : ss.length ≤ 256) (hs : ∀ x ∈ ss, 0 < x ∧ x < 256 ^ 4) : hdr (hd cs ss n ++ r) = .ok ⟨cs, ss, n, (hd cs ss n).length⟩ := by
  generalize hb : hd cs ss n ++ r = b
  have h0 : b.drop 0 = dig 1 239 ++ (dig 1 0 ++ (dig 1 1 ++ (dig 1 1 ++ (dig 2 (4 * cs.length) ++ (dig 1 2 ++ (dig 2 cs.length ++ (cs.flatMap (dig 2) ++ ((if ss.length = 0 then [] else [3] ++ dig 2 ss.length ++ ss.flatMap (dig 4)) ++ (dig 1 255 ++ (dig 2 n ++ (dig 1 0 ++ r))))))))))) := by
    rw [← hb, List.drop_zero]
    simp [hd, dig]
  obtain ⟨a1, b1⟩ := fld_at (why := 51) (p := fun n => n == 239) h0 (by omega) (by omega) rfl
  obtain ⟨a2, b2⟩ := fld_at (why := 51) (p := fun n => n == 0) b1 (by omega) (by omega) rfl
  obtain ⟨a3, b3⟩ := fld_at (why := 52) (p := fun n => n == 1) b2 (by omega) (by omega) rfl
  obtain ⟨a4, b4⟩ := fld_at (why := 53) (p := fun n => n == 1) b3 (by omega) (by omega) rfl
  obtain ⟨a5, b5⟩ := fld_at (why := 54) (p := pT) b4 (by omega) (by omega) (by unfold pT; simp; omega)
  obtain ⟨a6, b6⟩ := fld_at (why := 53) (p := fun n => n == 2) b5 (by omega) (by omega) rfl
  obtain ⟨a7, b7⟩ := fld_at (why := 55) (p := fun m => m == 4 * cs.length / 4) b6 (by omega) (by omega) (by simp)
  obtain ⟨a8, b8⟩ := lens_at (by omega) cs _ _ b7 hc
  have key : hdKind b (9 + 2 * cs.length) cs = .ok ⟨cs, ss, n, (hd cs ss n).length⟩ := by
    rw [hd_len]
    unfold hdKind
    have b8' : b.drop (9 + 2 * cs.length) = _ := b8
    by_cases e : ss.length = 0
    · rw [if_pos e, List.nil_append] at b8'
      have e' : ss = [] := List.eq_nil_of_length_eq_zero e
      obtain ⟨a9, b9⟩ := fld_at (why := 53) (p := pK) b8' (by omega) (by omega) rfl
      obtain ⟨a10, _⟩ := hdEnd_at (cs := cs) (ss := []) b9 hn
      rw [a9]
      show (if (255 : Nat) = 3 then hdSubs b (9 + 2 * cs.length + 1) cs else hdEnd b (9 + 2 * cs.length + 1) cs []) = _
      rw [if_neg (by omega), a10, if_pos e, e']
      simp only [Except.ok.injEq, Hd.mk.injEq, true_and]
      omega
    · rw [if_neg e] at b8'
      rw [List.append_assoc, List.append_assoc] at b8'
      obtain ⟨a9, b9⟩ := fld_at (n := 3) (w := 1) (why := 53) (p := pK) b8' (by omega) (by omega) rfl
      obtain ⟨a10, _⟩ := hdSubs_at (cs := cs) b9 hn (by omega) s1 hs
      rw [a9]
      show (if (3 : Nat) = 3 then hdSubs b (9 + 2 * cs.length + 1) cs else hdEnd b (9 + 2 * cs.length + 1) cs []) = _
      rw [if_pos rfl, a10, if_neg e]
      simp only [Except.ok.injEq, Hd.mk.injEq, true_and]
      omega
  unfold hdr
  rw [a1]
  show (fld b 1 1 51 _).bind _ = _
  have a2' : fld b 1 1 51 (fun n => n == 0) = .ok 0 := a2
  rw [a2']
  show (fld b 2 1 52 _).bind _ = _
  have a3' : fld b 2 1 52 (fun n => n == 1) = .ok 1 := a3
  rw [a3']
  show (fld b 3 1 53 _).bind _ = _
  have a4' : fld b 3 1 53 (fun n => n == 1) = .ok 1 := a4
  rw [a4']
  show (fld b 4 2 54 _).bind _ = _
  have a5' : fld b 4 2 54 pT = .ok (4 * cs.length) := a5
  rw [a5']
  show (fld b 6 1 53 _).bind _ = _
  have a6' : fld b 6 1 53 (fun n => n == 2) = .ok 2 := a6
  rw [a6']
  show (fld b 7 2 55 _).bind _ = _
  have a7' : fld b 7 2 55 (fun m => m == 4 * cs.length / 4) = .ok cs.length := a7
  rw [a7']
  show (lens b 2 9 cs.length).bind _ = _
  have a8' : lens b 2 9 cs.length = .ok cs := a8
  rw [a8']
  exact key
theorem lns_pos {m : Nat} {l : List (List Nat)} (h : chkP m l = 0) : ∀ x ∈ lns l, 0 < x ∧ x < m + 1 := by
  intro x hx
  obtain ⟨y, hy, rfl⟩ := List.mem_map.1 hx
  have := chkP_ok m l h y hy
  omega
/-- 5.5: what is written is read as what it was -/
theorem prs_ser {c : Con} (h : May c) (opn : Bool) (ho : opn = false → (c.d.length : Int) = c.n) : prs (ser c) opn = .ok c := by
  have z1 := h.z1
  have z2 := h.z2
  have e1 : ser c = hd (lns c.cs) (lns c.ss) c.n.toNat ++ (c.ts.flatMap tyb ++ (c.cs.flatten ++ (c.ss.flatten ++ c.d))) := by
    unfold ser
    simp only [List.append_assoc]
  have e2 := hdr_at (r := c.ts.flatMap tyb ++ (c.cs.flatten ++ (c.ss.flatten ++ c.d))) (n := c.n.toNat) (cs := lns c.cs) (ss := lns c.ss) (by omega) (by rw [lns_len]; exact h.n1) (by rw [lns_len]; exact h.n2) (lns_pos h.pc) (by rw [lns_len]; exact h.ns) (lns_pos h.ps)
  rw [← e1] at e2
  have d0 : (ser c).drop (hd (lns c.cs) (lns c.ss) c.n.toNat).length = c.ts.flatMap tyb ++ (c.cs.flatten ++ (c.ss.flatten ++ c.d)) := by rw [e1, List.drop_left]
  obtain ⟨t1, d1⟩ := tys_at c.ts _ 0 _ d0 h.ty
  obtain ⟨t2, d2⟩ := cuts_at c.cs _ _ d1
  obtain ⟨t3, d3⟩ := cuts_at c.ss _ _ d2
  have hl := ser_len h
  unfold prs
  rw [e2]
  simp only [Except.bind]
  rw [h.nt] at t1 t2 t3 d3
  rw [lns_len] at hl ⊢
  rw [if_neg (by
    split
    · omega
    · rename_i e
      have := ho (by simpa using e)
      omega), if_neg (by omega), t1]
  simp only
  rw [t2, t3, d3, Int.toNat_of_nonneg (by omega)]
end Go.Proofs.Ytndhabhlajldeaa
/- What Parse takes is a container that may be, and its bytes are those that were read. -/
namespace Go.Proofs.Ytndhabhlajldeaa
theorem bind_ok {α β : Type} {x : Except Er α} {f : α → Except Er β} {y : β} (h : x.bind f = .ok y) : ∃ a, x = .ok a ∧ f a = .ok y := by
  cases x with
  | error e => cases h
  | ok a => exact ⟨a, rfl, h⟩
theorem byt_drop {b : List Nat} (h : Byt b) (k : Nat) : Byt (b.drop k) := fun x hx => h x (List.mem_of_mem_drop hx)
theorem byt_take {b : List Nat} (h : Byt b) (k : Nat) : Byt (b.take k) := fun x hx => h x (List.mem_of_mem_take hx)
theorem fld_was {b : List Nat} {k w n why : Nat} {p : Nat → Bool} (hb : Byt b) (h : fld b k w why p = .ok n) : b.drop k = dig w n ++ b.drop (k + w) ∧ n < 256 ^ w ∧ p n = true ∧ k + w ≤ b.length := by
  unfold fld at h
  split at h
  · cases h
  rename_i h1
  split at h
  · rename_i h2
    injection h with h
    have hl : ((b.drop k).take w).length = w := by rw [List.length_take, List.length_drop]; omega
    have hy : Byt ((b.drop k).take w) := byt_take (byt_drop hb k) w
    have h3 := num_lt _ hy
    rw [hl] at h3
    have h4 := dig_num w _ hl hy
    unfold rd at h h2
    rw [h] at h2 h3 h4
    refine ⟨?_, h3, h2, by omega⟩
    rw [h4, ← List.drop_drop, List.take_append_drop]
  · cases h
theorem lens_ok {b : List Nat} {w : Nat} (hb : Byt b) : ∀ (m k : Nat) (l : List Nat), lens b w k m = .ok l → l.length = m ∧ b.drop k = l.flatMap (dig w) ++ b.drop (k + w * m) ∧ ∀ x ∈ l, 0 < x ∧ x < 256 ^ w
  | 0, k, l, h => by
    injection h with h
    subst h
    exact ⟨rfl, by simp, fun x hx => by cases hx⟩
  | m + 1, k, l, h => by
    rw [lens] at h
    obtain ⟨n, h1, h⟩ := bind_ok h
    obtain ⟨r, h2, h⟩ := bind_ok h
    injection h with h
    subst h
    obtain ⟨a1, a2, a3, _⟩ := fld_was hb h1
    obtain ⟨b1, b2, b3⟩ := lens_ok hb m (k + w) r h2
    refine ⟨by rw [List.length_cons, b1], ?_, ?_⟩
    · rw [a1, b2, List.flatMap_cons, List.append_assoc, Nat.mul_succ, show k + (w * m + w) = k + w + w * m by omega]
    · intro x hx
      rcases List.mem_cons.1 hx with rfl | hx
      · exact ⟨by simpa using a3, a2⟩
      · exact b3 x hx
theorem tyAt_ok {b : List Nat} (hb : Byt b) {k i : Nat} {t : Ty} (h : tyAt b k i = .ok t) : b.drop k = tyb t ++ b.drop (k + 4) ∧ ¬ tyBad i t < 3 := by
  unfold tyAt at h
  obtain ⟨x, h1, h⟩ := bind_ok h
  obtain ⟨y, h2, h⟩ := bind_ok h
  obtain ⟨z, h3, h⟩ := bind_ok h
  injection h with h
  subst h
  obtain ⟨a1, _, a3, _⟩ := fld_was hb h1
  obtain ⟨b1, _, b3, _⟩ := fld_was hb h2
  obtain ⟨c1, _, c3, _⟩ := fld_was hb h3
  refine ⟨?_, parts_ty a3 b3 c3⟩
  rw [a1, b1]
  show _ ++ (_ ++ b.drop (k + 2)) = _
  rw [c1]
  unfold tyb
  simp only [Int.toNat_natCast, List.append_assoc]
theorem tys_ok {b : List Nat} (hb : Byt b) : ∀ (m k i : Nat) (l : List Ty), tys b k i m = .ok l → l.length = m ∧ b.drop k = l.flatMap tyb ++ b.drop (k + 4 * m) ∧ chkT i l = 0
  | 0, k, i, l, h => by
    injection h with h
    subst h
    exact ⟨rfl, by simp, rfl⟩
  | m + 1, k, i, l, h => by
    rw [tys] at h
    obtain ⟨t, h1, h⟩ := bind_ok h
    obtain ⟨r, h2, h⟩ := bind_ok h
    injection h with h
    subst h
    obtain ⟨a1, a2⟩ := tyAt_ok hb h1
    obtain ⟨b1, b2, b3⟩ := tys_ok hb m (k + 4) (i + 1) r h2
    refine ⟨by rw [List.length_cons, b1], ?_, ?_⟩
    · rw [a1, b2, List.flatMap_cons, List.append_assoc, Nat.mul_succ, show k + (4 * m + 4) = k + 4 + 4 * m by omega]
    · unfold chkT
      rw [if_neg a2]
      exact b3
theorem cuts_ok {b : List Nat} : ∀ (l : List Nat) (k : Nat), k + sumL l ≤ b.length → lns (cuts b k l) = l ∧ b.drop k = (cuts b k l).flatten ++ b.drop (k + sumL l)
  | [], k, _ => ⟨rfl, by simp [cuts, sumL]⟩
  | n :: l, k, h => by
    rw [sumL_cons] at h
    obtain ⟨h1, h2⟩ := cuts_ok (b := b) l (k + n) (by omega)
    refine ⟨?_, ?_⟩
    · show ((b.drop k).take n).length :: lns (cuts b (k + n) l) = _
      rw [h1, List.length_take, List.length_drop, Nat.min_eq_left (by omega)]
    · show _ = ((b.drop k).take n :: cuts b (k + n) l).flatten ++ _
      rw [List.flatten_cons, List.append_assoc, sumL_cons, ← Nat.add_assoc, ← h2, ← List.drop_drop, List.take_append_drop]
theorem chkP_of {m : Nat} : ∀ l : List (List Nat), (∀ x ∈ lns l, 0 < x ∧ x ≤ m) → chkP m l = 0
  | [], _ => rfl
  | x :: l, h => by
    have h1 := h x.length (List.mem_cons_self ..)
    unfold chkP
    rw [if_neg (by omega), if_neg (by omega)]
    exact chkP_of l fun y hy => h y (List.mem_cons_of_mem _ hy)
/-- what a header that is taken says -/
structure HdIs (b : List Nat) (h : Hd) : Prop where
  eq : b = hd h.cs h.ss h.d ++ b.drop h.e
  e : h.e = (hd h.cs h.ss h.d).length
  c0 : 0 < h.cs.length
  c1 : h.cs.length ≤ 1024
  hc : ∀ x ∈ h.cs, 0 < x ∧ x < 256 ^ 2
  s1 : h.ss.length ≤ 256
  hs : ∀ x ∈ h.ss, 0 < x ∧ x < 256 ^ 4
  hd : h.d < 65536
theorem hdEnd_ok {b : List Nat} (hb : Byt b) {k : Nat} {cs ss : List Nat} {h : Hd} (g : hdEnd b k cs ss = .ok h) : h.cs = cs ∧ h.ss = ss ∧ h.e = k + 3 ∧ h.d < 65536 ∧ b.drop k = dig 2 h.d ++ (dig 1 0 ++ b.drop (k + 3)) := by
  unfold hdEnd at g
  obtain ⟨d, h1, g⟩ := bind_ok g
  obtain ⟨z, h2, g⟩ := bind_ok g
  injection g with g
  subst g
  obtain ⟨a1, a2, _, _⟩ := fld_was hb h1
  obtain ⟨b1, _, b3, _⟩ := fld_was hb h2
  have hz : z = 0 := by simpa using b3
  subst hz
  exact ⟨rfl, rfl, rfl, a2, by rw [a1, b1]⟩
theorem hdSubs_ok {b : List Nat} (hb : Byt b) {k : Nat} {cs : List Nat} {h : Hd} (g : hdSubs b k cs = .ok h) : h.cs = cs ∧ 0 < h.ss.length ∧ h.ss.length ≤ 256 ∧ (∀ x ∈ h.ss, 0 < x ∧ x < 256 ^ 4) ∧ h.e = k + 2 + 4 * h.ss.length + 1 + 3 ∧ h.d < 65536 ∧ b.drop k = dig 2 h.ss.length ++ (h.ss.flatMap (dig 4) ++ (dig 1 255 ++ (dig 2 h.d ++ (dig 1 0 ++ b.drop h.e)))) := by
  unfold hdSubs at g
  obtain ⟨s, h1, g⟩ := bind_ok g
  obtain ⟨ss, h2, g⟩ := bind_ok g
  obtain ⟨z, h3, g⟩ := bind_ok g
  obtain ⟨e1, e2, e3, e4, e5⟩ := hdEnd_ok hb g
  obtain ⟨a1, _, a3, _⟩ := fld_was hb h1
  obtain ⟨b1, b2, b3⟩ := lens_ok hb _ _ _ h2
  obtain ⟨c1, _, c3, _⟩ := fld_was hb h3
  have hz : z = 255 := by simpa using c3
  subst hz
  subst b1
  subst e2
  unfold pS at a3
  simp at a3
  refine ⟨e1, by omega, by omega, b3, e3, e4, ?_⟩
  rw [e3, a1, b2, c1, e5]
theorem hdr_ok {b : List Nat} (hb : Byt b) {h : Hd} (g : hdr b = .ok h) : HdIs b h := by
  unfold hdr at g
  obtain ⟨x0, h0, g⟩ := bind_ok g
  obtain ⟨x1, h1, g⟩ := bind_ok g
  obtain ⟨x2, h2, g⟩ := bind_ok g
  obtain ⟨x3, h3, g⟩ := bind_ok g
  obtain ⟨t, h4, g⟩ := bind_ok g
  obtain ⟨x5, h5, g⟩ := bind_ok g
  obtain ⟨m, h6, g⟩ := bind_ok g
  obtain ⟨cs, h7, g⟩ := bind_ok g
  obtain ⟨a0, _, p0, _⟩ := fld_was hb h0
  obtain ⟨a1, _, p1, _⟩ := fld_was hb h1
  obtain ⟨a2, _, p2, _⟩ := fld_was hb h2
  obtain ⟨a3, _, p3, _⟩ := fld_was hb h3
  obtain ⟨a4, _, p4, _⟩ := fld_was hb h4
  obtain ⟨a5, _, p5, _⟩ := fld_was hb h5
  obtain ⟨a6, _, p6, _⟩ := fld_was hb h6
  obtain ⟨l7, a7, p7⟩ := lens_ok hb _ _ _ h7
  have q0 : x0 = 239 := by simpa using p0
  have q1 : x1 = 0 := by simpa using p1
  have q2 : x2 = 1 := by simpa using p2
  have q3 : x3 = 1 := by simpa using p3
  have q5 : x5 = 2 := by simpa using p5
  have q6 : m = t / 4 := by simpa using p6
  unfold pT at p4
  simp at p4
  have q4 : t = 4 * cs.length := by omega
  have l8 : cs.length = m := l7
  subst q0 q1 q2 q3 q5
  have hall : b = [239, 0, 1] ++ ([1] ++ dig 2 (4 * cs.length)) ++ ([2] ++ dig 2 cs.length ++ cs.flatMap (dig 2)) ++ b.drop (9 + 2 * cs.length) := by
    have e : b = b.drop 0 := rfl
    have a1' : b.drop (0 + 1) = _ := a1
    have a2' : b.drop (0 + 1 + 1) = _ := a2
    have a3' : b.drop (0 + 1 + 1 + 1) = _ := a3
    rw [q4] at a4
    rw [← l8] at a6 a7
    have z : b = dig 1 239 ++ (dig 1 0 ++ (dig 1 1 ++ (dig 1 1 ++ (dig 2 (4 * cs.length) ++ (dig 1 2 ++ (dig 2 cs.length ++ (cs.flatMap (dig 2) ++ b.drop (9 + 2 * cs.length)))))))) := by
      rw [← a7, ← show b.drop 7 = _ from a6, ← show b.drop 6 = _ from a5, ← show b.drop 4 = _ from a4, ← show b.drop 3 = _ from a3, ← show b.drop 2 = _ from a2, ← show b.drop 1 = _ from a1, ← show b.drop 0 = _ from a0]
      rfl
    refine z.trans ?_
    simp [dig]
  unfold hdKind at g
  obtain ⟨q, h8, g⟩ := bind_ok g
  obtain ⟨a8, _, p8, _⟩ := fld_was hb h8
  rw [← l8] at g a8
  split at g
  · rename_i e
    subst e
    obtain ⟨e1, e2, e3, e4, e5, e6, e7⟩ := hdSubs_ok hb g
    subst e1
    have w : b = hd h.cs h.ss h.d ++ b.drop h.e := by
      refine hall.trans ?_
      rw [a8, e7]
      unfold hd
      rw [if_neg (by omega)]
      simp [dig]
    refine ⟨w, ?_, by omega, by omega, p7, e3, e4, e6⟩
    rw [e5, hd_len, if_neg (by omega)]
    omega
  · rename_i e
    have q8 : q = 255 := by
      unfold pK at p8
      simp at p8
      omega
    subst q8
    obtain ⟨e1, e2, e3, e4, e5⟩ := hdEnd_ok hb g
    subst e1
    have w : b = hd h.cs h.ss h.d ++ b.drop h.e := by
      refine hall.trans ?_
      rw [a8, e5, e3]
      unfold hd
      rw [e2, if_pos (show ([] : List Nat).length = 0 from rfl)]
      simp [dig]
    refine ⟨w, ?_, by omega, by omega, p7, by rw [e2]; simp, by rw [e2]; simp, e4⟩
    rw [e3, hd_len, e2, if_pos (show ([] : List Nat).length = 0 from rfl)]
    omega
/-- 5.5: what is read is written as it was -/
theorem prs_ok {b : List Nat} (hb : Byt b) {opn : Bool} {c : Con} (g : prs b opn = .ok c) : May c ∧ ser c = b ∧ (opn = false → (c.d.length : Int) = c.n) := by
  unfold prs at g
  obtain ⟨h, g1, g⟩ := bind_ok g
  have H := hdr_ok hb g1
  simp only at g
  by_cases n1 : b.length < (if opn = true then h.e + 4 * h.cs.length + sumL h.cs + sumL h.ss else h.e + 4 * h.cs.length + sumL h.cs + sumL h.ss + h.d)
  · rw [if_pos n1] at g
    cases g
  rw [if_neg n1] at g
  by_cases n2 : h.e + 4 * h.cs.length + sumL h.cs + sumL h.ss + h.d < b.length
  · rw [if_pos n2] at g
    cases g
  rw [if_neg n2] at g
  obtain ⟨ts, g2, g⟩ := bind_ok g
  injection g with g
  obtain ⟨t1, t2, t3⟩ := tys_ok hb _ _ _ _ g2
  have n3 : h.e + 4 * h.cs.length + sumL h.cs + sumL h.ss ≤ b.length := by
    split at n1 <;> omega
  obtain ⟨u1, u2⟩ := cuts_ok (b := b) h.cs (h.e + 4 * h.cs.length) (by omega)
  obtain ⟨v1, v2⟩ := cuts_ok (b := b) h.ss (h.e + 4 * h.cs.length + sumL h.cs) (by omega)
  have lc : (cuts b (h.e + 4 * h.cs.length) h.cs).length = h.cs.length := by rw [← lns_len, u1]
  have ls : (cuts b (h.e + 4 * h.cs.length + sumL h.cs) h.ss).length = h.ss.length := by rw [← lns_len, v1]
  subst g
  have c0 := H.c0
  have c1 := H.c1
  have s1 := H.s1
  have hdl := H.hd
  refine ⟨⟨?_, ?_, ?_, ?_, ?_, ?_, ?_, ?_, t3⟩, ?_, ?_⟩
  · simp only; omega
  · simp only; omega
  · simp only; omega
  · simp only
    exact chkP_of _ fun x hx => by
      rw [u1] at hx
      have := H.hc x hx
      omega
  · simp only; omega
  · simp only
    exact chkP_of _ fun x hx => by
      rw [v1] at hx
      have := H.hs x hx
      omega
  · simp only; omega
  · simp only [List.length_drop]; omega
  · unfold ser
    simp only
    rw [u1, v1, Int.toNat_natCast, List.append_assoc, List.append_assoc, List.append_assoc, ← v2, ← u2, ← t2]
    exact H.eq.symm
  · intro e
    subst e
    simp only [List.length_drop]
    simp only [Bool.false_eq_true, if_false] at n1
    omega
end Go.Proofs.Ytndhabhlajldeaa
/- What a container's bytes must be, place by place (what a grammar's reader tests): prs takes just these. -/
namespace Go.Proofs.Ytndhabhlajldeaa
theorem fld_iff {b : List Nat} {k w why n : Nat} {p : Nat → Bool} : fld b k w why p = .ok n ↔ k + w ≤ b.length ∧ p n = true ∧ n = rd b k w := by
  unfold fld
  by_cases h1 : b.length < k + w
  · rw [if_pos h1]
    exact ⟨fun h => (by cases h), fun h => absurd h.1 (by omega)⟩
  · rw [if_neg h1]
    by_cases h2 : p (rd b k w) = true
    · rw [if_pos h2]
      exact ⟨fun h => (by cases h; exact ⟨by omega, h2, rfl⟩), fun h => (by rw [h.2.2])⟩
    · rw [if_neg h2]
      exact ⟨fun h => (by cases h), fun h => absurd (by rw [← h.2.2]; exact h.2.1) h2⟩
theorem bind_iff {α β : Type} {x : Except Er α} {f : α → Except Er β} {y : β} : x.bind f = .ok y ↔ ∃ a, x = .ok a ∧ f a = .ok y := by
  refine ⟨bind_ok, fun ⟨a, h1, h2⟩ => ?_⟩
  subst h1
  exact h2
theorem ok_iff {α : Type} {x y : α} : (Except.ok x : Except Er α) = .ok y ↔ x = y := ⟨fun h => by cases h; rfl, fun h => by rw [h]⟩
theorem range_cons {α : Type} (f : Nat → α) (m : Nat) : (List.range (m + 1)).map f = f 0 :: (List.range m).map fun i => f (i + 1) := by
  rw [List.range_succ_eq_map, List.map_cons, List.map_map]
  rfl
theorem lens_iff {b : List Nat} {w : Nat} : ∀ (m k : Nat) (l : List Nat), lens b w k m = .ok l ↔ l = (List.range m).map (fun i => rd b (k + w * i) w) ∧ (∀ i, i < m → 0 < rd b (k + w * i) w) ∧ (0 < m → k + w * m ≤ b.length)
  | 0, k, l => by
    unfold lens
    rw [ok_iff]
    exact ⟨fun h => ⟨h.symm, fun i hi => absurd hi (by omega), fun h => absurd h (by omega)⟩, fun h => h.1.symm⟩
  | m + 1, k, l => by
    unfold lens
    rw [bind_iff]
    have e : ∀ i, k + w * (i + 1) = k + w + w * i := fun i => by rw [Nat.mul_add]; omega
    constructor
    · rintro ⟨n, h1, h2⟩
      rw [fld_iff] at h1
      rw [bind_iff] at h2
      obtain ⟨r, h3, h4⟩ := h2
      obtain ⟨rfl, h5, h6⟩ := (lens_iff m (k + w) r).1 h3
      rw [ok_iff] at h4
      obtain ⟨q1, q2, q3⟩ := h1
      refine ⟨?_, fun i hi => ?_, fun _ => ?_⟩
      · rw [range_cons, ← h4, q3]
        simp only [e]
        rw [Nat.mul_zero, Nat.add_zero]
      · cases i with
        | zero => rw [Nat.mul_zero, Nat.add_zero, ← q3]; simpa using q2
        | succ i => rw [e]; exact h5 i (by omega)
      · rw [e]
        by_cases hm : 0 < m
        · exact h6 hm
        · have : m = 0 := by omega
          subst this
          omega
    · rintro ⟨h1, h2, h3⟩
      have h0 := h2 0 (by omega)
      rw [Nat.mul_zero, Nat.add_zero] at h0
      have hL := h3 (by omega)
      rw [e] at hL
      refine ⟨rd b k w, fld_iff.2 ⟨by omega, by simpa using h0, rfl⟩, ?_⟩
      rw [bind_iff]
      refine ⟨_, (lens_iff m (k + w) _).2 ⟨rfl, fun i hi => by rw [← e]; exact h2 (i + 1) (by omega), fun _ => hL⟩, ?_⟩
      rw [ok_iff, h1, range_cons]
      simp only [e]
      rw [Nat.mul_zero, Nat.add_zero]
/-- the three numbers of the type at a place -/
def tyOf (b : List Nat) (k : Nat) : Ty := ((rd b k 1 : Int), (rd b (k + 1) 1 : Int), (rd b (k + 2) 2 : Int))
def tyFine (b : List Nat) (k i : Nat) : Prop := okIn i (rd b k 1 : Int) = true ∧ okOut i (rd b (k + 1) 1 : Int) = true ∧ okMost (rd b (k + 2) 2 : Int) = true
theorem tyAt_iff {b : List Nat} {k i : Nat} {t : Ty} : tyAt b k i = .ok t ↔ k + 4 ≤ b.length ∧ tyFine b k i ∧ t = tyOf b k := by
  unfold tyAt tyFine tyOf
  constructor
  · intro h
    obtain ⟨x, h1, h⟩ := bind_iff.1 h
    obtain ⟨y, h2, h⟩ := bind_iff.1 h
    obtain ⟨z, h3, h⟩ := bind_iff.1 h
    obtain ⟨a1, a2, rfl⟩ := fld_iff.1 h1
    obtain ⟨c1, c2, rfl⟩ := fld_iff.1 h2
    obtain ⟨d1, d2, rfl⟩ := fld_iff.1 h3
    exact ⟨by omega, ⟨a2, c2, d2⟩, (ok_iff.1 h).symm⟩
  · rintro ⟨h0, ⟨h1, h2, h3⟩, rfl⟩
    exact bind_iff.2 ⟨_, fld_iff.2 ⟨by omega, h1, rfl⟩, bind_iff.2 ⟨_, fld_iff.2 ⟨by omega, h2, rfl⟩, bind_iff.2 ⟨_, fld_iff.2 ⟨by omega, h3, rfl⟩, rfl⟩⟩⟩
theorem tys_iff {b : List Nat} : ∀ (m k i : Nat) (l : List Ty), tys b k i m = .ok l ↔ l = (List.range m).map (fun j => tyOf b (k + 4 * j)) ∧ (∀ j, j < m → tyFine b (k + 4 * j) (i + j)) ∧ (0 < m → k + 4 * m ≤ b.length)
  | 0, k, i, l => by
    unfold tys
    rw [ok_iff]
    exact ⟨fun h => ⟨h.symm, fun j hj => absurd hj (by omega), fun h => absurd h (by omega)⟩, fun h => h.1.symm⟩
  | m + 1, k, i, l => by
    unfold tys
    rw [bind_iff]
    have e : ∀ j, k + 4 * (j + 1) = k + 4 + 4 * j := fun j => by omega
    have e2 : ∀ j, i + (j + 1) = i + 1 + j := fun j => by omega
    constructor
    · rintro ⟨t, h1, h2⟩
      obtain ⟨q1, q2, rfl⟩ := tyAt_iff.1 h1
      obtain ⟨r, h3, h4⟩ := bind_iff.1 h2
      obtain ⟨rfl, h5, h6⟩ := (tys_iff m (k + 4) (i + 1) r).1 h3
      rw [ok_iff] at h4
      refine ⟨?_, fun j hj => ?_, fun _ => ?_⟩
      · rw [range_cons, ← h4]
        simp only [e]
        rfl
      · cases j with
        | zero => rw [Nat.mul_zero, Nat.add_zero, Nat.add_zero]; exact q2
        | succ j => rw [e, e2]; exact h5 j (by omega)
      · rw [e]
        by_cases hm : 0 < m
        · exact h6 hm
        · have : m = 0 := by omega
          subst this
          omega
    · rintro ⟨h1, h2, h3⟩
      have h0 := h2 0 (by omega)
      rw [Nat.mul_zero, Nat.add_zero, Nat.add_zero] at h0
      have hL := h3 (by omega)
      rw [e] at hL
      refine ⟨_, tyAt_iff.2 ⟨by omega, h0, rfl⟩, bind_iff.2 ⟨_, (tys_iff m (k + 4) (i + 1) _).2 ⟨rfl, fun j hj => by rw [← e, ← e2]; exact h2 (j + 1) (by omega), fun _ => hL⟩, ?_⟩⟩
      rw [ok_iff, h1, range_cons]
      simp only [e]
      rfl
/-- what the grammar reads: sections, the kind's place, nested containers, the closing part's place, the declared length, lengths, types' place, data's place -/
def gN (b : List Nat) : Nat := rd b 7 2
def gA (b : List Nat) : Nat := 9 + 2 * gN b
def gM (b : List Nat) : Nat := if rd b (gA b) 1 = 3 then rd b (gA b + 1) 2 else 0
def gE (b : List Nat) : Nat := if rd b (gA b) 1 = 3 then gA b + 3 + 4 * gM b else gA b
def gD (b : List Nat) : Nat := rd b (gE b + 1) 2
def gCs (b : List Nat) : List Nat := (List.range (gN b)).map fun i => rd b (9 + 2 * i) 2
def gSs (b : List Nat) : List Nat := (List.range (gM b)).map fun i => rd b (gA b + 3 + 4 * i) 4
def gP (b : List Nat) : Nat := gE b + 4 + 4 * gN b + sumL (gCs b) + sumL (gSs b)
/-- the container that these bytes are -/
def gC (b : List Nat) : Con := ⟨(List.range (gN b)).map fun j => tyOf b (gE b + 4 + 4 * j), cuts b (gE b + 4 + 4 * gN b) (gCs b), cuts b (gE b + 4 + 4 * gN b + sumL (gCs b)) (gSs b), b.drop (gP b), (gD b : Int)⟩
structure GrH (b : List Nat) : Prop where
  f0 : rd b 0 1 = 239
  f1 : rd b 1 1 = 0
  f2 : rd b 2 1 = 1
  f3 : rd b 3 1 = 1
  f6 : rd b 6 1 = 2
  n1 : 1 ≤ gN b
  n2 : gN b ≤ 1024
  n4 : rd b 4 2 = 4 * gN b
  m1 : rd b (gA b) 1 = 3 → 1 ≤ gM b ∧ gM b ≤ 256
  e1 : rd b (gE b) 1 = 255
  e3 : rd b (gE b + 3) 1 = 0
  le : gE b + 4 ≤ b.length
  c : ∀ i, i < gN b → 0 < rd b (9 + 2 * i) 2
  s : ∀ i, i < gM b → 0 < rd b (gA b + 3 + 4 * i) 4
theorem hdr_gram {b : List Nat} {h : Hd} : hdr b = .ok h ↔ GrH b ∧ h = ⟨gCs b, gSs b, gD b, gE b + 4⟩ := by
  constructor
  · intro g
    unfold hdr at g
    obtain ⟨x0, g0, g⟩ := bind_iff.1 g
    obtain ⟨x1, g1, g⟩ := bind_iff.1 g
    obtain ⟨x2, g2, g⟩ := bind_iff.1 g
    obtain ⟨x3, g3, g⟩ := bind_iff.1 g
    obtain ⟨t, g4, g⟩ := bind_iff.1 g
    obtain ⟨x6, g6, g⟩ := bind_iff.1 g
    obtain ⟨m, g7, g⟩ := bind_iff.1 g
    obtain ⟨cs, g8, g⟩ := bind_iff.1 g
    obtain ⟨_, p0, rfl⟩ := fld_iff.1 g0
    obtain ⟨_, p1, rfl⟩ := fld_iff.1 g1
    obtain ⟨_, p2, rfl⟩ := fld_iff.1 g2
    obtain ⟨_, p3, rfl⟩ := fld_iff.1 g3
    obtain ⟨_, p4, rfl⟩ := fld_iff.1 g4
    obtain ⟨_, p6, rfl⟩ := fld_iff.1 g6
    obtain ⟨l7, p7, rfl⟩ := fld_iff.1 g7
    obtain ⟨rfl, p8, l8⟩ := (lens_iff _ _ _).1 g8
    unfold pT at p4
    simp at p0 p1 p2 p3 p4 p6 p7
    have hn1 : 1 ≤ gN b := by unfold gN; omega
    have hn2 : gN b ≤ 1024 := by unfold gN; omega
    have hn4 : rd b 4 2 = 4 * gN b := by unfold gN; omega
    unfold hdKind at g
    obtain ⟨q, g9, g⟩ := bind_iff.1 g
    obtain ⟨l9, p9, rfl⟩ := fld_iff.1 g9
    unfold pK at p9
    simp at p9
    by_cases e3 : rd b (9 + 2 * rd b 7 2) 1 = 3
    · rw [if_pos e3] at g
      have eA : rd b (gA b) 1 = 3 := e3
      have eM : gM b = rd b (gA b + 1) 2 := by unfold gM; rw [if_pos eA]
      have eE : gE b = gA b + 3 + 4 * gM b := by unfold gE; rw [if_pos eA]
      unfold hdSubs at g
      obtain ⟨s, ga, g⟩ := bind_iff.1 g
      obtain ⟨ss, gb, g⟩ := bind_iff.1 g
      obtain ⟨x, gc, g⟩ := bind_iff.1 g
      obtain ⟨_, pa, hs⟩ := fld_iff.1 ga
      obtain ⟨hss, pb, _⟩ := (lens_iff _ _ _).1 gb
      obtain ⟨_, pc, hx⟩ := fld_iff.1 gc
      unfold hdEnd at g
      obtain ⟨d, gd, g⟩ := bind_iff.1 g
      obtain ⟨z, ge, g⟩ := bind_iff.1 g
      obtain ⟨_, _, hd⟩ := fld_iff.1 gd
      obtain ⟨le, pe, hz⟩ := fld_iff.1 ge
      rw [ok_iff] at g
      have hs' : s = gM b := by rw [hs, eM]; rfl
      rw [hs'] at hss pb hx hd hz le g gb
      have k1 : 9 + 2 * rd b 7 2 + 1 + 2 + 4 * gM b = gE b := by rw [eE]; show _ = 9 + 2 * gN b + 3 + 4 * gM b; unfold gN; omega
      rw [k1] at hx hd hz le g
      unfold pS at pa
      simp at pa pc pe
      refine ⟨⟨by simpa using p0, by simpa using p1, by simpa using p2, by simpa using p3, by simpa using p6, hn1, hn2, hn4, fun _ => by omega, by rw [← hx]; exact pc, by rw [show gE b + 3 = gE b + 1 + 2 by omega, ← hz]; exact pe, by omega, p8, pb⟩, ?_⟩
      rw [← g, hss, hd]
      rfl
    · rw [if_neg e3] at g
      have eA : ¬ rd b (gA b) 1 = 3 := e3
      have eM : gM b = 0 := by unfold gM; rw [if_neg eA]
      have eE : gE b = gA b := by unfold gE; rw [if_neg eA]
      unfold hdEnd at g
      obtain ⟨d, gd, g⟩ := bind_iff.1 g
      obtain ⟨z, ge, g⟩ := bind_iff.1 g
      obtain ⟨_, _, hd⟩ := fld_iff.1 gd
      obtain ⟨le, pe, hz⟩ := fld_iff.1 ge
      rw [ok_iff] at g
      have k1 : 9 + 2 * rd b 7 2 = gE b := by rw [eE]; rfl
      rw [k1] at hd hz le g p9 e3
      simp at pe
      refine ⟨⟨by simpa using p0, by simpa using p1, by simpa using p2, by simpa using p3, by simpa using p6, hn1, hn2, hn4, fun e => absurd e eA, by omega, by rw [show gE b + 3 = gE b + 1 + 2 by omega, ← hz]; exact pe, by omega, p8, fun i hi => absurd hi (by omega)⟩, ?_⟩
      rw [← g, hd]
      unfold gSs
      rw [eM]
      rfl
  · rintro ⟨G, rfl⟩
    have hle := G.le
    have hA : gA b ≤ gE b := by unfold gE; split <;> omega
    have h9 : 9 + 2 * gN b ≤ gE b := hA
    have hn1 := G.n1
    have hn2 := G.n2
    have hn4 := G.n4
    unfold hdr
    refine bind_iff.2 ⟨_, fld_iff.2 ⟨by omega, by rw [G.f0]; rfl, rfl⟩, bind_iff.2 ⟨_, fld_iff.2 ⟨by omega, by rw [G.f1]; rfl, rfl⟩, bind_iff.2 ⟨_, fld_iff.2 ⟨by omega, by rw [G.f2]; rfl, rfl⟩, bind_iff.2 ⟨_, fld_iff.2 ⟨by omega, by rw [G.f3]; rfl, rfl⟩, bind_iff.2 ⟨_, fld_iff.2 ⟨by omega, ?_, rfl⟩, bind_iff.2 ⟨_, fld_iff.2 ⟨by omega, by rw [G.f6]; rfl, rfl⟩, bind_iff.2 ⟨gN b, fld_iff.2 ⟨by omega, ?_, rfl⟩, bind_iff.2 ⟨gCs b, (lens_iff _ _ _).2 ⟨rfl, G.c, fun _ => by omega⟩, ?_⟩⟩⟩⟩⟩⟩⟩⟩
    · unfold pT
      rw [hn4]
      simp
      omega
    · rw [hn4]
      simp
    · unfold hdKind
      by_cases e3 : rd b (gA b) 1 = 3
      · have eM : gM b = rd b (gA b + 1) 2 := by unfold gM; rw [if_pos e3]
        have eE : gE b = gA b + 3 + 4 * gM b := by unfold gE; rw [if_pos e3]
        have k1 : gA b + 1 + 2 + 4 * gM b = gE b := by omega
        obtain ⟨m1, m2⟩ := G.m1 e3
        refine bind_iff.2 ⟨3, fld_iff.2 ⟨by show gA b + 1 ≤ _; omega, rfl, e3.symm⟩, ?_⟩
        rw [if_pos rfl]
        unfold hdSubs
        refine bind_iff.2 ⟨gM b, fld_iff.2 ⟨by show gA b + 1 + 2 ≤ _; omega, by unfold pS; simp; omega, eM⟩, bind_iff.2 ⟨gSs b, (lens_iff _ _ _).2 ⟨rfl, G.s, fun _ => by show gA b + 1 + 2 + 4 * gM b ≤ _; omega⟩, ?_⟩⟩
        show ((fld b (gA b + 1 + 2 + 4 * gM b) 1 53 _).bind fun _ => hdEnd b (gA b + 1 + 2 + 4 * gM b + 1) _ _) = _
        rw [k1]
        refine bind_iff.2 ⟨_, fld_iff.2 ⟨by omega, by rw [G.e1]; rfl, rfl⟩, ?_⟩
        unfold hdEnd
        exact bind_iff.2 ⟨_, fld_iff.2 ⟨by omega, rfl, rfl⟩, bind_iff.2 ⟨_, fld_iff.2 ⟨by omega, by rw [show gE b + 1 + 2 = gE b + 3 by omega, G.e3]; rfl, rfl⟩, rfl⟩⟩
      · have eM : gM b = 0 := by unfold gM; rw [if_neg e3]
        have eE : gE b = gA b := by unfold gE; rw [if_neg e3]
        have he := G.e1
        rw [eE] at he
        refine bind_iff.2 ⟨255, fld_iff.2 ⟨by show gA b + 1 ≤ _; omega, rfl, he.symm⟩, ?_⟩
        rw [if_neg (by decide)]
        unfold hdEnd
        show ((fld b (gA b + 1) 2 0 _).bind fun d => (fld b (gA b + 1 + 2) 1 53 _).bind fun _ => _) = _
        rw [← eE]
        refine bind_iff.2 ⟨_, fld_iff.2 ⟨by omega, rfl, rfl⟩, bind_iff.2 ⟨_, fld_iff.2 ⟨by omega, by rw [show gE b + 1 + 2 = gE b + 3 by omega, G.e3]; rfl, rfl⟩, ?_⟩⟩
        unfold gSs
        rw [eM]
        show Except.ok (⟨gCs b, [], gD b, gA b + 1 + 3⟩ : Hd) = Except.ok ⟨gCs b, [], gD b, gE b + 4⟩
        rw [eE]
/-- the bytes that prs takes, place by place, and what they are -/
theorem prs_gram {b : List Nat} {opn : Bool} {c : Con} : prs b opn = .ok c ↔ GrH b ∧ gP b ≤ b.length ∧ b.length ≤ gP b + gD b ∧ (opn = false → b.length = gP b + gD b) ∧ (∀ j, j < gN b → tyFine b (gE b + 4 + 4 * j) j) ∧ c = gC b := by
  have lc : (gCs b).length = gN b := by unfold gCs; simp
  have e : ∀ (ts : List Ty), (Except.ok ⟨ts, cuts b (gE b + 4 + 4 * (gCs b).length) (gCs b), cuts b (gE b + 4 + 4 * (gCs b).length + sumL (gCs b)) (gSs b), b.drop (gE b + 4 + 4 * (gCs b).length + sumL (gCs b) + sumL (gSs b)), (gD b : Int)⟩ : Except Er Con) = .ok c ↔ (⟨ts, cuts b (gE b + 4 + 4 * gN b) (gCs b), cuts b (gE b + 4 + 4 * gN b + sumL (gCs b)) (gSs b), b.drop (gP b), (gD b : Int)⟩ : Con) = c := fun ts => by rw [ok_iff, lc]; rfl
  have eP : gE b + 4 + 4 * (gCs b).length + sumL (gCs b) + sumL (gSs b) = gP b := by rw [lc]; rfl
  unfold prs
  rw [bind_iff]
  constructor
  · rintro ⟨h, g, k⟩
    obtain ⟨G, rfl⟩ := hdr_gram.1 g
    simp only [eP] at k
    by_cases h1 : b.length < if opn = true then gP b else gP b + gD b
    · rw [if_pos h1] at k
      cases k
    · rw [if_neg h1] at k
      by_cases h2 : gP b + gD b < b.length
      · rw [if_pos h2] at k
        cases k
      · rw [if_neg h2] at k
        obtain ⟨ts, k1, k2⟩ := bind_iff.1 k
        rw [lc] at k1
        obtain ⟨rfl, k3, _⟩ := (tys_iff _ _ _ _).1 k1
        rw [← eP] at k2
        have k4 := (e _).1 k2
        refine ⟨G, ?_, by omega, fun ho => ?_, fun j hj => by have := k3 j hj; rwa [Nat.zero_add] at this, k4.symm⟩
        · split at h1 <;> omega
        · rw [if_neg (by rw [ho]; decide)] at h1
          omega
  · rintro ⟨G, h1, h2, h3, h4, rfl⟩
    refine ⟨_, hdr_gram.2 ⟨G, rfl⟩, ?_⟩
    simp only [eP]
    rw [if_neg (by
      split
      · omega
      · rename_i ho
        have := h3 (by simpa using ho)
        omega), if_neg (by omega)]
    refine bind_iff.2 ⟨_, (tys_iff _ _ _ _).2 ⟨rfl, fun j hj => by rw [Nat.zero_add]; exact h4 j (by rw [← lc]; exact hj), fun _ => ?_⟩, ?_⟩
    · rw [lc]
      unfold gP at h1
      omega
    · rw [← eP, e, lc]
      rfl
end Go.Proofs.Ytndhabhlajldeaa
/- Package container: the reader: giveUp, number, field. -/
namespace Go.Proofs.Ytndhabhlajldeaa
open Go.RowKit
def rejV (c a : Int) : Value := .agg #[.int .i64 c, .slice none 0 0, .int .i64 0, .int .i64 a]
/-- what is thrown -/
def thrown (c a : Int) : Ending := .panicked [{ v := .iface 47 (rejV c a), recovered := false }]
set_option maxHeartbeats 1000000 in
theorem giveUp_is (w : World) (c a : Int) : Calls Try.prog 98 #[.int .i64 c, .int .i64 a] w fun e w' => e = thrown c a ∧ w' = w := by
  go_enter Try.func98, Try.ntmps98
  go_wp2
  exact ⟨rfl, rfl, rfl⟩
/-- a reader: its box, the bytes that it goes through, where it stands -/
structure Rdr (W : World) (rb : Nat) (bs : Value) (b : List Nat) (k : Nat) : Prop where
  box : CBox W rb 81 [bs, .int .i64 (k : Int)]
  by' : BL (fun g => g < rb) W bs b
  byt : Byt b
  len : b.length ≤ 16777216
/-- only the reader's box has changed -/
abbrev RB (rb : Nat) (W W' : World) : Prop := But (fun g => g = rb) W W'
theorem Rdr.past {W W' : World} {rb : Nat} {bs : Value} {b : List Nat} {k : Nat} (h : Rdr W rb bs b k) (q : Below W.heap.size W W') : Rdr W' rb bs b k := ⟨h.box.past q, h.by'.past q, h.byt, h.len⟩
theorem Rdr.go {W : World} {rb : Nat} {bs : Value} {b : List Nat} {k : Nat} (h : Rdr W rb bs b k) (m : Nat) : Rdr (W.setCell ⟨rb, 1, none⟩ (.int .i64 (m : Int))) rb bs b m ∧ RB rb W (W.setCell ⟨rb, 1, none⟩ (.int .i64 (m : Int))) := by
  have hb : RB rb W (W.setCell ⟨rb, 1, none⟩ (.int .i64 (m : Int))) := (But.refl (fun g => g = rb) W).setCell ⟨rb, 1, none⟩ _ (Or.inl rfl)
  exact ⟨⟨h.box.set 1 _, h.by'.but hb (fun g hg e => by omega), h.byt, h.len⟩, hb⟩
theorem Rdr.keep {W W' : World} {rb : Nat} {bs : Value} {b : List Nat} {k : Nat} (h : Rdr W rb bs b k) {S : Nat → Prop} (q : But S W W') (hs : ∀ g, g ≤ rb → ¬ S g) : Rdr W' rb bs b k := ⟨h.box.but q (hs rb (Nat.le_refl _)), h.by'.but q (fun g hg => hs g (by omega)), h.byt, h.len⟩
/-- b[i:j] of bytes -/
theorem slice_ij (ad : Option Addr) (n cap i j : Nat) (hi : i ≤ j) (hj : j ≤ cap) (W : World) : Sem.run Try.prog (Instr.slice 22 (.slice ad n cap) (some (.int .i64 (i : Int))) (some (.int .i64 (j : Int))) none) W = .ok (.slice (if cap = i then ad else ad.map (·.add i)) (j - i) (cap - i)) W := by
  simp [Instr.slice, Instr.sliceBounds, run_underlying Try.underlying22, run_sliceBound W .i64 (i : Int) j _ (by omega) (by omega), run_sliceBound W .i64 (j : Int) cap _ (by omega) (by omega)]
theorem slice_i (ad : Option Addr) (n cap i : Nat) (hi : i ≤ n) (W : World) : Sem.run Try.prog (Instr.slice 22 (.slice ad n cap) (some (.int .i64 (i : Int))) none none) W = .ok (.slice (if cap = i then ad else ad.map (·.add i)) (n - i) (cap - i)) W := by
  simp [Instr.slice, Instr.sliceBounds, run_underlying Try.underlying22, run_sliceBound W .i64 (i : Int) n _ (by omega) (by omega)]
theorem BL.mid {P : Nat → Prop} {W : World} {ad : Option Addr} {cap : Nat} {l : List Nat} (h : BL P W (.slice ad l.length cap) l) (i j : Nat) (hi : i ≤ j) (hj : j ≤ l.length) : BL P W (.slice (if cap = i then ad else ad.map (·.add i)) (j - i) (cap - i)) ((l.drop i).take (j - i)) := by
  obtain ⟨_, ad', cap', e, h0, h1, hz, h2⟩ := h
  injection e with e1 _ e3
  subst e1 e3
  have hl : ((l.drop i).take (j - i)).length = j - i := by simp; omega
  refine ⟨by rw [bV_len, hl]; omega, _, _, by rw [hl], by rw [hl]; omega, by rw [hl]; omega, fun e => ?_, fun hn => ?_⟩
  · by_cases ec : cap = i
    · omega
    · rw [if_neg ec] at e
      cases ad with
      | none => have := hz rfl; omega
      | some a => cases e
  · rw [hl] at hn
    obtain ⟨g, a, rfl, hp, hg, h3⟩ := h2 (by omega)
    refine ⟨g, a + i, ?_, hp, hg, fun m c hc => ?_⟩
    · rw [if_neg (by omega)]
      show some ((⟨g, a, none⟩ : Addr).add i) = _
      rw [Addr.add_mid]
    · obtain ⟨x, hx, rfl⟩ := bV_inv hc
      have hx2 : l[i + m]? = some x := by
        rw [List.getElem?_take] at hx
        split at hx
        · rw [List.getElem?_drop] at hx; exact hx
        · cases hx
      rw [Nat.add_assoc]
      exact h3 (i + m) _ (bV_get hx2)
theorem rd_lt {b : List Nat} (hb : Byt b) (k wd : Nat) (hw : wd ≤ 8) : rd b k wd < 18446744073709551616 := by
  have h1 := num_lt ((b.drop k).take wd) (fun x hx => hb x (List.mem_of_mem_drop (List.mem_of_mem_take hx)))
  have h2 : ((b.drop k).take wd).length ≤ 8 := by simp; omega
  have h3 : 256 ^ ((b.drop k).take wd).length ≤ 256 ^ 8 := Nat.pow_le_pow_right (by omega) h2
  unfold rd
  have : (256 : Nat) ^ 8 = 18446744073709551616 := by decide
  omega
end Go.Proofs.Ytndhabhlajldeaa
/- Package container: the reader's number and field. -/
namespace Go.Proofs.Ytndhabhlajldeaa
open Go.RowKit
theorem or8 (n x : Nat) (hx : x < 256) (hn : 256 * n + x < 18446744073709551616) : bits .or .u64 ((n * 256 : Nat) : Int) (x : Int) = ((256 * n + x : Nat) : Int) := by
  have e : (BitVec.ofInt 64 ((n * 256 : Nat) : Int) ||| BitVec.ofInt 64 (x : Int)).toNat = 256 * n + x := by
    have e64 : (2 : Nat) ^ 64 = 18446744073709551616 := by decide
    have e8 : (2 : Nat) ^ 8 = 256 := by decide
    have h := Nat.shiftLeft_add_eq_or_of_lt (i := 8) (b := x) (by rw [e8]; exact hx) n
    rw [Nat.shiftLeft_eq, e8] at h
    rw [BitVec.toNat_or, BitVec.ofInt_natCast, BitVec.ofInt_natCast, BitVec.toNat_ofNat, BitVec.toNat_ofNat, e64, Nat.mod_eq_of_lt (by omega), Nat.mod_eq_of_lt (by omega), ← h]
    omega
  show IntKind.u64.wrap (((BitVec.ofInt 64 ((n * 256 : Nat) : Int) ||| BitVec.ofInt 64 (x : Int)).toNat : Nat) : Int) = _
  rw [e, IntKind.wrap_u64]
  omega
theorem num_le_take (l : List Nat) (i : Nat) (hb : Byt l) : num (l.take i) < 256 ^ i := by
  have h := num_lt (l.take i) (fun x hx => hb x (List.mem_of_mem_take hx))
  exact Nat.lt_of_lt_of_le h (Nat.pow_le_pow_right (by omega) (by simp; omega))
set_option maxHeartbeats 4000000 in
set_option maxRecDepth 100000 in
theorem number_cut (w : World) (rb : Nat) (bs : Value) (b : List Nat) (k wd : Nat) (h : Rdr w rb bs b k) (hk : k ≤ b.length) (hw : wd ≤ 8) (hc : b.length < k + wd) :
    Calls Try.prog 97 #[.pointer (some ⟨rb, 0, none⟩), .int .i64 (wd : Int)] w fun e w' => e = thrown 50 (b.length : Int) ∧ Below w.heap.size w w' := by
  obtain ⟨ad, cap, rfl, hc0, _⟩ := h.by'.len
  have HR : Hid (Rdr w rb (.slice ad b.length cap) b k) := h
  have n0 : Hid (b.length ≤ 16777216) := h.len
  generalize hn : b.length = n at *
  obtain ⟨m, hm⟩ : ∃ m : Nat, m = n - k := ⟨_, rfl⟩
  have r1 : (n : Int) - (k : Int) = (m : Int) := by omega
  have w1 : IntKind.i64.wrap (m : Int) = (m : Int) := by rw [IntKind.wrap_i64]; have := n0.out; omega
  have c1 : (m : Int) < (wd : Int) := by omega
  have dc : decide ((m : Int) < (wd : Int)) = true := by simp [c1]
  have nI : (n : Int) ≤ 16777216 := by have := n0.out; omega
  clear h hk hc hm hn hc0 hw
  go_enter Try.func97, Try.ntmps97
  go_upto_region 1 with fail
  refine wp_region_held_drew (S := fun V' => CBox V' rb 81 [.slice ad n cap, .int .i64 (k : Int)]) (by kernel_rfl) (HR.out.box.past below_drew) (fun hHeld => ?_)
  have B0 : Hid (Below w.heap.size w w.drew) := below_drew
  generalize w.drew = z0 at hHeld B0 ⊢
  refine wpAnyH_take (i := 0) (v := .pointer (some ⟨rb, 0, none⟩)) ov0 (by kernel_rfl) (by kernel_rfl) (by kernel_rfl) (fun _ _ _ h => h) (Or.inl ⟨by rfl, fun V' hS => ?_⟩) hHeld ?_
  · go_simp
  simp only [Act.put, List.setIfInBounds_toArray, List.set_cons_zero, List.set_cons_succ]
  refine wpAnyH_take (i := 1) (v := .pointer (some ⟨rb, 0, none⟩)) ov1 (by kernel_rfl) (by kernel_rfl) (by kernel_rfl) (fun _ _ _ h => h) (Or.inl ⟨by rfl, fun V' hS => ?_⟩) hHeld ?_
  · go_simp
  simp only [Act.put, List.setIfInBounds_toArray, List.set_cons_zero, List.set_cons_succ]
  refine wpAnyH_take (i := 2) (v := .pointer (some ⟨rb, 0, none⟩)) ov2 (by kernel_rfl) (by kernel_rfl) (by kernel_rfl) (fun _ _ _ h => h) (Or.inl ⟨by rfl, fun V' hS => ?_⟩) hHeld ?_
  · go_simp
  simp only [Act.put, List.setIfInBounds_toArray, List.set_cons_zero, List.set_cons_succ]
  refine wpAnyH_take (i := 3) (v := .slice ad n cap) ov3 (by kernel_rfl) (by kernel_rfl) (by kernel_rfl) (fun _ _ _ h => h) (Or.inl ⟨by rfl, fun V' hS => ?_⟩) hHeld ?_
  · have c0 : V'.cell? ⟨rb, 0, none⟩ = some (.slice ad n cap) := hS.cell 0
    go_simp
  simp only [Act.put, List.setIfInBounds_toArray, List.set_cons_zero, List.set_cons_succ]
  refine wpAnyH_take (i := 4) (v := .int .i64 (n : Int)) ov4 (by kernel_rfl) (by kernel_rfl) (by kernel_rfl) (fun _ _ _ h => h) (Or.inl ⟨by rfl, fun V' hS => ?_⟩) hHeld ?_
  · go_simp
  simp only [Act.put, List.setIfInBounds_toArray, List.set_cons_zero, List.set_cons_succ]
  refine wpAnyH_take (i := 5) (v := .pointer (some ⟨rb, 0, none⟩)) ov5 (by kernel_rfl) (by kernel_rfl) (by kernel_rfl) (fun _ _ _ h => h) (Or.inl ⟨by rfl, fun V' hS => ?_⟩) hHeld ?_
  · go_simp
  simp only [Act.put, List.setIfInBounds_toArray, List.set_cons_zero, List.set_cons_succ]
  refine wpAnyH_take (i := 6) (v := .pointer (some ⟨rb, 0, none⟩)) ov6 (by kernel_rfl) (by kernel_rfl) (by kernel_rfl) (fun _ _ _ h => h) (Or.inl ⟨by rfl, fun V' hS => ?_⟩) hHeld ?_
  · go_simp
  simp only [Act.put, List.setIfInBounds_toArray, List.set_cons_zero, List.set_cons_succ]
  refine wpAnyH_take (i := 7) (v := .pointer (some ⟨rb, 1, none⟩)) ov7 (by kernel_rfl) (by kernel_rfl) (by kernel_rfl) (fun _ _ _ h => h) (Or.inl ⟨by rfl, fun V' hS => ?_⟩) hHeld ?_
  · go_simp
  simp only [Act.put, List.setIfInBounds_toArray, List.set_cons_zero, List.set_cons_succ]
  refine wpAnyH_take (i := 8) (v := .int .i64 (k : Int)) ov8 (by kernel_rfl) (by kernel_rfl) (by kernel_rfl) (fun _ _ _ h => h) (Or.inl ⟨by rfl, fun V' hS => ?_⟩) hHeld ?_
  · have c0 : V'.cell? ⟨rb, 1, none⟩ = some (.int .i64 (k : Int)) := hS.cell 1
    go_simp
  simp only [Act.put, List.setIfInBounds_toArray, List.set_cons_zero, List.set_cons_succ]
  refine wpAnyH_take (i := 9) (v := .int .i64 (m : Int)) ov9 (by kernel_rfl) (by kernel_rfl) (by kernel_rfl) (fun _ _ _ h => h) (Or.inl ⟨by rfl, fun V' hS => ?_⟩) hHeld ?_
  · go_simp
  simp only [Act.put, List.setIfInBounds_toArray, List.set_cons_zero, List.set_cons_succ]
  refine wpAnyH_take (i := 10) (v := .int .i64 (wd : Int)) ov10 (by kernel_rfl) (by kernel_rfl) (by kernel_rfl) (fun _ _ _ h => h) (Or.inl ⟨by rfl, fun V' hS => ?_⟩) hHeld ?_
  · go_simp
  simp only [Act.put, List.setIfInBounds_toArray, List.set_cons_zero, List.set_cons_succ]
  refine wpAnyH_take (i := 11) (v := .bool true) ov11 (by kernel_rfl) (by kernel_rfl) (by kernel_rfl) (fun _ _ _ h => h) (Or.inl ⟨by rfl, fun V' hS => ?_⟩) hHeld ?_
  · go_simp
  simp only [Act.put, List.setIfInBounds_toArray, List.set_cons_zero, List.set_cons_succ]
  refine wpAnyH_done (by kernel_rfl) ?_ _
  have c0 : z0.cell? ⟨rb, 0, none⟩ = some (.slice ad n cap) := hHeld.cell 0
  clear hHeld
  go_wp2_with (go_at_call 98; refine (giveUp_is _ 50 (n : Int)).mono ?_; rintro e w' ⟨rfl, hw⟩; (have hw2 := hw.symm); clear hw; subst hw2; unfold thrown rejV)
  exact ⟨rfl, rfl, B0.out⟩
set_option maxHeartbeats 4000000 in
set_option maxRecDepth 100000 in
theorem number_ok (w : World) (rb : Nat) (bs : Value) (b : List Nat) (k wd : Nat) (h : Rdr w rb bs b k) (hw : wd ≤ 8) (hc : k + wd ≤ b.length) :
    Calls Try.prog 97 #[.pointer (some ⟨rb, 0, none⟩), .int .i64 (wd : Int)] w fun e w' => e = .returned (.int .u64 (rd b k wd : Int)) ∧ Rdr w' rb bs b (k + wd) ∧ RB rb w w' := by
  obtain ⟨ad, cap, rfl, hc0, _⟩ := h.by'.len
  have HR : Hid (Rdr w rb (.slice ad b.length cap) b k) := h
  have n0 : Hid (b.length ≤ 16777216) := h.len
  have SLc : Hid (∀ W, BL (fun g => g < rb) W (.slice ad b.length cap) b → BL (fun g => g < rb) W (.slice (if cap = k then ad else ad.map (·.add k)) (k + wd - k) (cap - k)) ((b.drop k).take (k + wd - k))) := fun W q => q.mid k (k + wd) (by omega) hc
  have hsl := slice_ij ad b.length cap k (k + wd) (by omega) (by omega)
  have HB : Hid (Byt ((b.drop k).take wd)) := fun x hx => h.byt x (List.mem_of_mem_drop (List.mem_of_mem_take hx))
  have HL : Hid (((b.drop k).take wd).length = wd) := by unfold Hid; simp; omega
  rw [show k + wd - k = wd by omega] at SLc hsl
  generalize (if cap = k then ad else ad.map (·.add k)) = ad2 at SLc hsl
  generalize cap - k = cap2 at SLc hsl
  have HRD : Hid (num ((b.drop k).take wd) = rd b k wd) := rfl
  have RL : Hid (rd b k wd < 18446744073709551616) := rd_lt h.byt k wd hw
  generalize rd b k wd = RR at *
  generalize hseg : (b.drop k).take wd = seg at *
  clear hseg
  generalize hn : b.length = n at *
  obtain ⟨m, hm⟩ : ∃ m : Nat, m = n - k := ⟨_, rfl⟩
  obtain ⟨t, ht⟩ : ∃ t : Nat, t = k + wd := ⟨_, rfl⟩
  rw [← ht] at hsl
  rw [← ht]
  have r1 : (n : Int) - (k : Int) = (m : Int) := by omega
  have r2 : (k : Int) + (wd : Int) = (t : Int) := by omega
  have w1 : IntKind.i64.wrap (m : Int) = (m : Int) := by rw [IntKind.wrap_i64]; have := n0.out; omega
  have w2 : IntKind.i64.wrap (t : Int) = (t : Int) := by rw [IntKind.wrap_i64]; have := n0.out; omega
  have dc : ¬ (m : Int) < (wd : Int) := by omega
  have nI : (n : Int) ≤ 16777216 := by have := n0.out; omega
  have wI : (wd : Int) ≤ 8 := by omega
  have W8 : Hid (wd ≤ 8) := hw
  clear h hc hm hn hc0 hw ht
  go_enter Try.func97, Try.ntmps97
  go_upto_region 1 with fail
  refine wp_region_held_drew (S := fun V' => CBox V' rb 81 [.slice ad n cap, .int .i64 (k : Int)]) (by kernel_rfl) (HR.out.box.past below_drew) (fun hHeld => ?_)
  have B0 : Hid (Below w.heap.size w w.drew ∧ Rdr w.drew rb (.slice ad n cap) b k) := ⟨below_drew, HR.out.past below_drew⟩
  generalize w.drew = z0 at hHeld B0 ⊢
  refine wpAnyH_take (i := 0) (v := .pointer (some ⟨rb, 0, none⟩)) ov0 (by kernel_rfl) (by kernel_rfl) (by kernel_rfl) (fun _ _ _ h => h) (Or.inl ⟨by rfl, fun V' hS => ?_⟩) hHeld ?_
  · go_simp
  simp only [Act.put, List.setIfInBounds_toArray, List.set_cons_zero, List.set_cons_succ]
  refine wpAnyH_take (i := 1) (v := .pointer (some ⟨rb, 0, none⟩)) ov1 (by kernel_rfl) (by kernel_rfl) (by kernel_rfl) (fun _ _ _ h => h) (Or.inl ⟨by rfl, fun V' hS => ?_⟩) hHeld ?_
  · go_simp
  simp only [Act.put, List.setIfInBounds_toArray, List.set_cons_zero, List.set_cons_succ]
  refine wpAnyH_take (i := 2) (v := .pointer (some ⟨rb, 0, none⟩)) ov2 (by kernel_rfl) (by kernel_rfl) (by kernel_rfl) (fun _ _ _ h => h) (Or.inl ⟨by rfl, fun V' hS => ?_⟩) hHeld ?_
  · go_simp
  simp only [Act.put, List.setIfInBounds_toArray, List.set_cons_zero, List.set_cons_succ]
  refine wpAnyH_take (i := 3) (v := .slice ad n cap) ov3 (by kernel_rfl) (by kernel_rfl) (by kernel_rfl) (fun _ _ _ h => h) (Or.inl ⟨by rfl, fun V' hS => ?_⟩) hHeld ?_
  · have c0 : V'.cell? ⟨rb, 0, none⟩ = some (.slice ad n cap) := hS.cell 0
    go_simp
  simp only [Act.put, List.setIfInBounds_toArray, List.set_cons_zero, List.set_cons_succ]
  refine wpAnyH_take (i := 4) (v := .int .i64 (n : Int)) ov4 (by kernel_rfl) (by kernel_rfl) (by kernel_rfl) (fun _ _ _ h => h) (Or.inl ⟨by rfl, fun V' hS => ?_⟩) hHeld ?_
  · go_simp
  simp only [Act.put, List.setIfInBounds_toArray, List.set_cons_zero, List.set_cons_succ]
  refine wpAnyH_take (i := 5) (v := .pointer (some ⟨rb, 0, none⟩)) ov5 (by kernel_rfl) (by kernel_rfl) (by kernel_rfl) (fun _ _ _ h => h) (Or.inl ⟨by rfl, fun V' hS => ?_⟩) hHeld ?_
  · go_simp
  simp only [Act.put, List.setIfInBounds_toArray, List.set_cons_zero, List.set_cons_succ]
  refine wpAnyH_take (i := 6) (v := .pointer (some ⟨rb, 0, none⟩)) ov6 (by kernel_rfl) (by kernel_rfl) (by kernel_rfl) (fun _ _ _ h => h) (Or.inl ⟨by rfl, fun V' hS => ?_⟩) hHeld ?_
  · go_simp
  simp only [Act.put, List.setIfInBounds_toArray, List.set_cons_zero, List.set_cons_succ]
  refine wpAnyH_take (i := 7) (v := .pointer (some ⟨rb, 1, none⟩)) ov7 (by kernel_rfl) (by kernel_rfl) (by kernel_rfl) (fun _ _ _ h => h) (Or.inl ⟨by rfl, fun V' hS => ?_⟩) hHeld ?_
  · go_simp
  simp only [Act.put, List.setIfInBounds_toArray, List.set_cons_zero, List.set_cons_succ]
  refine wpAnyH_take (i := 8) (v := .int .i64 (k : Int)) ov8 (by kernel_rfl) (by kernel_rfl) (by kernel_rfl) (fun _ _ _ h => h) (Or.inl ⟨by rfl, fun V' hS => ?_⟩) hHeld ?_
  · have c0 : V'.cell? ⟨rb, 1, none⟩ = some (.int .i64 (k : Int)) := hS.cell 1
    go_simp
  simp only [Act.put, List.setIfInBounds_toArray, List.set_cons_zero, List.set_cons_succ]
  refine wpAnyH_take (i := 9) (v := .int .i64 (m : Int)) ov9 (by kernel_rfl) (by kernel_rfl) (by kernel_rfl) (fun _ _ _ h => h) (Or.inl ⟨by rfl, fun V' hS => ?_⟩) hHeld ?_
  · go_simp
  simp only [Act.put, List.setIfInBounds_toArray, List.set_cons_zero, List.set_cons_succ]
  refine wpAnyH_take (i := 10) (v := .int .i64 (wd : Int)) ov10 (by kernel_rfl) (by kernel_rfl) (by kernel_rfl) (fun _ _ _ h => h) (Or.inl ⟨by rfl, fun V' hS => ?_⟩) hHeld ?_
  · go_simp
  simp only [Act.put, List.setIfInBounds_toArray, List.set_cons_zero, List.set_cons_succ]
  refine wpAnyH_take (i := 11) (v := .bool false) ov11 (by kernel_rfl) (by kernel_rfl) (by kernel_rfl) (fun _ _ _ h => h) (Or.inl ⟨by rfl, fun V' hS => ?_⟩) hHeld ?_
  · go_simp
  simp only [Act.put, List.setIfInBounds_toArray, List.set_cons_zero, List.set_cons_succ]
  refine wpAnyH_done (by kernel_rfl) ?_ _
  clear hHeld HR
  go_upto_region 4 with fail
  refine wp_region_held_drew (S := fun V' => CBox V' rb 81 [.slice ad n cap, .int .i64 (k : Int)]) (by kernel_rfl) (B0.out.2.box.past below_drew) (fun hHeld => ?_)
  have B1 : Hid (Below w.heap.size w z0.drew ∧ Rdr z0.drew rb (.slice ad n cap) b k) := ⟨B0.out.1.trans (below_drew.mono B0.out.1.size), B0.out.2.past below_drew⟩
  clear B0
  generalize z0.drew = z1 at hHeld B1 ⊢
  refine wpAnyH_take (i := 0) (v := .pointer (some ⟨rb, 0, none⟩)) ov0 (by kernel_rfl) (by kernel_rfl) (by kernel_rfl) (fun _ _ _ h => h) (Or.inl ⟨by rfl, fun V' hS => ?_⟩) hHeld ?_
  · go_simp
  simp only [Act.put, List.setIfInBounds_toArray, List.set_cons_zero, List.set_cons_succ]
  refine wpAnyH_take (i := 1) (v := .pointer (some ⟨rb, 0, none⟩)) ov1 (by kernel_rfl) (by kernel_rfl) (by kernel_rfl) (fun _ _ _ h => h) (Or.inl ⟨by rfl, fun V' hS => ?_⟩) hHeld ?_
  · go_simp
  simp only [Act.put, List.setIfInBounds_toArray, List.set_cons_zero, List.set_cons_succ]
  refine wpAnyH_take (i := 2) (v := .pointer (some ⟨rb, 0, none⟩)) ov2 (by kernel_rfl) (by kernel_rfl) (by kernel_rfl) (fun _ _ _ h => h) (Or.inl ⟨by rfl, fun V' hS => ?_⟩) hHeld ?_
  · go_simp
  simp only [Act.put, List.setIfInBounds_toArray, List.set_cons_zero, List.set_cons_succ]
  refine wpAnyH_take (i := 3) (v := .slice ad n cap) ov3 (by kernel_rfl) (by kernel_rfl) (by kernel_rfl) (fun _ _ _ h => h) (Or.inl ⟨by rfl, fun V' hS => ?_⟩) hHeld ?_
  · have c0 : V'.cell? ⟨rb, 0, none⟩ = some (.slice ad n cap) := hS.cell 0
    go_simp
  simp only [Act.put, List.setIfInBounds_toArray, List.set_cons_zero, List.set_cons_succ]
  refine wpAnyH_take (i := 4) (v := .pointer (some ⟨rb, 0, none⟩)) ov4 (by kernel_rfl) (by kernel_rfl) (by kernel_rfl) (fun _ _ _ h => h) (Or.inl ⟨by rfl, fun V' hS => ?_⟩) hHeld ?_
  · go_simp
  simp only [Act.put, List.setIfInBounds_toArray, List.set_cons_zero, List.set_cons_succ]
  refine wpAnyH_take (i := 5) (v := .pointer (some ⟨rb, 0, none⟩)) ov5 (by kernel_rfl) (by kernel_rfl) (by kernel_rfl) (fun _ _ _ h => h) (Or.inl ⟨by rfl, fun V' hS => ?_⟩) hHeld ?_
  · go_simp
  simp only [Act.put, List.setIfInBounds_toArray, List.set_cons_zero, List.set_cons_succ]
  refine wpAnyH_take (i := 6) (v := .pointer (some ⟨rb, 1, none⟩)) ov6 (by kernel_rfl) (by kernel_rfl) (by kernel_rfl) (fun _ _ _ h => h) (Or.inl ⟨by rfl, fun V' hS => ?_⟩) hHeld ?_
  · go_simp
  simp only [Act.put, List.setIfInBounds_toArray, List.set_cons_zero, List.set_cons_succ]
  refine wpAnyH_take (i := 7) (v := .int .i64 (k : Int)) ov7 (by kernel_rfl) (by kernel_rfl) (by kernel_rfl) (fun _ _ _ h => h) (Or.inl ⟨by rfl, fun V' hS => ?_⟩) hHeld ?_
  · have c0 : V'.cell? ⟨rb, 1, none⟩ = some (.int .i64 (k : Int)) := hS.cell 1
    go_simp
  simp only [Act.put, List.setIfInBounds_toArray, List.set_cons_zero, List.set_cons_succ]
  refine wpAnyH_take (i := 8) (v := .pointer (some ⟨rb, 0, none⟩)) ov8 (by kernel_rfl) (by kernel_rfl) (by kernel_rfl) (fun _ _ _ h => h) (Or.inl ⟨by rfl, fun V' hS => ?_⟩) hHeld ?_
  · go_simp
  simp only [Act.put, List.setIfInBounds_toArray, List.set_cons_zero, List.set_cons_succ]
  refine wpAnyH_take (i := 9) (v := .pointer (some ⟨rb, 0, none⟩)) ov9 (by kernel_rfl) (by kernel_rfl) (by kernel_rfl) (fun _ _ _ h => h) (Or.inl ⟨by rfl, fun V' hS => ?_⟩) hHeld ?_
  · go_simp
  simp only [Act.put, List.setIfInBounds_toArray, List.set_cons_zero, List.set_cons_succ]
  refine wpAnyH_take (i := 10) (v := .pointer (some ⟨rb, 1, none⟩)) ov10 (by kernel_rfl) (by kernel_rfl) (by kernel_rfl) (fun _ _ _ h => h) (Or.inl ⟨by rfl, fun V' hS => ?_⟩) hHeld ?_
  · go_simp
  simp only [Act.put, List.setIfInBounds_toArray, List.set_cons_zero, List.set_cons_succ]
  refine wpAnyH_take (i := 11) (v := .int .i64 (k : Int)) ov11 (by kernel_rfl) (by kernel_rfl) (by kernel_rfl) (fun _ _ _ h => h) (Or.inl ⟨by rfl, fun V' hS => ?_⟩) hHeld ?_
  · have c0 : V'.cell? ⟨rb, 1, none⟩ = some (.int .i64 (k : Int)) := hS.cell 1
    go_simp
  simp only [Act.put, List.setIfInBounds_toArray, List.set_cons_zero, List.set_cons_succ]
  refine wpAnyH_take (i := 12) (v := .int .i64 (wd : Int)) ov12 (by kernel_rfl) (by kernel_rfl) (by kernel_rfl) (fun _ _ _ h => h) (Or.inl ⟨by rfl, fun V' hS => ?_⟩) hHeld ?_
  · go_simp
  simp only [Act.put, List.setIfInBounds_toArray, List.set_cons_zero, List.set_cons_succ]
  refine wpAnyH_take (i := 13) (v := .int .i64 (t : Int)) ov13 (by kernel_rfl) (by kernel_rfl) (by kernel_rfl) (fun _ _ _ h => h) (Or.inl ⟨by rfl, fun V' hS => ?_⟩) hHeld ?_
  · go_simp
  simp only [Act.put, List.setIfInBounds_toArray, List.set_cons_zero, List.set_cons_succ]
  refine wpAnyH_take (i := 14) (v := .slice ad2 wd cap2) ov14 (by kernel_rfl) (by kernel_rfl) (by kernel_rfl) (fun _ _ _ h => h) (Or.inl ⟨by rfl, fun V' hS => ?_⟩) hHeld ?_
  · go_simp
  simp only [Act.put, List.setIfInBounds_toArray, List.set_cons_zero, List.set_cons_succ]
  refine wpAnyH_take (i := 15) (v := .int .i64 (wd : Int)) ov15 (by kernel_rfl) (by kernel_rfl) (by kernel_rfl) (fun _ _ _ h => h) (Or.inl ⟨by rfl, fun V' hS => ?_⟩) hHeld ?_
  · go_simp
  simp only [Act.put, List.setIfInBounds_toArray, List.set_cons_zero, List.set_cons_succ]
  refine wpAnyH_take (i := 16) (v := .int .i64 0) ov16 (by kernel_rfl) (by kernel_rfl) (by kernel_rfl) (fun _ _ _ h => h) (Or.inl ⟨by rfl, fun V' hS => ?_⟩) hHeld ?_
  · go_simp
  simp only [Act.put, List.setIfInBounds_toArray, List.set_cons_zero, List.set_cons_succ]
  refine wpAnyH_done (by kernel_rfl) ?_ _
  clear hHeld hsl dc w1 r1
  have SG : Hid (BL (fun g => g < rb) z1 (.slice ad2 wd cap2) seg) := SLc.out z1 B1.out.2.by'
  clear SLc
  go_wp2
  go_loopw [5, 42] (fun s5 s42 wr => ∃ i : Nat, s42 = .int .i64 (i : Int) ∧ i ≤ wd ∧ s5 = .int .u64 (num (seg.take i) : Int) ∧ wr = z1) (fun _ s42 _ => wd - (intOf s42).toNat)
  case atStart => exact ⟨0, rfl, by omega, by simp [num], rfl⟩
  case round =>
    obtain ⟨i, rfl, hi, rfl, rfl⟩ := hrel
    by_cases e : i = wd
    · subst e
      have EV : Hid (num (seg.take i) = RR) := by unfold Hid; rw [List.take_of_length_le (by have := HL.out; omega)]; exact HRD.out
      rw [EV.out]
      have c1 : wr.cell? ⟨rb, 1, none⟩ = some (.int .i64 (k : Int)) := B1.out.2.box.cell 1
      have f1 := B1.out.2.box.frozen 1
      have HG : Hid (Rdr (wr.setCell ⟨rb, 1, none⟩ (.int .i64 (t : Int))) rb (.slice ad n cap) b t ∧ RB rb w (wr.setCell ⟨rb, 1, none⟩ (.int .i64 (t : Int)))) := ⟨(B1.out.2.go t).1, (below_but (S := fun g => g = rb) B1.out.1).trans (B1.out.2.go t).2⟩
      clear B1 SG
      go_wp2
      go_ret
      exact ⟨rfl, HG.out⟩
    · have iI : (i : Int) < (wd : Int) := by omega
      obtain ⟨x, hx⟩ : ∃ x, seg[i]? = some x := ⟨seg[i]'(by have := HL.out; omega), List.getElem?_eq_getElem _⟩
      obtain ⟨g, a, rfl, hcell⟩ := SG.out.get hx
      have x8 : x < 256 := HB.out x (List.mem_of_getElem? hx)
      obtain ⟨y, hy⟩ : ∃ y : Nat, y = num (seg.take i) := ⟨_, rfl⟩
      have hy2 : num (seg.take (i + 1)) = 256 * y + x := by rw [take_snoc hx, num_snoc, hy]
      have hlt : 256 * y + x < 18446744073709551616 := by
        have h1 := num_le_take seg (i + 1) HB.out
        have h2 : (256 : Nat) ^ (i + 1) ≤ 256 ^ 8 := Nat.pow_le_pow_right (by omega) (by have := W8.out; omega)
        have h3 : (256 : Nat) ^ 8 = 18446744073709551616 := by decide
        omega
      rw [← hy]
      obtain ⟨y2, ey2⟩ : ∃ y2 : Nat, y2 = 256 * y + x := ⟨_, rfl⟩
      have r3 : (y : Int) * 256 = ((y * 256 : Nat) : Int) := by rw [Int.natCast_mul]; rfl
      have r4 : IntKind.u64.wrap ((y * 256 : Nat) : Int) = ((y * 256 : Nat) : Int) := by rw [IntKind.wrap_u64]; omega
      have r5 : bits .or .u64 ((y * 256 : Nat) : Int) (x : Int) = (y2 : Int) := by rw [or8 y x x8 hlt, ey2]
      have r6 : IntKind.u64.wrap (x : Int) = (x : Int) := by rw [IntKind.wrap_u64]; omega
      have HY : Hid (num (seg.take (i + 1)) = y2) := by unfold Hid; rw [hy2, ey2]
      generalize y * 256 = y256 at *
      clear hy hy2 hlt ey2 hx x8 e
      go_wp2
      go_roundw
      case rel => exact ⟨i + 1, by first | rfl | go_num, by omega, by rw [HY.out], by first | rfl | trivial⟩
      case measure => simp [intOf]; omega
end Go.Proofs.Ytndhabhlajldeaa
/- Package container: the reader's field and fixed. -/
namespace Go.Proofs.Ytndhabhlajldeaa
open Go.RowKit
/-- what a reading comes to: its answer, or what is thrown -/
def Out {α : Type} (rb : Nat) (W : World) (r : Except Er α) (Q : α → Ending → World → Prop) (e : Ending) (W' : World) : Prop :=
  match r with
  | .ok x => Q x e W'
  | .error (c, a) => e = thrown c a ∧ RB rb W W'
theorem fld_cut {b : List Nat} {k wd why : Nat} {p : Nat → Bool} (h : b.length < k + wd) : fld b k wd why p = .error (50, b.length) := by unfold fld; rw [if_pos h]
theorem fld_ok {b : List Nat} {k wd why : Nat} {p : Nat → Bool} (h : k + wd ≤ b.length) (hp : p (rd b k wd) = true) : fld b k wd why p = .ok (rd b k wd) := by unfold fld; rw [if_neg (by omega), if_pos hp]
theorem fld_no {b : List Nat} {k wd why : Nat} {p : Nat → Bool} (h : k + wd ≤ b.length) (hp : p (rd b k wd) = false) : fld b k wd why p = .error (why, k) := by unfold fld; rw [if_neg (by omega), if_neg (by rw [hp]; decide)]
/-- what is told of a reading that went well -/
def FldQ (rb : Nat) (w : World) (bs : Value) (b : List Nat) (k : Nat) (x : Nat) (e : Ending) (w' : World) : Prop := e = .returned (.int .u64 (x : Int)) ∧ Rdr w' rb bs b k ∧ RB rb w w'
set_option maxHeartbeats 4000000 in
set_option maxRecDepth 100000 in
theorem field0_is (w : World) (rb : Nat) (bs : Value) (b : List Nat) (k wd why : Nat) (h : Rdr w rb bs b k) (hk : k ≤ b.length) (hw : wd ≤ 8) (p : Nat → Bool) (f : FuncId) (hE : ∀ args W, (callFunc f args).run Try.prog W = .ok (.enter f args) W)
    (hf : ∀ V, RB rb w V → Calls Try.prog f #[.int .u64 (rd b k wd : Int)] V fun e V' => e = .returned (.bool (p (rd b k wd))) ∧ V' = V) :
    Calls Try.prog 91 #[.pointer (some ⟨rb, 0, none⟩), .int .i64 (wd : Int), .int .i64 (why : Int), .func (.func f) #[] #[]] w fun e w' => Out rb w (fld b k wd why p) (FldQ rb w bs b (k + wd)) e w' := by
  have hk0 : w.cell? ⟨rb, 1, none⟩ = some (.int .i64 (k : Int)) := h.box.cell 1
  by_cases e0 : b.length < k + wd
  · have NC : Hid (Calls Try.prog 97 #[.pointer (some ⟨rb, 0, none⟩), .int .i64 (wd : Int)] w fun e w' => e = thrown 50 (b.length : Int) ∧ Below w.heap.size w w') := number_cut w rb bs b k wd h hk hw e0
    rw [fld_cut e0]
    generalize b.length = n at *
    clear h hf hk hw e0
    go_enter Try.func91, Try.ntmps91
    go_wp2_with (go_at_call 97; refine NC.out.mono ?_; rintro e w' ⟨rfl, hB⟩; unfold thrown rejV)
    exact ⟨rfl, rfl, below_but hB⟩
  · have NO : Hid (Calls Try.prog 97 #[.pointer (some ⟨rb, 0, none⟩), .int .i64 (wd : Int)] w fun e w' => e = .returned (.int .u64 (rd b k wd : Int)) ∧ Rdr w' rb bs b (k + wd) ∧ RB rb w w') := number_ok w rb bs b k wd h hw (by omega)
    have HF : Hid (∀ V, RB rb w V → Calls Try.prog f #[.int .u64 (rd b k wd : Int)] V fun e V' => e = .returned (.bool (p (rd b k wd))) ∧ V' = V) := hf
    have F1 : Hid (p (rd b k wd) = true → fld b k wd why p = .ok (rd b k wd)) := fun q => fld_ok (by omega) q
    have F2 : Hid (p (rd b k wd) = false → fld b k wd why p = .error (why, k)) := fun q => fld_no (by omega) q
    generalize fld b k wd why p = FF at *
    generalize rd b k wd = R at *
    generalize k + wd = t at *
    clear h hf hk hw e0
    go_enter Try.func91, Try.ntmps91
    go_upto_region 3 with (go_at_call 97; refine NO.out.mono ?_; rintro e w1 ⟨rfl, hR, hB⟩)
    have HH : Hid (Rdr w1 rb bs b t ∧ RB rb w w1) := ⟨hR, hB⟩
    clear hR hB NO hk0
    cases ep : p R with
    | true =>
      have E0 : Hid (FF = .ok R) := F1.out ep
      have CF : Hid (Calls Try.prog f #[.int .u64 (R : Int)] w1 fun e V' => e = .returned (.bool true) ∧ V' = w1) := by have := HF.out w1 HH.out.2; rwa [ep] at this
      clear HF F1 F2 ep
      go_wp2_with fail
      refine CF.out.mono ?_
      rintro e w' ⟨rfl, hw⟩
      have hw2 := hw.symm
      clear hw
      subst hw2
      go_wp2
      go_ret
      rw [E0.out]
      exact ⟨rfl, HH.out⟩
    | false =>
      have E0 : Hid (FF = .error (why, k)) := F2.out ep
      have CF : Hid (Calls Try.prog f #[.int .u64 (R : Int)] w1 fun e V' => e = .returned (.bool false) ∧ V' = w1) := by have := HF.out w1 HH.out.2; rwa [ep] at this
      clear HF F1 F2 ep
      go_wp2_with fail
      refine CF.out.mono ?_
      rintro e w' ⟨rfl, hw⟩
      have hw2 := hw.symm
      clear hw
      subst hw2
      go_wp2_with (go_at_call 98; refine (giveUp_is _ (why : Int) (k : Int)).mono ?_; rintro e w' ⟨rfl, hw⟩; (have hw2 := hw.symm); clear hw; subst hw2; unfold thrown rejV)
      refine ⟨rfl, ?_⟩
      rw [E0.out]
      exact ⟨rfl, HH.out.2⟩
set_option maxHeartbeats 4000000 in
set_option maxRecDepth 100000 in
theorem field1_is (w : World) (rb : Nat) (bs : Value) (b : List Nat) (k wd why : Nat) (h : Rdr w rb bs b k) (hk : k ≤ b.length) (hw : wd ≤ 8) (p : Nat → Bool) (f : FuncId) (c0 : Value) (hE : ∀ args W, (callFunc f args).run Try.prog W = .ok (.enter f args) W)
    (hf : ∀ V, RB rb w V → Calls Try.prog f #[.int .u64 (rd b k wd : Int), c0] V fun e V' => e = .returned (.bool (p (rd b k wd))) ∧ V' = V) :
    Calls Try.prog 91 #[.pointer (some ⟨rb, 0, none⟩), .int .i64 (wd : Int), .int .i64 (why : Int), .func (.func f) #[] #[c0]] w fun e w' => Out rb w (fld b k wd why p) (FldQ rb w bs b (k + wd)) e w' := by
  have hk0 : w.cell? ⟨rb, 1, none⟩ = some (.int .i64 (k : Int)) := h.box.cell 1
  by_cases e0 : b.length < k + wd
  · have NC : Hid (Calls Try.prog 97 #[.pointer (some ⟨rb, 0, none⟩), .int .i64 (wd : Int)] w fun e w' => e = thrown 50 (b.length : Int) ∧ Below w.heap.size w w') := number_cut w rb bs b k wd h hk hw e0
    rw [fld_cut e0]
    generalize b.length = n at *
    clear h hf hk hw e0
    go_enter Try.func91, Try.ntmps91
    go_wp2_with (go_at_call 97; refine NC.out.mono ?_; rintro e w' ⟨rfl, hB⟩; unfold thrown rejV)
    exact ⟨rfl, rfl, below_but hB⟩
  · have NO : Hid (Calls Try.prog 97 #[.pointer (some ⟨rb, 0, none⟩), .int .i64 (wd : Int)] w fun e w' => e = .returned (.int .u64 (rd b k wd : Int)) ∧ Rdr w' rb bs b (k + wd) ∧ RB rb w w') := number_ok w rb bs b k wd h hw (by omega)
    have HF : Hid (∀ V, RB rb w V → Calls Try.prog f #[.int .u64 (rd b k wd : Int), c0] V fun e V' => e = .returned (.bool (p (rd b k wd))) ∧ V' = V) := hf
    have F1 : Hid (p (rd b k wd) = true → fld b k wd why p = .ok (rd b k wd)) := fun q => fld_ok (by omega) q
    have F2 : Hid (p (rd b k wd) = false → fld b k wd why p = .error (why, k)) := fun q => fld_no (by omega) q
    generalize fld b k wd why p = FF at *
    generalize rd b k wd = R at *
    generalize k + wd = t at *
    clear h hf hk hw e0
    go_enter Try.func91, Try.ntmps91
    go_upto_region 3 with (go_at_call 97; refine NO.out.mono ?_; rintro e w1 ⟨rfl, hR, hB⟩)
    have HH : Hid (Rdr w1 rb bs b t ∧ RB rb w w1) := ⟨hR, hB⟩
    clear hR hB NO hk0
    cases ep : p R with
    | true =>
      have E0 : Hid (FF = .ok R) := F1.out ep
      have CF : Hid (Calls Try.prog f #[.int .u64 (R : Int), c0] w1 fun e V' => e = .returned (.bool true) ∧ V' = w1) := by have := HF.out w1 HH.out.2; rwa [ep] at this
      clear HF F1 F2 ep
      go_wp2_with fail
      refine CF.out.mono ?_
      rintro e w' ⟨rfl, hw⟩
      have hw2 := hw.symm
      clear hw
      subst hw2
      go_wp2
      go_ret
      rw [E0.out]
      exact ⟨rfl, HH.out⟩
    | false =>
      have E0 : Hid (FF = .error (why, k)) := F2.out ep
      have CF : Hid (Calls Try.prog f #[.int .u64 (R : Int), c0] w1 fun e V' => e = .returned (.bool false) ∧ V' = w1) := by have := HF.out w1 HH.out.2; rwa [ep] at this
      clear HF F1 F2 ep
      go_wp2_with fail
      refine CF.out.mono ?_
      rintro e w' ⟨rfl, hw⟩
      have hw2 := hw.symm
      clear hw
      subst hw2
      go_wp2_with (go_at_call 98; refine (giveUp_is _ (why : Int) (k : Int)).mono ?_; rintro e w' ⟨rfl, hw⟩; (have hw2 := hw.symm); clear hw; subst hw2; unfold thrown rejV)
      refine ⟨rfl, ?_⟩
      rw [E0.out]
      exact ⟨rfl, HH.out.2⟩
set_option maxHeartbeats 4000000 in
set_option maxRecDepth 100000 in
theorem field2_is (w : World) (rb : Nat) (bs : Value) (b : List Nat) (k wd why : Nat) (h : Rdr w rb bs b k) (hk : k ≤ b.length) (hw : wd ≤ 8) (p : Nat → Bool) (f : FuncId) (c0 : Value) (c1 : Value) (hE : ∀ args W, (callFunc f args).run Try.prog W = .ok (.enter f args) W)
    (hf : ∀ V, RB rb w V → Calls Try.prog f #[.int .u64 (rd b k wd : Int), c0, c1] V fun e V' => e = .returned (.bool (p (rd b k wd))) ∧ V' = V) :
    Calls Try.prog 91 #[.pointer (some ⟨rb, 0, none⟩), .int .i64 (wd : Int), .int .i64 (why : Int), .func (.func f) #[] #[c0, c1]] w fun e w' => Out rb w (fld b k wd why p) (FldQ rb w bs b (k + wd)) e w' := by
  have hk0 : w.cell? ⟨rb, 1, none⟩ = some (.int .i64 (k : Int)) := h.box.cell 1
  by_cases e0 : b.length < k + wd
  · have NC : Hid (Calls Try.prog 97 #[.pointer (some ⟨rb, 0, none⟩), .int .i64 (wd : Int)] w fun e w' => e = thrown 50 (b.length : Int) ∧ Below w.heap.size w w') := number_cut w rb bs b k wd h hk hw e0
    rw [fld_cut e0]
    generalize b.length = n at *
    clear h hf hk hw e0
    go_enter Try.func91, Try.ntmps91
    go_wp2_with (go_at_call 97; refine NC.out.mono ?_; rintro e w' ⟨rfl, hB⟩; unfold thrown rejV)
    exact ⟨rfl, rfl, below_but hB⟩
  · have NO : Hid (Calls Try.prog 97 #[.pointer (some ⟨rb, 0, none⟩), .int .i64 (wd : Int)] w fun e w' => e = .returned (.int .u64 (rd b k wd : Int)) ∧ Rdr w' rb bs b (k + wd) ∧ RB rb w w') := number_ok w rb bs b k wd h hw (by omega)
    have HF : Hid (∀ V, RB rb w V → Calls Try.prog f #[.int .u64 (rd b k wd : Int), c0, c1] V fun e V' => e = .returned (.bool (p (rd b k wd))) ∧ V' = V) := hf
    have F1 : Hid (p (rd b k wd) = true → fld b k wd why p = .ok (rd b k wd)) := fun q => fld_ok (by omega) q
    have F2 : Hid (p (rd b k wd) = false → fld b k wd why p = .error (why, k)) := fun q => fld_no (by omega) q
    generalize fld b k wd why p = FF at *
    generalize rd b k wd = R at *
    generalize k + wd = t at *
    clear h hf hk hw e0
    go_enter Try.func91, Try.ntmps91
    go_upto_region 3 with (go_at_call 97; refine NO.out.mono ?_; rintro e w1 ⟨rfl, hR, hB⟩)
    have HH : Hid (Rdr w1 rb bs b t ∧ RB rb w w1) := ⟨hR, hB⟩
    clear hR hB NO hk0
    cases ep : p R with
    | true =>
      have E0 : Hid (FF = .ok R) := F1.out ep
      have CF : Hid (Calls Try.prog f #[.int .u64 (R : Int), c0, c1] w1 fun e V' => e = .returned (.bool true) ∧ V' = w1) := by have := HF.out w1 HH.out.2; rwa [ep] at this
      clear HF F1 F2 ep
      go_wp2_with fail
      refine CF.out.mono ?_
      rintro e w' ⟨rfl, hw⟩
      have hw2 := hw.symm
      clear hw
      subst hw2
      go_wp2
      go_ret
      rw [E0.out]
      exact ⟨rfl, HH.out⟩
    | false =>
      have E0 : Hid (FF = .error (why, k)) := F2.out ep
      have CF : Hid (Calls Try.prog f #[.int .u64 (R : Int), c0, c1] w1 fun e V' => e = .returned (.bool false) ∧ V' = w1) := by have := HF.out w1 HH.out.2; rwa [ep] at this
      clear HF F1 F2 ep
      go_wp2_with fail
      refine CF.out.mono ?_
      rintro e w' ⟨rfl, hw⟩
      have hw2 := hw.symm
      clear hw
      subst hw2
      go_wp2_with (go_at_call 98; refine (giveUp_is _ (why : Int) (k : Int)).mono ?_; rintro e w' ⟨rfl, hw⟩; (have hw2 := hw.symm); clear hw; subst hw2; unfold thrown rejV)
      refine ⟨rfl, ?_⟩
      rw [E0.out]
      exact ⟨rfl, HH.out.2⟩
set_option maxHeartbeats 4000000 in
set_option maxRecDepth 100000 in
theorem fixed1_is (V : World) (g : Nat) (x y : Int) (h : V.cell? ⟨g, 0, none⟩ = some (.int .u64 y)) : Calls Try.prog 112 #[.int .u64 x, .pointer (some ⟨g, 0, none⟩)] V fun e V' => e = .returned (.bool (x == y)) ∧ V' = V := by
  go_enter Try.func112, Try.ntmps112
  go_wp2
  go_ret
  exact ⟨rfl, rfl⟩
theorem eq_nat (x y : Nat) : ((x : Int) == (y : Int)) = (x == y) := by
  rw [Bool.eq_iff_iff, beq_iff_eq, beq_iff_eq]; omega
set_option maxHeartbeats 4000000 in
set_option maxRecDepth 100000 in
theorem fixed_is (w : World) (rb : Nat) (bs : Value) (b : List Nat) (k want why : Nat) (h : Rdr w rb bs b k) (hk : k ≤ b.length) :
    Calls Try.prog 90 #[.pointer (some ⟨rb, 0, none⟩), .int .u64 (want : Int), .int .i64 (why : Int)] w fun e w' => Out rb w (fld b k 1 why (fun n => n == want)) (fun _ e w' => e = .returned (.tuple #[]) ∧ Rdr w' rb bs b (k + 1) ∧ RB rb w w') e w' := by
  have B0 : Hid (Below w.heap.size w (w.alloc (.cells #[.int .u64 (want : Int)] 73))) := below_alloc _ _
  have C0 : Hid (CBox (w.alloc (.cells #[.int .u64 (want : Int)] 73)) w.heap.size 73 [.int .u64 (want : Int)]) := CBox.new w _ [_]
  have NE : Hid (w.heap.size ≠ rb) := by unfold Hid; have := h.box.lt; omega
  have FC : Hid (Calls Try.prog 91 #[.pointer (some ⟨rb, 0, none⟩), .int .i64 1, .int .i64 (why : Int), .func (.func 112) #[] #[.pointer (some ⟨w.heap.size, 0, none⟩)]] (w.alloc (.cells #[.int .u64 (want : Int)] 73)) fun e w' => Out rb (w.alloc (.cells #[.int .u64 (want : Int)] 73)) (fld b k 1 why (fun n => n == want)) (FldQ rb (w.alloc (.cells #[.int .u64 (want : Int)] 73)) bs b (k + 1)) e w') :=
    field1_is _ rb bs b k 1 why (h.past B0.out) hk (by omega) (fun n => n == want) 112 _ (fun _ _ => by kernel_rfl) fun V hV => by
      have := fixed1_is V w.heap.size (rd b k 1 : Int) (want : Int) ((C0.out.but hV NE.out).cell 0)
      rwa [eq_nat] at this
  generalize fld b k 1 why (fun n => n == want) = FF at *
  clear h hk C0 NE
  go_enter Try.func90, Try.ntmps90
  go_upto_region 1 with fail
  generalize w.alloc _ = W0 at B0 FC ⊢
  generalize w.heap.size = g0 at FC ⊢
  cases FF with
  | ok x =>
    go_wp2_with (go_at_call 91; refine FC.out.mono ?_; rintro e w' ⟨rfl, hR, hB⟩)
    go_end0
    exact ⟨rfl, hR, (below_but (S := fun g => g = rb) B0.out).trans hB⟩
  | error er =>
    obtain ⟨ec, ea⟩ := er
    go_wp2_with (go_at_call 91; refine FC.out.mono ?_; rintro e w' ⟨rfl, hB⟩; unfold thrown rejV)
    exact ⟨rfl, rfl, (below_but (S := fun g => g = rb) B0.out).trans hB⟩
end Go.Proofs.Ytndhabhlajldeaa
/- bytes.Clone; package container: the reader's lengths and measure. -/
namespace Go.Proofs.Ytndhabhlajldeaa
open Go.RowKit
theorem owns_emptyB (w : World) : (w.alloc (.cells #[] 5)).ownsRow w.heap.size 5 1 (.slice (some ⟨w.heap.size, 0, none⟩) 0 0) ([] : List Nat).length (bV []) :=
  ⟨rfl, Or.inr ⟨w.heap.size, 0, #[], rfl, Nat.le_refl _, heap_alloc_new w _, by simp, by simp, by simp, by simp [bV]⟩⟩
theorem nilB (W : World) : Sem.run Try.prog (binOp BinOp.eql 22 (.slice none 0 0) (.slice none 0 0)) W = .ok (.bool true) W := by kernel_rfl
theorem notNilB (W : World) (a : Addr) (n c : Nat) : Sem.run Try.prog (binOp BinOp.eql 22 (.slice (some a) n c) (.slice none 0 0)) W = .ok (.bool false) W := by kernel_rfl
set_option maxHeartbeats 4000000 in
set_option maxRecDepth 100000 in
theorem clone_is {P : Nat → Prop} (w : World) (v : Value) (l : List Nat) (h : BL P w v l) (hl : l.length ≤ 2199023255552) : Calls Try.prog 88 #[v] w fun e w' => ∃ v', e = .returned v' ∧ w'.ownsRow w.heap.size 5 1 v' l.length (bV l) ∧ Below w.heap.size w w' := by
  obtain ⟨_, ad, cap, rfl, h0, h1, hz, h2⟩ := id h
  cases ad with
  | none =>
    have e0 : cap = 0 := hz rfl
    have e1 : l.length = 0 := by omega
    obtain rfl := List.eq_nil_of_length_eq_zero e1
    subst e0
    clear h h0 h1 h2 hz e1 hl
    have hnil := nilB w
    go_enter Try.func88, Try.ntmps88
    go_wp2
    go_ret
    exact ⟨_, rfl, World.ownsRow_nil _ _ _ _, Below.refl _ _⟩
  | some a =>
    have HB : Hid (BL P (w.alloc (.cells #[] 5)) (.slice (some a) l.length cap) l) := h.past (below_alloc _ _)
    have HO : Hid ((w.alloc (.cells #[] 5)).ownsRow w.heap.size 5 1 (.slice (some ⟨w.heap.size, 0, none⟩) 0 0) ([] : List Nat).length (bV [])) := owns_emptyB w
    have HP : Hid (Below w.heap.size w (w.alloc (.cells #[] 5))) := below_alloc _ _
    have HL : Hid (([] : List Nat).length + l.length ≤ 2199023255552) := by unfold Hid; simpa using hl
    generalize hn : l.length = n at *
    have HN : Hid (l.length = n) := hn
    have HL2 : Hid (([] : List Nat).length + l.length ≤ 2199023255552) := by unfold Hid; rw [hn]; exact HL.out
    clear h h0 h1 h2 hz hn hl HL
    have hnil := notNilB w a n cap
    go_enter Try.func88, Try.ntmps88
    go_wp2_with (at_builtin; refine wpList_appB rfl _ _ rfl w.heap.size HP.out.size (.slice (some ⟨w.heap.size, 0, none⟩) 0 0) [] rfl HO.out (.slice (some a) n cap) l rfl HB.out HL2.out ?_; intro v' w' hA)
    go_ret
    exact ⟨_, rfl, by have := hA.row; rw [List.nil_append, HN.out] at this; exact this, HP.out.trans (hA.below HO.out HP.out.size)⟩
set_option maxHeartbeats 4000000 in
set_option maxRecDepth 100000 in
theorem len1_is (V : World) (x : Nat) : Calls Try.prog 113 #[.int .u64 (x : Int)] V fun e V' => e = .returned (.bool (decide (0 < x))) ∧ V' = V := by
  go_enter Try.func113, Try.ntmps113
  go_wp2
  go_ret
  exact ⟨rfl, rfl⟩
/-- the numbers so far, zeros behind them -/
theorem uV_set (L : List Nat) (r x : Nat) : (uV (L ++ List.replicate (r + 1) 0)).set L.length (.int .u64 (x : Int)) = uV ((L ++ [x]) ++ List.replicate r 0) := by
  unfold uV
  rw [List.map_append, List.set_append_right _ _ (by simp), List.length_map, Nat.sub_self, List.replicate_succ, List.map_cons, List.set_cons_zero, List.map_append, List.map_append]
  simp
theorem lens_len : ∀ (b : List Nat) (wd k m : Nat) (l : List Nat), lens b wd k m = .ok l → l.length = m
  | b, wd, k, 0, l, h => by unfold lens at h; cases h; rfl
  | b, wd, k, m + 1, l, h => by
    unfold lens at h
    cases e1 : fld b k wd 56 (fun n => decide (0 < n)) with
    | error er => rw [e1] at h; cases h
    | ok x =>
      rw [e1] at h
      cases e2 : lens b wd (k + wd) m with
      | error er => simp only [Except.bind, e2] at h; cases h
      | ok r =>
        simp only [Except.bind, e2] at h
        cases h
        rw [List.length_cons, lens_len b wd (k + wd) m r e2]
/-- lengths that were read -/
structure LnQ (rb : Nat) (w w' : World) (bs : Value) (b : List Nat) (k : Nat) (e : Ending) (l : List Nat) : Prop where
  ex : ∃ g, e = .returned (.slice (some ⟨g, 0, none⟩) l.length l.length) ∧ CBox w' g 73 (uV l) ∧ w.heap.size ≤ g
  rd : Rdr w' rb bs b k
  but : RB rb w w'
set_option maxHeartbeats 4000000 in
set_option maxRecDepth 100000 in
theorem rlengths_is (w : World) (rb : Nat) (bs : Value) (b : List Nat) (k m wd : Nat) (h : Rdr w rb bs b k) (hk : k ≤ b.length) (hw : wd ≤ 8) (hm : m ≤ 16777216) :
    Calls Try.prog 94 #[.pointer (some ⟨rb, 0, none⟩), .int .u64 (m : Int), .int .i64 (wd : Int)] w fun e w' => Out rb w (lens b wd k m) (fun l e w' => LnQ rb w w' bs b (k + wd * m) e l) e w' := by
  obtain ⟨W1, hmk, hcb, hB1, hsz⟩ := make_n 82 73 (.int .u64 0) (.int .u64 0) 1 8 Try.underlying82 Try.infoU (one_cell rfl) (by simp [Value.cells]) .u64 w m (by omega) (by omega)
  have NE : Hid (w.heap.size ≠ rb) := by unfold Hid; have := h.box.lt; omega
  obtain ⟨LL, hLL⟩ : ∃ LL, LL = lens b wd k m := ⟨_, rfl⟩
  rw [← hLL]
  have C0 : Hid (CBox W1 w.heap.size 73 (uV ([] ++ List.replicate (m - 0) 0)) ∧ RB rb w W1 ∧ Rdr W1 rb bs b (k + wd * 0) ∧ k + wd * 0 ≤ b.length ∧ LL = (lens b wd (k + wd * 0) (m - 0)).bind fun r => .ok ([] ++ r)) := ⟨by rw [Nat.mul_one] at hcb; simpa [uV] using hcb, below_but hB1, h.past hB1, by omega, by rw [hLL]; cases lens b wd k m <;> simp [Except.bind]⟩
  have HK : Hid (wd ≤ 8 ∧ m ≤ 16777216) := ⟨hw, hm⟩
  have HRB : Hid (rb < w.heap.size) := h.box.lt
  have mI : (m : Int) ≤ 16777216 := by omega
  clear hcb hB1 hsz h hk
  clear hLL hw hm
  go_enter Try.func94, Try.ntmps94
  go_upto_region 2 with fail
  generalize hg : w.heap.size = g at *
  have HG : Hid (w.heap.size = g) := hg
  clear hmk hg
  go_wp2
  go_loopw [13] (fun s13 wr => ∃ (i : Nat) (L : List Nat), s13 = .int .i64 (i : Int) ∧ i ≤ m ∧ L.length = i ∧ CBox wr g 73 (uV (L ++ List.replicate (m - i) 0)) ∧ RB rb w wr ∧ Rdr wr rb bs b (k + wd * i) ∧ k + wd * i ≤ b.length ∧ LL = (lens b wd (k + wd * i) (m - i)).bind fun r => .ok (L ++ r)) (fun s13 _ => m - (intOf s13).toNat)
  case atStart => exact ⟨0, [], rfl, by omega, rfl, C0.out⟩
  case round =>
    obtain ⟨i, L, rfl, hi, hL, hC, hB, hR, hkl, hE⟩ := hrel
    have HC : Hid (CBox wr g 73 (uV (L ++ List.replicate (m - i) 0)) ∧ RB rb w wr ∧ Rdr wr rb bs b (k + wd * i)) := ⟨hC, hB, hR⟩
    have HE : Hid (LL = (lens b wd (k + wd * i) (m - i)).bind fun r => .ok (L ++ r)) := hE
    have HLn : Hid (L.length = i) := hL
    clear hC hB hR hE C0 hL
    by_cases e : i = m
    · subst e
      have E0 : Hid (LL = .ok L) := by unfold Hid; rw [HE.out, Nat.sub_self, lens]; simp [Except.bind]
      have E1 : Hid (CBox wr g 73 (uV L)) := by have := HC.out.1; rwa [Nat.sub_self, List.replicate_zero, List.append_nil] at this
      go_wp2
      go_ret
      rw [E0.out]
      exact ⟨⟨g, by rw [HLn.out]; rfl, E1.out, by rw [HG.out]; exact Nat.le_refl _⟩, HC.out.2.2, HC.out.2.1⟩
    · have iI : (i : Int) < (m : Int) := by omega
      obtain ⟨r, hr⟩ : ∃ r, m - i = r + 1 := ⟨m - i - 1, by omega⟩
      have hE2 : LL = ((fld b (k + wd * i) wd 56 (fun n => decide (0 < n))).bind fun n => (lens b wd (k + wd * i + wd) r).bind fun q => .ok (n :: q)).bind fun q => .ok (L ++ q) := by rw [HE.out, hr]; rfl
      have FC0 := field0_is wr rb bs b (k + wd * i) wd 56 HC.out.2.2 hkl HK.out.1 (fun n => decide (0 < n)) 113 (fun _ _ => by kernel_rfl) (fun V _ => len1_is V (rd b (k + wd * i) wd))
      have ek : k + wd * i + wd = k + wd * (i + 1) := by rw [Nat.mul_add]; omega
      rw [ek] at FC0 hE2
      have HE2 : Hid _ := hE2
      have FC : Hid _ := FC0
      have FK : Hid (∀ x, fld b (k + wd * i) wd 56 (fun n => decide (0 < n)) = .ok x → k + wd * (i + 1) ≤ b.length) := fun x q => by
        rw [← ek]
        unfold fld at q
        split at q
        · cases q
        · omega
      generalize fld b (k + wd * i) wd 56 (fun n => decide (0 < n)) = FF at *
      have HR1 : Hid (m - i = r + 1) := hr
      clear hE2 FC0 hkl hr ek HE
      cases FF with
      | error er =>
        obtain ⟨ec, ea⟩ := er
        have E0 : Hid (LL = .error (ec, ea)) := HE2.out
        go_wp2_with (go_at_call 91; refine Calls.mono FC.out ?_; rintro e w' ⟨rfl, hB⟩; unfold thrown rejV)
        refine ⟨rfl, ?_⟩
        rw [E0.out]
        exact ⟨rfl, HC.out.2.1.trans hB⟩
      | ok x =>
        have E0 : Hid (LL = (lens b wd (k + wd * (i + 1)) (m - (i + 1))).bind fun q => .ok ((L ++ [x]) ++ q)) := by
          unfold Hid
          rw [HE2.out, show m - (i + 1) = r by have := HR1.out; omega]
          cases lens b wd (k + wd * (i + 1)) r <;> simp [Except.bind]
        have HLe : Hid (k + wd * (i + 1) ≤ b.length) := FK.out x rfl
        clear HE2 FK
        go_upto_region 6 with (go_at_call 91; refine Calls.mono FC.out ?_; rintro e w1 ⟨rfl, hR, hB⟩; (have z1 : w1.cell? ⟨g, i, none⟩ = some (.int .u64 0) := by (rw [(HC.out.1.but hB NE.out).cell, HR1.out]; simp [uV, HLn.out])); (have z2 := (HC.out.1.but hB NE.out).frozen i))
        have HN : Hid (CBox (w1.setCell ⟨g, i, none⟩ (.int .u64 (x : Int))) g 73 (uV ((L ++ [x]) ++ List.replicate (m - (i + 1)) 0)) ∧ RB rb w (w1.setCell ⟨g, i, none⟩ (.int .u64 (x : Int))) ∧ Rdr (w1.setCell ⟨g, i, none⟩ (.int .u64 (x : Int))) rb bs b (k + wd * (i + 1))) := by
          have hs : But (fun q => q = g) w1 (w1.setCell ⟨g, i, none⟩ (.int .u64 (x : Int))) := (But.refl (fun q => q = g) w1).setCell ⟨g, i, none⟩ _ (Or.inl rfl)
          refine ⟨?_, (HC.out.2.1.trans hB).setCell ⟨g, i, none⟩ _ (Or.inr (by rw [HG.out]; exact Nat.le_refl _)), ⟨hR.box.but hs (Ne.symm NE.out), hR.by'.but hs (fun q hq e => by have h1 := HG.out; have h2 := HRB.out; omega), hR.byt, hR.len⟩⟩
          have h9 := (HC.out.1.but hB NE.out).set i (.int .u64 (x : Int))
          rw [HR1.out, ← HLn.out, uV_set] at h9
          rw [show m - (i + 1) = r by have := HR1.out; omega]
          rw [HLn.out] at h9
          exact h9
        clear z1 z2 hR hB FC
        go_wp2
        go_roundw
        case rel => exact ⟨i + 1, L ++ [x], by first | rfl | go_num, by omega, by rw [List.length_append, HLn.out]; rfl, HN.out.1, HN.out.2.1, HN.out.2.2, HLe.out, E0.out⟩
        case measure => simp [intOf]; omega
end Go.Proofs.Ytndhabhlajldeaa
/- The document's containers: typeWrong, number, at, sum. -/
namespace Go.Proofs.Ytndhabhlajldeaa
open Go.RowKit
end Go.Proofs.Ytndhabhlajldeaa
/- The document's containers: number, at, sum, lengths; lists of ints. -/
namespace Go.Proofs.Ytndhabhlajldeaa
open Go.RowKit
/-- ints as cells -/
def iV (l : List Nat) : List Value := l.map fun x : Nat => Value.int .i64 (x : Int)
theorem iV_len (l : List Nat) : (iV l).length = l.length := by simp [iV]
theorem iV_app (l m : List Nat) : iV (l ++ m) = iV l ++ iV m := by simp [iV]
theorem iV_one (l : List Nat) : ∀ u ∈ iV l, u.oneCell' = true := fun u hu => by
  obtain ⟨x, _, rfl⟩ := List.mem_map.1 hu
  rfl
/-- a list of ints of one's own -/
def InO (B : Nat) (W : World) (v : Value) (l : List Nat) : Prop := W.ownsRow B 3 1 v l.length (iV l)
theorem InO.past {B : Nat} {W W' : World} {v : Value} {l : List Nat} (h : InO B W v l) (k : Below W.heap.size W W') : InO B W' v l := owns_past h k
theorem InO.nil (B : Nat) (W : World) : InO B W (.slice none 0 0) [] := World.ownsRow_nil _ _ _ _
theorem InO.get {B : Nat} {W : World} {ad : Option Addr} {n c : Nat} {l : List Nat} (h : InO B W (.slice ad n c) l) {i x : Nat} (hi : l[i]? = some x) : ∃ g, ad = some ⟨g, 0, none⟩ ∧ W.cell? ⟨g, i, none⟩ = some (.int .i64 (x : Int)) := by
  have hl : i < l.length := (List.getElem?_eq_some_iff.1 hi).1
  rcases id h.2 with ⟨e, e2⟩ | ⟨g, c', cur, e, hb, hh, hq, _, hz, ht⟩
  · omega
  · injection e with e1 _ _
    subst e1
    refine ⟨g, rfl, ?_⟩
    have := World.ownsRow.cells h (g := g) rfl i (.int .i64 (x : Int)) (by simp [iV, hi])
    simpa [Addr.add_mid] using this
/-- append of one int -/
theorem wpList_appI {w : World} {ops : Array Oper} {rest : List Oper} {o : Oper} {a : Act} {Q : Exit → Act → World → Prop} (hgd : o.guard = none) (s x : Operand)
    (ho : o.op = .call { callee := .builtin .append, args := #[s, x], argTypes := #[45, 45] }) (B : Nat) (hB : B ≤ w.heap.size) (v : Value) (l : List Nat) (hs : a.eval s = v) (hown : InO B w v l)
    (y : Nat) (hx : a.eval x = .slice (some ⟨w.heap.size, 0, none⟩) 1 1) (hn : l.length + 1 ≤ 2199023255552)
    (h : ∀ v' w', App B 3 1 w w' v v' (l ++ [y]).length (iV (l ++ [y])) → wpList Try.prog ops Q rest (a.put o.dst v') w') : wpList Try.prog ops Q (o :: rest) a (w.alloc (.cells #[.int .i64 (y : Int)] 3)) :=
  wpList_plain hgd fun _ hK => by
    obtain ⟨ad, cap, rfl⟩ := owns_sl hown
    refine wp_apps s x 45 3 ho (.int .i64 0) 1 8 Try.underlying45 Try.infoI rfl (by omega) (by omega) B (Nat.le_trans hB (below_alloc _ _).size) ad l.length cap (iV l) hs (owns_past hown (below_alloc _ _)) ⟨w.heap.size, 0, none⟩ 1 1 (iV [y]) hx (by rw [iV_len]; rfl) (fun j c hj => ?_) (iV_one [y]) hn (fun ad' cap' w' q1 q2 q3 => hK _ _ (h _ _ ⟨?_, ?_, fun k hk => ?_⟩))
    · have hj0 : j = 0 := by have := (List.getElem?_eq_some_iff.1 hj).1; simpa [iV] using this
      subst hj0
      rw [Addr.add_mid]
      have := (CBox.new w 3 (iV [y])).cell 0
      rw [Nat.zero_add]
      exact this.trans hj
    · rw [List.length_append, iV_app]; exact q1
    · have b1 : But (OwnV (.slice ad l.length cap)) w (w.alloc (.cells #[.int .i64 (y : Int)] 3)) := below_but (below_alloc _ _)
      exact b1.trans (q2.mono fun k hk => own_iff.1 hk)
    · rcases q3.own (own_iff.2 hk) with e | e
      · exact Or.inl (own_iff.1 e)
      · exact Or.inr (Nat.le_trans (below_alloc _ _).size e)
end Go.Proofs.Ytndhabhlajldeaa
/- The document's containers: number. -/
namespace Go.Proofs.Ytndhabhlajldeaa
open Go.RowKit
end Go.Proofs.Ytndhabhlajldeaa
/- The document's containers: Check. -/
namespace Go.Proofs.Ytndhabhlajldeaa
open Go.RowKit
end Go.Proofs.Ytndhabhlajldeaa
/- The document's containers: Head. -/
namespace Go.Proofs.Ytndhabhlajldeaa
open Go.RowKit
theorem InO.app {B C s n n' : Nat} {W W' : World} {u v v' : Value} {l : List Nat} {cs cs' : List Value} (h : InO C W u l) (k : App B 5 s W W' v v' n cs) (hv : W.ownsRow B 5 s v n' cs') : InO C W' u l :=
  owns_row_blockB h fun g hg => k.but.block g (World.ownsRow.lt h g hg).2 fun e => by
    rcases hv.2 with ⟨rfl, _⟩ | ⟨g', c, cur, rfl, _, hh, _⟩
    · cases e
    · injection e with e
      subst e
      rcases id h.2 with ⟨rfl, _⟩ | ⟨g2, c2, cur2, rfl, _, hh2, _⟩
      · cases hg
      · injection hg with hg
        subst hg
        rw [hh] at hh2
        cases hh2
theorem InO.sl {C : Nat} {W : World} {v : Value} {l : List Nat} (h : InO C W v l) : ∃ ad cap, v = .slice ad l.length cap := owns_sl h
/-- a header that the document writes -/
structure HdI (B : Nat) (w W : World) (cv sv : Value) (cs ss : List Nat) (v0 v : Value) (l : List Nat) : Prop where
  app : App B 5 1 w W v0 v l.length (bV l)
  uc : InO 0 W cv cs
  us : InO 0 W sv ss
  hB : B ≤ w.heap.size
section
variable {B : Nat} {w W W' : World} {cv sv v0 v v' : Value} {cs ss l l' : List Nat}
theorem HdI.le (h : HdI B w W cv sv cs ss v0 v l) : B ≤ W.heap.size := Nat.le_trans h.hB h.app.but.size
theorem HdI.past (h : HdI B w W cv sv cs ss v0 v l) (k : Below W.heap.size W W') : HdI B w W' cv sv cs ss v0 v l := ⟨h.app.then k, h.uc.past k, h.us.past k, h.hB⟩
theorem HdI.step (h : HdI B w W cv sv cs ss v0 v l) (k : App B 5 1 W W' v v' l'.length (bV l')) : HdI B w W' cv sv cs ss v0 v' l' := ⟨h.app.trans k, h.uc.app k h.app.row, h.us.app k h.app.row, h.hB⟩
end
end Go.Proofs.Ytndhabhlajldeaa
