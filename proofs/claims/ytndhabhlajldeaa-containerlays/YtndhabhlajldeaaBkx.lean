/- What Parse takes is a container that may be, and its bytes are those that were read. -/
import Derived.Test.YtndhabhlajldeaaBkw
namespace Go.Proofs.Ytndhabhlajldeaa
theorem bind_ok {α β : Type} {x : Except Er α} {f : α → Except Er β} {y : β} (h : x.bind f = .ok y) : ∃ a, x = .ok a ∧ f a = .ok y := by
  cases x with
  | error e => cases h
  | ok a => exact ⟨a, rfl, h⟩
theorem byt_drop {b : List Nat} (h : Byt b) (k : Nat) : Byt (b.drop k) := fun x hx => h x (List.mem_of_mem_drop hx)
theorem byt_take {b : List Nat} (h : Byt b) (k : Nat) : Byt (b.take k) := fun x hx => h x (List.mem_of_mem_take hx)
theorem fld_was {b : List Nat} {k w n why : Nat} {p : Nat → Bool} (hb : Byt b) (h : fld b k w why p = .ok n) : b.drop k = dig w n ++ b.drop (k + w) ∧ n < 256 ^ w ∧ p n = true ∧ k + w ≤ b.length := by
  unfold fld at h
  split at h
  · cases h
  rename_i h1
  split at h
  · rename_i h2
    injection h with h
    have hl : ((b.drop k).take w).length = w := by rw [List.length_take, List.length_drop]; omega
    have hy : Byt ((b.drop k).take w) := byt_take (byt_drop hb k) w
    have h3 := num_lt _ hy
    rw [hl] at h3
    have h4 := dig_num w _ hl hy
    unfold rd at h h2
    rw [h] at h2 h3 h4
    refine ⟨?_, h3, h2, by omega⟩
    rw [h4, ← List.drop_drop, List.take_append_drop]
  · cases h
theorem lens_ok {b : List Nat} {w : Nat} (hb : Byt b) : ∀ (m k : Nat) (l : List Nat), lens b w k m = .ok l → l.length = m ∧ b.drop k = l.flatMap (dig w) ++ b.drop (k + w * m) ∧ ∀ x ∈ l, 0 < x ∧ x < 256 ^ w
  | 0, k, l, h => by
    injection h with h
    subst h
    exact ⟨rfl, by simp, fun x hx => by cases hx⟩
  | m + 1, k, l, h => by
    rw [lens] at h
    obtain ⟨n, h1, h⟩ := bind_ok h
    obtain ⟨r, h2, h⟩ := bind_ok h
    injection h with h
    subst h
    obtain ⟨a1, a2, a3, _⟩ := fld_was hb h1
    obtain ⟨b1, b2, b3⟩ := lens_ok hb m (k + w) r h2
    refine ⟨by rw [List.length_cons, b1], ?_, ?_⟩
    · rw [a1, b2, List.flatMap_cons, List.append_assoc, Nat.mul_succ, show k + (w * m + w) = k + w + w * m by omega]
    · intro x hx
      rcases List.mem_cons.1 hx with rfl | hx
      · exact ⟨by simpa using a3, a2⟩
      · exact b3 x hx
theorem tyAt_ok {b : List Nat} (hb : Byt b) {k i : Nat} {t : Ty} (h : tyAt b k i = .ok t) : b.drop k = tyb t ++ b.drop (k + 4) ∧ ¬ tyBad i t < 3 := by
  unfold tyAt at h
  obtain ⟨x, h1, h⟩ := bind_ok h
  obtain ⟨y, h2, h⟩ := bind_ok h
  obtain ⟨z, h3, h⟩ := bind_ok h
  injection h with h
  subst h
  obtain ⟨a1, _, a3, _⟩ := fld_was hb h1
  obtain ⟨b1, _, b3, _⟩ := fld_was hb h2
  obtain ⟨c1, _, c3, _⟩ := fld_was hb h3
  refine ⟨?_, parts_ty a3 b3 c3⟩
  rw [a1, b1]
  show _ ++ (_ ++ b.drop (k + 2)) = _
  rw [c1]
  unfold tyb
  simp only [Int.toNat_natCast, List.append_assoc]
theorem tys_ok {b : List Nat} (hb : Byt b) : ∀ (m k i : Nat) (l : List Ty), tys b k i m = .ok l → l.length = m ∧ b.drop k = l.flatMap tyb ++ b.drop (k + 4 * m) ∧ chkT i l = 0
  | 0, k, i, l, h => by
    injection h with h
    subst h
    exact ⟨rfl, by simp, rfl⟩
  | m + 1, k, i, l, h => by
    rw [tys] at h
    obtain ⟨t, h1, h⟩ := bind_ok h
    obtain ⟨r, h2, h⟩ := bind_ok h
    injection h with h
    subst h
    obtain ⟨a1, a2⟩ := tyAt_ok hb h1
    obtain ⟨b1, b2, b3⟩ := tys_ok hb m (k + 4) (i + 1) r h2
    refine ⟨by rw [List.length_cons, b1], ?_, ?_⟩
    · rw [a1, b2, List.flatMap_cons, List.append_assoc, Nat.mul_succ, show k + (4 * m + 4) = k + 4 + 4 * m by omega]
    · unfold chkT
      rw [if_neg a2]
      exact b3
theorem cuts_ok {b : List Nat} : ∀ (l : List Nat) (k : Nat), k + sumL l ≤ b.length → lns (cuts b k l) = l ∧ b.drop k = (cuts b k l).flatten ++ b.drop (k + sumL l)
  | [], k, _ => ⟨rfl, by simp [cuts, sumL]⟩
  | n :: l, k, h => by
    rw [sumL_cons] at h
    obtain ⟨h1, h2⟩ := cuts_ok (b := b) l (k + n) (by omega)
    refine ⟨?_, ?_⟩
    · show ((b.drop k).take n).length :: lns (cuts b (k + n) l) = _
      rw [h1, List.length_take, List.length_drop, Nat.min_eq_left (by omega)]
    · show _ = ((b.drop k).take n :: cuts b (k + n) l).flatten ++ _
      rw [List.flatten_cons, List.append_assoc, sumL_cons, ← Nat.add_assoc, ← h2, ← List.drop_drop, List.take_append_drop]
theorem chkP_of {m : Nat} : ∀ l : List (List Nat), (∀ x ∈ lns l, 0 < x ∧ x ≤ m) → chkP m l = 0
  | [], _ => rfl
  | x :: l, h => by
    have h1 := h x.length (List.mem_cons_self ..)
    unfold chkP
    rw [if_neg (by omega), if_neg (by omega)]
    exact chkP_of l fun y hy => h y (List.mem_cons_of_mem _ hy)
/-- what a header that is taken says -/
structure HdIs (b : List Nat) (h : Hd) : Prop where
  eq : b = hd h.cs h.ss h.d ++ b.drop h.e
  e : h.e = (hd h.cs h.ss h.d).length
  c0 : 0 < h.cs.length
  c1 : h.cs.length ≤ 1024
  hc : ∀ x ∈ h.cs, 0 < x ∧ x < 256 ^ 2
  s1 : h.ss.length ≤ 256
  hs : ∀ x ∈ h.ss, 0 < x ∧ x < 256 ^ 4
  hd : h.d < 65536
theorem hdEnd_ok {b : List Nat} (hb : Byt b) {k : Nat} {cs ss : List Nat} {h : Hd} (g : hdEnd b k cs ss = .ok h) : h.cs = cs ∧ h.ss = ss ∧ h.e = k + 3 ∧ h.d < 65536 ∧ b.drop k = dig 2 h.d ++ (dig 1 0 ++ b.drop (k + 3)) := by
  unfold hdEnd at g
  obtain ⟨d, h1, g⟩ := bind_ok g
  obtain ⟨z, h2, g⟩ := bind_ok g
  injection g with g
  subst g
  obtain ⟨a1, a2, _, _⟩ := fld_was hb h1
  obtain ⟨b1, _, b3, _⟩ := fld_was hb h2
  have hz : z = 0 := by simpa using b3
  subst hz
  exact ⟨rfl, rfl, rfl, a2, by rw [a1, b1]⟩
theorem hdSubs_ok {b : List Nat} (hb : Byt b) {k : Nat} {cs : List Nat} {h : Hd} (g : hdSubs b k cs = .ok h) : h.cs = cs ∧ 0 < h.ss.length ∧ h.ss.length ≤ 256 ∧ (∀ x ∈ h.ss, 0 < x ∧ x < 256 ^ 4) ∧ h.e = k + 2 + 4 * h.ss.length + 1 + 3 ∧ h.d < 65536 ∧ b.drop k = dig 2 h.ss.length ++ (h.ss.flatMap (dig 4) ++ (dig 1 255 ++ (dig 2 h.d ++ (dig 1 0 ++ b.drop h.e)))) := by
  unfold hdSubs at g
  obtain ⟨s, h1, g⟩ := bind_ok g
  obtain ⟨ss, h2, g⟩ := bind_ok g
  obtain ⟨z, h3, g⟩ := bind_ok g
  obtain ⟨e1, e2, e3, e4, e5⟩ := hdEnd_ok hb g
  obtain ⟨a1, _, a3, _⟩ := fld_was hb h1
  obtain ⟨b1, b2, b3⟩ := lens_ok hb _ _ _ h2
  obtain ⟨c1, _, c3, _⟩ := fld_was hb h3
  have hz : z = 255 := by simpa using c3
  subst hz
  subst b1
  subst e2
  unfold pS at a3
  simp at a3
  refine ⟨e1, by omega, by omega, b3, e3, e4, ?_⟩
  rw [e3, a1, b2, c1, e5]
theorem hdr_ok {b : List Nat} (hb : Byt b) {h : Hd} (g : hdr b = .ok h) : HdIs b h := by
  unfold hdr at g
  obtain ⟨x0, h0, g⟩ := bind_ok g
  obtain ⟨x1, h1, g⟩ := bind_ok g
  obtain ⟨x2, h2, g⟩ := bind_ok g
  obtain ⟨x3, h3, g⟩ := bind_ok g
  obtain ⟨t, h4, g⟩ := bind_ok g
  obtain ⟨x5, h5, g⟩ := bind_ok g
  obtain ⟨m, h6, g⟩ := bind_ok g
  obtain ⟨cs, h7, g⟩ := bind_ok g
  obtain ⟨a0, _, p0, _⟩ := fld_was hb h0
  obtain ⟨a1, _, p1, _⟩ := fld_was hb h1
  obtain ⟨a2, _, p2, _⟩ := fld_was hb h2
  obtain ⟨a3, _, p3, _⟩ := fld_was hb h3
  obtain ⟨a4, _, p4, _⟩ := fld_was hb h4
  obtain ⟨a5, _, p5, _⟩ := fld_was hb h5
  obtain ⟨a6, _, p6, _⟩ := fld_was hb h6
  obtain ⟨l7, a7, p7⟩ := lens_ok hb _ _ _ h7
  have q0 : x0 = 239 := by simpa using p0
  have q1 : x1 = 0 := by simpa using p1
  have q2 : x2 = 1 := by simpa using p2
  have q3 : x3 = 1 := by simpa using p3
  have q5 : x5 = 2 := by simpa using p5
  have q6 : m = t / 4 := by simpa using p6
  unfold pT at p4
  simp at p4
  have q4 : t = 4 * cs.length := by omega
  have l8 : cs.length = m := l7
  subst q0 q1 q2 q3 q5
  have hall : b = [239, 0, 1] ++ ([1] ++ dig 2 (4 * cs.length)) ++ ([2] ++ dig 2 cs.length ++ cs.flatMap (dig 2)) ++ b.drop (9 + 2 * cs.length) := by
    have e : b = b.drop 0 := rfl
    have a1' : b.drop (0 + 1) = _ := a1
    have a2' : b.drop (0 + 1 + 1) = _ := a2
    have a3' : b.drop (0 + 1 + 1 + 1) = _ := a3
    rw [q4] at a4
    rw [← l8] at a6 a7
    have z : b = dig 1 239 ++ (dig 1 0 ++ (dig 1 1 ++ (dig 1 1 ++ (dig 2 (4 * cs.length) ++ (dig 1 2 ++ (dig 2 cs.length ++ (cs.flatMap (dig 2) ++ b.drop (9 + 2 * cs.length)))))))) := by
      rw [← a7, ← show b.drop 7 = _ from a6, ← show b.drop 6 = _ from a5, ← show b.drop 4 = _ from a4, ← show b.drop 3 = _ from a3, ← show b.drop 2 = _ from a2, ← show b.drop 1 = _ from a1, ← show b.drop 0 = _ from a0]
      rfl
    refine z.trans ?_
    simp [dig]
  unfold hdKind at g
  obtain ⟨q, h8, g⟩ := bind_ok g
  obtain ⟨a8, _, p8, _⟩ := fld_was hb h8
  rw [← l8] at g a8
  split at g
  · rename_i e
    subst e
    obtain ⟨e1, e2, e3, e4, e5, e6, e7⟩ := hdSubs_ok hb g
    subst e1
    have w : b = hd h.cs h.ss h.d ++ b.drop h.e := by
      refine hall.trans ?_
      rw [a8, e7]
      unfold hd
      rw [if_neg (by omega)]
      simp [dig]
    refine ⟨w, ?_, by omega, by omega, p7, e3, e4, e6⟩
    rw [e5, hd_len, if_neg (by omega)]
    omega
  · rename_i e
    have q8 : q = 255 := by
      unfold pK at p8
      simp at p8
      omega
    subst q8
    obtain ⟨e1, e2, e3, e4, e5⟩ := hdEnd_ok hb g
    subst e1
    have w : b = hd h.cs h.ss h.d ++ b.drop h.e := by
      refine hall.trans ?_
      rw [a8, e5, e3]
      unfold hd
      rw [e2, if_pos (show ([] : List Nat).length = 0 from rfl)]
      simp [dig]
    refine ⟨w, ?_, by omega, by omega, p7, by rw [e2]; simp, by rw [e2]; simp, e4⟩
    rw [e3, hd_len, e2, if_pos (show ([] : List Nat).length = 0 from rfl)]
    omega
/-- 5.5: what is read is written as it was -/
theorem prs_ok {b : List Nat} (hb : Byt b) {opn : Bool} {c : Con} (g : prs b opn = .ok c) : May c ∧ ser c = b ∧ (opn = false → (c.d.length : Int) = c.n) := by
  unfold prs at g
  obtain ⟨h, g1, g⟩ := bind_ok g
  have H := hdr_ok hb g1
  simp only at g
  by_cases n1 : b.length < (if opn = true then h.e + 4 * h.cs.length + sumL h.cs + sumL h.ss else h.e + 4 * h.cs.length + sumL h.cs + sumL h.ss + h.d)
  · rw [if_pos n1] at g
    cases g
  rw [if_neg n1] at g
  by_cases n2 : h.e + 4 * h.cs.length + sumL h.cs + sumL h.ss + h.d < b.length
  · rw [if_pos n2] at g
    cases g
  rw [if_neg n2] at g
  obtain ⟨ts, g2, g⟩ := bind_ok g
  injection g with g
  obtain ⟨t1, t2, t3⟩ := tys_ok hb _ _ _ _ g2
  have n3 : h.e + 4 * h.cs.length + sumL h.cs + sumL h.ss ≤ b.length := by
    split at n1 <;> omega
  obtain ⟨u1, u2⟩ := cuts_ok (b := b) h.cs (h.e + 4 * h.cs.length) (by omega)
  obtain ⟨v1, v2⟩ := cuts_ok (b := b) h.ss (h.e + 4 * h.cs.length + sumL h.cs) (by omega)
  have lc : (cuts b (h.e + 4 * h.cs.length) h.cs).length = h.cs.length := by rw [← lns_len, u1]
  have ls : (cuts b (h.e + 4 * h.cs.length + sumL h.cs) h.ss).length = h.ss.length := by rw [← lns_len, v1]
  subst g
  have c0 := H.c0
  have c1 := H.c1
  have s1 := H.s1
  have hdl := H.hd
  refine ⟨⟨?_, ?_, ?_, ?_, ?_, ?_, ?_, ?_, t3⟩, ?_, ?_⟩
  · simp only; omega
  · simp only; omega
  · simp only; omega
  · simp only
    exact chkP_of _ fun x hx => by
      rw [u1] at hx
      have := H.hc x hx
      omega
  · simp only; omega
  · simp only
    exact chkP_of _ fun x hx => by
      rw [v1] at hx
      have := H.hs x hx
      omega
  · simp only; omega
  · simp only [List.length_drop]; omega
  · unfold ser
    simp only
    rw [u1, v1, Int.toNat_natCast, List.append_assoc, List.append_assoc, List.append_assoc, ← v2, ← u2, ← t2]
    exact H.eq.symm
  · intro e
    subst e
    simp only [List.length_drop]
    simp only [Bool.false_eq_true, if_false] at n1
    omega
end Go.Proofs.Ytndhabhlajldeaa
