/- What Parse takes is a container that may be, and its bytes are those that were read. -/
import Derived.Test.YtndhabhlajldeaaMz4
import Derived.Test.YtndhabhlajldeaaMz3
namespace Go.Proofs.Ytndhabhlajldeaa
theorem bind_ok {α β : Type} {x : Except Er α} {f : α → Except Er β} {y : β} (h : x.bind f = .ok y) : ∃ a, x = .ok a ∧ f a = .ok y := by
  cases x with
  | error e => cases h
  | ok a => exact ⟨a, rfl, h⟩
theorem byt_drop {b : List Nat} (h : Byt b) (k : Nat) : Byt (b.drop k) := fun x hx => h x (List.mem_of_mem_drop hx)
theorem byt_take {b : List Nat} (h : Byt b) (k : Nat) : Byt (b.take k) := fun x hx => h x (List.mem_of_mem_take hx)
theorem fld_was {b : List Nat} {k w n why : Nat} {p : Nat → Bool} (hb : Byt b) (h : fld b k w why p = .ok n) : b.drop k = dig w n ++ b.drop (k + w) ∧ n < 256 ^ w ∧ p n = true ∧ k + w ≤ b.length := by
  unfold fld at h
  split at h
  · cases h
  rename_i h1
  split at h
  · rename_i h2
    injection h with h
    have hl : ((b.drop k).take w).length = w := by rw [List.length_take, List.length_drop]; omega
    have hy : Byt ((b.drop k).take w) := byt_take (byt_drop hb k) w
    have h3 := num_lt _ hy
    rw [hl] at h3
    have h4 := dig_num w _ hl hy
    unfold rd at h h2
    rw [h] at h2 h3 h4
    refine ⟨?_, h3, h2, by omega⟩
    rw [h4, ← List.drop_drop, List.take_append_drop]
  · cases h
theorem lens_ok {b : List Nat} {w : Nat} (hb : Byt b) : ∀ (m k : Nat) (l : List Nat), lens b w k m = .ok l → l.length = m ∧ b.drop k = l.flatMap (dig w) ++ b.drop (k + w * m) ∧ ∀ x ∈ l, 0 < x ∧ x < 256 ^ w
  | 0, k, l, h => by
    injection h with h
    subst h
    exact ⟨rfl, by simp, fun x hx => by cases hx⟩
  | m + 1, k, l, h => by
    rw [lens] at h
    obtain ⟨n, h1, h⟩ := bind_ok h
    obtain ⟨r, h2, h⟩ := bind_ok h
    injection h with h
    subst h
    obtain ⟨a1, a2, a3, _⟩ := fld_was hb h1
    obtain ⟨b1, b2, b3⟩ := lens_ok hb m (k + w) r h2
    refine ⟨by rw [List.length_cons, b1], ?_, ?_⟩
    · rw [a1, b2, List.flatMap_cons, List.append_assoc, Nat.mul_succ, show k + (w * m + w) = k + w + w * m by omega]
    · intro x hx
      rcases List.mem_cons.1 hx with rfl | hx
      · exact ⟨by simpa using a3, a2⟩
      · exact b3 x hx
theorem tyAt_ok {b : List Nat} (hb : Byt b) {k i : Nat} {t : Ty} (h : tyAt b k i = .ok t) : b.drop k = tyb t ++ b.drop (k + 4) ∧ ¬ tyBad i t < 3 := by
  unfold tyAt at h
  obtain ⟨x, h1, h⟩ := bind_ok h
  obtain ⟨y, h2, h⟩ := bind_ok h
  obtain ⟨z, h3, h⟩ := bind_ok h
  injection h with h
  subst h
  obtain ⟨a1, _, a3, _⟩ := fld_was hb h1
  obtain ⟨b1, _, b3, _⟩ := fld_was hb h2
  obtain ⟨c1, _, c3, _⟩ := fld_was hb h3
  refine ⟨?_, parts_ty a3 b3 c3⟩
  rw [a1, b1]
  show _ ++ (_ ++ b.drop (k + 2)) = _
  rw [c1]
  unfold tyb
  simp only [Int.toNat_natCast, List.append_assoc]
theorem tys_ok {b : List Nat} (hb : Byt b) : ∀ (m k i : Nat) (l : List Ty), tys b k i m = .ok l → l.length = m ∧ b.drop k = l.flatMap tyb ++ b.drop (k + 4 * m) ∧ chkT i l = 0
  | 0, k, i, l, h => by
    injection h with h
    subst h
    exact ⟨rfl, by simp, rfl⟩
  | m + 1, k, i, l, h => by
    rw [tys] at h
    obtain ⟨t, h1, h⟩ := bind_ok h
    obtain ⟨r, h2, h⟩ := bind_ok h
    injection h with h
    subst h
    obtain ⟨a1, a2⟩ := tyAt_ok hb h1
    obtain ⟨b1, b2, b3⟩ := tys_ok hb m (k + 4) (i + 1) r h2
    refine ⟨by rw [List.length_cons, b1], ?_, ?_⟩
    · rw [a1, b2, List.flatMap_cons, List.append_assoc, Nat.mul_succ, show k + (4 * m + 4) = k + 4 + 4 * m by omega]
    · unfold chkT
      rw [if_neg a2]
      exact b3
theorem cuts_ok {b : List Nat} : ∀ (l : List Nat) (k : Nat), k + sumL l ≤ b.length → lns (cuts b k l) = l ∧ b.drop k = (cuts b k l).flatten ++ b.drop (k + sumL l)
  | [], k, _ => ⟨rfl, by simp [cuts, sumL]⟩
  | n :: l, k, h => by
    rw [sumL_cons] at h
    obtain ⟨h1, h2⟩ := cuts_ok (b := b) l (k + n) (by omega)
    refine ⟨?_, ?_⟩
    · show ((b.drop k).take n).length :: lns (cuts b (k + n) l) = _
      rw [h1, List.length_take, List.length_drop, Nat.min_eq_left (by omega)]
    · show _ = ((b.drop k).take n :: cuts b (k + n) l).flatten ++ _
      rw [List.flatten_cons, List.append_assoc, sumL_cons, ← Nat.add_assoc, ← h2, ← List.drop_drop, List.take_append_drop]
theorem chkP_of {m : Nat} : ∀ l : List (List Nat), (∀ x ∈ lns l, 0 < x ∧ x ≤ m) → chkP m l = 0
  | [], _ => rfl
  | x :: l, h => by
    have h1 := h x.length (List.mem_cons_self ..)
    unfold chkP
    rw [if_neg (by omega), if_neg (by omega)]
    exact chkP_of l fun y hy => h y (List.mem_cons_of_mem _ hy)
/-- what a header that is taken says -/
structure HdIs (b : List Nat) (h : Hd) : Prop where
  eq : b = hd h.cs h.ss h.d ++ b.drop h.e
  e : h.e = (hd h.cs h.ss h.d).length
  c0 : 0 < h.cs.length
  c1 : h.cs.length ≤ 1024
  hc : ∀ x ∈ h.cs, 0 < x ∧ x < 256 ^ 2
  s1 : h.ss.length ≤ 256
  hs : ∀ x ∈ h.ss, 0 < x ∧ x < 256 ^ 4
  hd : h.d < 65536
theorem hdEnd_ok {b : List Nat} (hb : Byt b) {k : Nat} {cs ss : List Nat} {h : Hd} (g : hdEnd b k cs ss = .ok h) : h.cs = cs ∧ h.ss = ss ∧ h.e = k + 3 ∧ h.d < 65536 ∧ b.drop k = dig 2 h.d ++ (dig 1 0 ++ b.drop (k + 3)) := by
  unfold hdEnd at g
  obtain ⟨d, h1, g⟩ := bind_ok g
  obtain ⟨z, h2, g⟩ := bind_ok g
  injection g with g
  subst g
  obtain ⟨a1, a2, _, _⟩ := fld_was hb h1
  obtain ⟨b1, _, b3, _⟩ := fld_was hb h2
  have hz : z = 0 := by simpa using b3
  subst hz
  exact ⟨rfl, rfl, rfl, a2, by rw [a1, b1]⟩
theorem hdSubs_ok {b : List Nat} (hb : Byt b) {k : Nat} {cs : List Nat} {h : Hd} (g : hdSubs b k cs = .ok h) : h.cs = cs ∧ 0 < h.ss.length ∧ h.ss.length ≤ 256 ∧ (∀ x ∈ h.ss, 0 < x ∧ x < 256 ^ 4) ∧ h.e = k + 2 + 4 * h.ss.length + 1 + 3 ∧ h.d < 65536 ∧ b.drop k = dig 2 h.ss.length ++ (h.ss.flatMap (dig 4) ++ (dig 1 255 ++ (dig 2 h.d ++ (dig 1 0 ++ b.drop h.e)))) := by
  unfold hdSubs at g
  obtain ⟨s, h1, g⟩ := bind_ok g
  obtain ⟨ss, h2, g⟩ := bind_ok g
  obtain ⟨z, h3, g⟩ := bind_ok g
  obtain ⟨e1, e2, e3, e4, e5⟩ := hdEnd_ok hb g
  obtain ⟨a1, _, a3, _⟩ := fld_was hb h1
  obtain ⟨b1, b2, b3⟩ := lens_ok hb _ _ _ h2
  obtain ⟨c1, _, c3, _⟩ := fld_was hb h3
  have hz : z = 255 := by simpa using c3
  subst hz
  subst b1
  subst e2
  unfold pS at a3
  simp at a3
  refine ⟨e1, by omega, by omega, b3, e3, e4, ?_⟩
  rw [e3, a1, b2, c1, e5]
theorem hdr_ok {b : List Nat} (hb : Byt b) {h : Hd} (g : hdr b = .ok h) : HdIs b h := by
  unfold hdr at g
  obtain ⟨x0, h0, g⟩ := bind_ok g
  obtain ⟨x1, h1, g⟩ := bind_ok g
  obtain ⟨x2, h2, g⟩ := bind_ok g
  obtain ⟨x3, h3, g⟩ := bind_ok g
  obtain ⟨t, h4, g⟩ := bind_ok g
  obtain ⟨x5, h5, g⟩ := bind_ok g
  obtain ⟨m, h6, g⟩ := bind_ok g
  obtain ⟨cs, h7, g⟩ := bind_ok g
  obtain ⟨a0, _, p0, _⟩ := fld_was hb h0
  obtain ⟨a1, _, p1, _⟩ := fld_was hb h1
  obtain ⟨a2, _, p2, _⟩ := fld_was hb h2
  obtain ⟨a3, _, p3, _⟩ := fld_was hb h3
  obtain ⟨a4, _, p4, _⟩ := fld_was hb h4
  obtain ⟨a5, _, p5, _⟩ := fld_was hb h5
  obtain ⟨a6, _, p6, _⟩ := fld_was hb h6
  obtain ⟨l7, a7, p7⟩ := lens_ok hb _ _ _ h7
  have q0 : x0 = 239 := by simpa using p0
  have q1 : x1 = 0 := by simpa using p1
  have q2 : x2 = 1 := by simpa using p2
  have q3 : x3 = 1 := by simpa using p3
  have q5 : x5 = 2 := by simpa using p5
  have q6 : m = t / 4 := by simpa using p6
  unfold pT at p4
  simp at p4
  have q4 : t = 4 * cs.length := by omega
  have l8 : cs.length = m := l7
  subst q0 q1 q2 q3 q5
  have hall : b = [239, 0, 1] ++ ([1] ++ dig 2 (4 * cs.length)) ++ ([2] ++ dig 2 cs.length ++ cs.flatMap (dig 2)) ++ b.drop (9 + 2 * cs.length) := by
    have e : b = b.drop 0 := rfl
    have a1' : b.drop (0 + 1) = _ := a1
    have a2' : b.drop (0 + 1 + 1) = _ := a2
    have a3' : b.drop (0 + 1 + 1 + 1) = _ := a3
    rw [q4] at a4
    rw [← l8] at a6 a7
    have z : b = dig 1 239 ++ (dig 1 0 ++ (dig 1 1 ++ (dig 1 1 ++ (dig 2 (4 * cs.length) ++ (dig 1 2 ++ (dig 2 cs.length ++ (cs.flatMap (dig 2) ++ b.drop (9 + 2 * cs.length)))))))) := by
      rw [← a7, ← show b.drop 7 = _ from a6, ← show b.drop 6 = _ from a5, ← show b.drop 4 = _ from a4, ← show b.drop 3 = _ from a3, ← show b.drop 2 = _ from a2, ← show b.drop 1 = _ from a1, ← show b.drop 0 = _ from a0]
      rfl
    refine z.trans ?_
    simp [dig]
  unfold hdKind at g
  obtain ⟨q, h8, g⟩ := bind_ok g
  obtain ⟨a8, _, p8, _⟩ := fld_was hb h8
  rw [← l8] at g a8
  split at g
  · rename_i e
    subst e
    obtain ⟨e1, e2, e3, e4, e5, e6, e7⟩ := hdSubs_ok hb g
    subst e1
    have w : b = hd h.cs h.ss h.d ++ b.drop h.e := by
      refine hall.trans ?_
      rw [a8, e7]
      unfold hd
      rw [if_neg (by omega)]
      simp [dig]
    refine ⟨w, ?_, by omega, by omega, p7, e3, e4, e6⟩
    rw [e5, hd_len, if_neg (by omega)]
    omega
  · rename_i e
    have q8 : q = 255 := by
      unfold pK at p8
      simp at p8
      omega
    subst q8
    obtain ⟨e1, e2, e3, e4, e5⟩ := hdEnd_ok hb g
    subst e1
    have w : b = hd h.cs h.ss h.d ++ b.drop h.e := by
      refine hall.trans ?_
      rw [a8, e5, e3]
      unfold hd
      rw [e2, if_pos (show ([] : List Nat).length = 0 from rfl)]
      simp [dig]
    refine ⟨w, ?_, by omega, by omega, p7, by rw [e2]; simp, by rw [e2]; simp, e4⟩
    rw [e3, hd_len, e2, if_pos (show ([] : List Nat).length = 0 from rfl)]
    omega
/-- 5.5: what is read is written as it was -/
theorem prs_ok {b : List Nat} (hb : Byt b) {opn : Bool} {c : Con} (g : prs b opn = .ok c) : May c ∧ ser c = b ∧ (opn = false → (c.d.length : Int) = c.n) := by
  unfold prs at g
  obtain ⟨h, g1, g⟩ := bind_ok g
  have H := hdr_ok hb g1
  simp only at g
  by_cases n1 : b.length < (if opn = true then h.e + 4 * h.cs.length + sumL h.cs + sumL h.ss else h.e + 4 * h.cs.length + sumL h.cs + sumL h.ss + h.d)
  · rw [if_pos n1] at g
    cases g
  rw [if_neg n1] at g
  by_cases n2 : h.e + 4 * h.cs.length + sumL h.cs + sumL h.ss + h.d < b.length
  · rw [if_pos n2] at g
    cases g
  rw [if_neg n2] at g
  obtain ⟨ts, g2, g⟩ := bind_ok g
  injection g with g
  obtain ⟨t1, t2, t3⟩ := tys_ok hb _ _ _ _ g2
  have n3 : h.e + 4 * h.cs.length + sumL h.cs + sumL h.ss ≤ b.length := by
    split at n1 <;> omega
  obtain ⟨u1, u2⟩ := cuts_ok (b := b) h.cs (h.e + 4 * h.cs.length) (by omega)
  obtain ⟨v1, v2⟩ := cuts_ok (b := b) h.ss (h.e + 4 * h.cs.length + sumL h.cs) (by omega)
  have lc : (cuts b (h.e + 4 * h.cs.length) h.cs).length = h.cs.length := by rw [← lns_len, u1]
  have ls : (cuts b (h.e + 4 * h.cs.length + sumL h.cs) h.ss).length = h.ss.length := by rw [← lns_len, v1]
  subst g
  have c0 := H.c0
  have c1 := H.c1
  have s1 := H.s1
  have hdl := H.hd
  refine ⟨⟨?_, ?_, ?_, ?_, ?_, ?_, ?_, ?_, t3⟩, ?_, ?_⟩
  · simp only; omega
  · simp only; omega
  · simp only; omega
  · simp only
    exact chkP_of _ fun x hx => by
      rw [u1] at hx
      have := H.hc x hx
      omega
  · simp only; omega
  · simp only
    exact chkP_of _ fun x hx => by
      rw [v1] at hx
      have := H.hs x hx
      omega
  · simp only; omega
  · simp only [List.length_drop]; omega
  · unfold ser
    simp only
    rw [u1, v1, Int.toNat_natCast, List.append_assoc, List.append_assoc, List.append_assoc, ← v2, ← u2, ← t2]
    exact H.eq.symm
  · intro e
    subst e
    simp only [List.length_drop]
    simp only [Bool.false_eq_true, if_false] at n1
    omega
end Go.Proofs.Ytndhabhlajldeaa
/- The document's containers: Size, what is told of what is refused. -/
namespace Go.Proofs.Ytndhabhlajldeaa
open Go.RowKit
theorem results_cc {fn : Func} {p q : Tmp} {ty tz : TypeId} (h : fn.results = #[.cell p ty, .cell q tz]) (tmps : Array Value) (P : Program) (w : World) (a b : Addr) (ha : tmps.getD p undef = .pointer (some a)) (hb : tmps.getD q undef = .pointer (some b)) {v u : Value} (hl : (loadVar ty a).run P w = .ok v w) (hm : (loadVar tz b).run P w = .ok u w) : (results fn tmps).run P w = .ok (.tuple #[v, u]) w := by
  have ha' : tmps[p]?.getD undef = .pointer (some a) := by simpa using ha
  have hb' : tmps[q]?.getD undef = .pointer (some b) := by simpa using hb
  simp only [results, h]
  simp [ha', hb', hl, hm, asAddr]
set_option maxHeartbeats 4000000 in
set_option maxRecDepth 100000 in
theorem rsize_is {P : Nat → Prop} (w : World) (v : Value) (c : Con) (h : CW P w v c) (hsm : Small c) : Calls Try.prog 39 #[v] w fun e w' => e = .returned (.tuple #[.int .i64 ((serR c).length : Int), .int .i64 (chk c)]) ∧ Below w.heap.size w w' := by
  obtain ⟨tv, cv, sv, dv, rfl, hT, hC, hS, hD⟩ := id h
  obtain ⟨ta, tc, rfl, _⟩ := hT.len
  obtain ⟨ca, cc, rfl, _⟩ := hC.len
  obtain ⟨sa, sc, rfl, _⟩ := hS.len
  obtain ⟨da, dc, rfl, _⟩ := hD.len
  have CK : Hid (∀ W, Below w.heap.size w W → Calls Try.prog 36 #[.agg #[.slice ta c.ts.length tc, .slice ca c.cs.length cc, .slice sa c.ss.length sc, .slice da c.d.length dc, .int .i64 c.n]] W fun e w' => ∃ v', e = .returned (.tuple #[v', .int .i64 (chk c)]) ∧ w'.ownsRow W.heap.size 5 1 v' (serR c).length (bV (serR c)) ∧ Below W.heap.size W w') := fun W hW => rserialize_is W _ c (h.past hW) hsm
  have B0 : Hid (Below w.heap.size w (w.alloc (.cells #[.slice ta c.ts.length tc, .slice ca c.cs.length cc, .slice sa c.ss.length sc, .slice da c.d.length dc, .int .i64 c.n] 28)) ∧ CBox (w.alloc (.cells #[.slice ta c.ts.length tc, .slice ca c.cs.length cc, .slice sa c.ss.length sc, .slice da c.d.length dc, .int .i64 c.n] 28)) w.heap.size 28 [.slice ta c.ts.length tc, .slice ca c.cs.length cc, .slice sa c.ss.length sc, .slice da c.d.length dc, .int .i64 c.n]) := ⟨below_alloc _ _, CBox.new _ _ [_, _, _, _, _]⟩
  clear h hT hC hS hD
  generalize chk c = r at *
  generalize serR c = sr at *
  generalize c.ts.length = nt at *
  generalize c.cs.length = nc at *
  generalize c.ss.length = ns at *
  generalize c.d.length = nd at *
  generalize c.n = z at *
  generalize hbx : w.heap.size = bx at *
  have GE : Hid (bx ≤ w.heap.size) := by unfold Hid; omega
  go_enter Try.func39, Try.ntmps39
  go_upto_region 1 with fail
  generalize w.alloc _ = W0 at B0 ⊢
  have c0 : W0.cell? ⟨bx, 0, none⟩ = some (.slice ta nt tc) := B0.out.2.cell 0
  have c1 : W0.cell? ⟨bx, 1, none⟩ = some (.slice ca nc cc) := B0.out.2.cell 1
  have c2 : W0.cell? ⟨bx, 2, none⟩ = some (.slice sa ns sc) := B0.out.2.cell 2
  have c3 : W0.cell? ⟨bx, 3, none⟩ = some (.slice da nd dc) := B0.out.2.cell 3
  have c4 : W0.cell? ⟨bx, 4, none⟩ = some (.int .i64 z) := B0.out.2.cell 4
  clear hbx
  go_upto_region 2 with (go_at_call 36; refine (CK.out _ B0.out.1).mono ?_; rintro e w1 ⟨v', rfl, hO, hB⟩; obtain ⟨ad, cap, rfl⟩ := owns_sl hO)
  clear hO c0 c1 c2 c3 c4
  go_wp2
  go_ret2
  exact ⟨rfl, B0.out.1.trans (hB.mono (Nat.le_trans GE.out B0.out.1.size))⟩
set_option maxHeartbeats 4000000 in
set_option maxRecDepth 100000 in
theorem refused_is (w : World) (x y : Int) : Calls Try.prog 69 #[.int .i64 x, .int .i64 y] w fun e w' => e = .returned (.tuple #[.agg #[.slice none 0 0, .slice none 0 0, .slice none 0 0, .slice none 0 0, .int .i64 0], .agg #[.int .i64 x, .slice none 0 0, .int .i64 0, .int .i64 y]]) ∧ Below w.heap.size w w' := by
  go_enter Try.func69, Try.ntmps69
  go_wp2
  have B1 : Below w.heap.size w (w.alloc (.cells #[.slice none 0 0, .slice none 0 0, .slice none 0 0, .slice none 0 0, .int .i64 0] 28)) := below_alloc _ _
  have C1 : CBox (w.alloc (.cells #[.slice none 0 0, .slice none 0 0, .slice none 0 0, .slice none 0 0, .int .i64 0] 28)) w.heap.size 28 [.slice none 0 0, .slice none 0 0, .slice none 0 0, .slice none 0 0, .int .i64 0] := CBox.new _ _ _
  have hs : (w.alloc (.cells #[.slice none 0 0, .slice none 0 0, .slice none 0 0, .slice none 0 0, .int .i64 0] 28)).heap.size = w.heap.size + 1 := by simp
  generalize w.alloc _ = W1 at B1 C1 hs ⊢
  have B2 : Below W1.heap.size W1 (W1.alloc (.cells #[.int .i64 x, .slice none 0 0, .int .i64 0, .int .i64 y] 47)) := below_alloc _ _
  have C2 : CBox (W1.alloc (.cells #[.int .i64 x, .slice none 0 0, .int .i64 0, .int .i64 y] 47)) W1.heap.size 47 [.int .i64 x, .slice none 0 0, .int .i64 0, .int .i64 y] := CBox.new _ _ _
  have C1' := C1.past B2
  generalize W1.alloc _ = W2 at B2 C2 C1' ⊢
  rw [hs] at C2
  refine bodyPost_ret (v := .tuple #[.agg #[.slice none 0 0, .slice none 0 0, .slice none 0 0, .slice none 0 0, .int .i64 0], .agg #[.int .i64 x, .slice none 0 0, .int .i64 0, .int .i64 y]]) (results_cc (p := 4) (q := 5) (ty := 28) (tz := 47) Try.results69 _ _ _ ⟨w.heap.size, 0, none⟩ ⟨w.heap.size + 1, 0, none⟩ rfl rfl (run_loadVar_mid W2 _ 0 28 [.slice none 0 0, .slice none 0 0, .slice none 0 0, .slice none 0 0, .int .i64 0] _ C1'.range Try.underlying28 rfl (by kernel_rfl)) (run_loadVar_mid W2 _ 0 47 [.int .i64 x, .slice none 0 0, .int .i64 0, .int .i64 y] _ C2.range Try.underlying47 rfl (by kernel_rfl))) rfl ?_
  exact ⟨rfl, B1.trans (B2.mono B1.size)⟩
end Go.Proofs.Ytndhabhlajldeaa
/- Package container: the reader's measure and pieces. -/
namespace Go.Proofs.Ytndhabhlajldeaa
open Go.RowKit
def msr (b : List Nat) (k n d : Nat) (opn : Bool) : Except Er Unit := if b.length < (if opn then k + n else k + n + d) then .error (50, b.length) else if k + n + d < b.length then .error (58, k + n + d) else .ok ()
theorem msr_cut {b : List Nat} {k n d : Nat} {opn : Bool} (h : b.length < (if opn then k + n else k + n + d)) : msr b k n d opn = .error (50, b.length) := by unfold msr; rw [if_pos h]
theorem msr_tail {b : List Nat} {k n d : Nat} {opn : Bool} (h : ¬ b.length < (if opn then k + n else k + n + d)) (h2 : k + n + d < b.length) : msr b k n d opn = .error (58, k + n + d) := by unfold msr; rw [if_neg h, if_pos h2]
theorem msr_ok {b : List Nat} {k n d : Nat} {opn : Bool} (h : ¬ b.length < (if opn then k + n else k + n + d)) (h2 : ¬ k + n + d < b.length) : msr b k n d opn = .ok () := by unfold msr; rw [if_neg h, if_neg h2]
set_option maxHeartbeats 4000000 in
set_option maxRecDepth 100000 in
theorem measure_is (w : World) (rb : Nat) (bs : Value) (b : List Nat) (k d : Nat) (cv sv : Value) (cs ss : List Nat) (opn : Bool) (h : Rdr w rb bs b k) (hc : UL w cv cs) (hs : UL w sv ss) (hb : k + (4 * cs.length + sumL cs + sumL ss) + d < 4611686018427387904) (hsl : ss.length ≤ 16777216) :
    Calls Try.prog 66 #[.pointer (some ⟨rb, 0, none⟩), .agg #[cv, sv, .int .u64 (d : Int)], .bool opn] w fun e w' => Out rb w (msr b k (4 * cs.length + sumL cs + sumL ss) d opn) (fun _ e w' => e = .returned (.tuple #[]) ∧ Below w.heap.size w w') e w' := by
  obtain ⟨ba, bc, rfl, _⟩ := h.by'.len
  obtain ⟨ca, rfl⟩ := hc.len
  obtain ⟨sa, rfl⟩ := hs.len
  have nl := h.len
  obtain ⟨MM, hM⟩ : ∃ MM, MM = msr b k (4 * cs.length + sumL cs + sumL ss) d opn := ⟨_, rfl⟩
  rw [← hM]
  have BH : Hid (∀ W, Below w.heap.size w W → Calls Try.prog 81 #[.agg #[.slice ca cs.length cs.length, .slice sa ss.length ss.length, .int .u64 (d : Int)]] W fun e w' => e = .returned (.int .u64 ((4 * cs.length + sumL cs + sumL ss : Nat) : Int)) ∧ Below W.heap.size W w') := fun W hW => behind_is W _ _ cs ss d (hc.past hW) (hs.past hW) (by omega) ⟨by omega, by omega⟩
  generalize hm : 4 * cs.length + sumL cs + sumL ss = m at *
  obtain ⟨s1, hs1⟩ : ∃ s1 : Nat, s1 = k + m := ⟨_, rfl⟩
  obtain ⟨s2, hs2⟩ : ∃ s2 : Nat, s2 = s1 + d := ⟨_, rfl⟩
  have r1 : (k : Int) + (m : Int) = (s1 : Int) := by omega
  have r2 : (s1 : Int) + (d : Int) = (s2 : Int) := by omega
  have w1 : IntKind.u64.wrap (s1 : Int) = (s1 : Int) := by rw [IntKind.wrap_u64]; omega
  have w2 : IntKind.u64.wrap (s2 : Int) = (s2 : Int) := by rw [IntKind.wrap_u64]; omega
  have w3 : IntKind.u64.wrap (k : Int) = (k : Int) := by rw [IntKind.wrap_u64]; omega
  have w4 : IntKind.i64.wrap (s2 : Int) = (s2 : Int) := by rw [IntKind.wrap_i64]; omega
  have w5 : IntKind.u64.wrap (b.length : Int) = (b.length : Int) := by rw [IntKind.wrap_u64]; omega
  have M1 : Hid (b.length < (if opn then s1 else s2) → MM = .error (50, b.length)) := fun q => by rw [hM]; exact msr_cut (by cases opn <;> simp only [if_true, if_false, Bool.false_eq_true] at q ⊢ <;> omega)
  have M2 : Hid (¬ b.length < (if opn then s1 else s2) → s2 < b.length → MM = .error (58, s2)) := fun q q2 => by rw [hM, msr_tail (by cases opn <;> simp only [if_true, if_false, Bool.false_eq_true] at q ⊢ <;> omega) (by omega), hs2, hs1]
  have M3 : Hid (¬ b.length < (if opn then s1 else s2) → ¬ s2 < b.length → MM = .ok ()) := fun q q2 => by rw [hM]; exact msr_ok (by cases opn <;> simp only [if_true, if_false, Bool.false_eq_true] at q ⊢ <;> omega) (by omega)
  have B0 : Hid (Below w.heap.size w (w.alloc (.cells #[.slice ca cs.length cs.length, .slice sa ss.length ss.length, .int .u64 (d : Int)] 84)) ∧ CBox (w.alloc (.cells #[.slice ca cs.length cs.length, .slice sa ss.length ss.length, .int .u64 (d : Int)] 84)) rb 81 [.slice ba b.length bc, .int .i64 (k : Int)] ∧ CBox (w.alloc (.cells #[.slice ca cs.length cs.length, .slice sa ss.length ss.length, .int .u64 (d : Int)] 84)) w.heap.size 84 [.slice ca cs.length cs.length, .slice sa ss.length ss.length, .int .u64 (d : Int)]) := ⟨below_alloc _ _, h.box.past (below_alloc _ _), CBox.new _ _ [_, _, _]⟩
  have nI : (b.length : Int) ≤ 16777216 := by omega
  clear h hc hs hM hs1 hs2 hm hb nl hsl
  generalize b.length = n at *
  generalize cs.length = nc at *
  generalize ss.length = ns at *
  generalize hbx : w.heap.size = bx at *
  have GB : Hid (w.heap.size = bx) := hbx
  have GE : Hid (bx ≤ w.heap.size) := by unfold Hid; omega
  clear hbx
  go_enter Try.func66, Try.ntmps66
  go_upto_region 1 with fail
  rw [GB.out]
  generalize w.alloc _ = W0 at B0 ⊢
  refine wp_region_held_drew (S := fun V' => CBox V' rb 81 [.slice ba n bc, .int .i64 (k : Int)] ∧ CBox V' bx 84 [.slice ca nc nc, .slice sa ns ns, .int .u64 (d : Int)]) (by kernel_rfl) ⟨B0.out.2.1.past below_drew, B0.out.2.2.past below_drew⟩ (fun hHeld => ?_)
  have B0 : Hid (Below bx w W0.drew ∧ True) := ⟨B0.out.1.trans (below_drew.mono (Nat.le_trans GE.out B0.out.1.size)), trivial⟩
  generalize W0.drew = z0 at hHeld B0 ⊢
  refine wpAnyH_take (i := 0) (v := .pointer (some ⟨rb, 0, none⟩)) ov0 (by kernel_rfl) (by kernel_rfl) (by kernel_rfl) (fun _ _ _ h => h) (Or.inl ⟨by rfl, fun V' hS => ?_⟩) hHeld ?_
  · go_simp
  simp only [Act.put, List.setIfInBounds_toArray, List.set_cons_zero, List.set_cons_succ]
  refine wpAnyH_take (i := 1) (v := .pointer (some ⟨rb, 0, none⟩)) ov1 (by kernel_rfl) (by kernel_rfl) (by kernel_rfl) (fun _ _ _ h => h) (Or.inl ⟨by rfl, fun V' hS => ?_⟩) hHeld ?_
  · go_simp
  simp only [Act.put, List.setIfInBounds_toArray, List.set_cons_zero, List.set_cons_succ]
  refine wpAnyH_take (i := 2) (v := .pointer (some ⟨rb, 1, none⟩)) ov2 (by kernel_rfl) (by kernel_rfl) (by kernel_rfl) (fun _ _ _ h => h) (Or.inl ⟨by rfl, fun V' hS => ?_⟩) hHeld ?_
  · go_simp
  simp only [Act.put, List.setIfInBounds_toArray, List.set_cons_zero, List.set_cons_succ]
  refine wpAnyH_take (i := 3) (v := .int .i64 (k : Int)) ov3 (by kernel_rfl) (by kernel_rfl) (by kernel_rfl) (fun _ _ _ h => h) (Or.inl ⟨by rfl, fun V' hS => ?_⟩) hHeld ?_
  · have c0 : V'.cell? ⟨rb, 1, none⟩ = some (.int .i64 (k : Int)) := hS.1.cell 1
    go_simp
  simp only [Act.put, List.setIfInBounds_toArray, List.set_cons_zero, List.set_cons_succ]
  refine wpAnyH_take (i := 4) (v := .int .u64 (k : Int)) ov4 (by kernel_rfl) (by kernel_rfl) (by kernel_rfl) (fun _ _ _ h => h) (Or.inl ⟨by rfl, fun V' hS => ?_⟩) hHeld ?_
  · go_simp
  simp only [Act.put, List.setIfInBounds_toArray, List.set_cons_zero, List.set_cons_succ]
  refine wpAnyH_take (i := 5) (v := .agg #[.slice ca nc nc, .slice sa ns ns, .int .u64 (d : Int)]) ov5 (by kernel_rfl) (by kernel_rfl) (by kernel_rfl) (fun _ _ _ h => h) (Or.inl ⟨by rfl, fun V' hS => ?_⟩) hHeld ?_
  · have c0 : V'.cell? ⟨bx, 0, none⟩ = some (.slice ca nc nc) := hS.2.cell 0; have c1 : V'.cell? ⟨bx, 1, none⟩ = some (.slice sa ns ns) := hS.2.cell 1; have c2 : V'.cell? ⟨bx, 2, none⟩ = some (.int .u64 (d : Int)) := hS.2.cell 2
    go_simp
  simp only [Act.put, List.setIfInBounds_toArray, List.set_cons_zero, List.set_cons_succ]
  refine wpAnyH_ready (rs := [6]) (by kernel_rfl) (by simp) ?_
  refine AllReadyH.cons ov6 (fun K hK => ?_) AllReadyH.nil
  rw [if_pos (by rfl)]
  go_simp
  refine (BH.out _ B0.out.1).mono ?_
  rintro e z1 ⟨rfl, hB1⟩
  have H1 := (⟨hHeld.1.past hB1, hHeld.2.past hB1⟩ : _ ∧ _)
  have B1 : Hid (Below bx w z1) := B0.out.1.trans (hB1.mono (Nat.le_trans GE.out B0.out.1.size))
  (try go_wp2_with fail)
  refine hK.out _ _ H1 (fun _ => ?_)
  clear hK K
  (try simp only [Act.put, List.setIfInBounds_toArray, List.set_cons_zero, List.set_cons_succ])
  refine wpAnyH_take (i := 7) (v := .int .u64 (s1 : Int)) ov7 (by kernel_rfl) (by kernel_rfl) (by kernel_rfl) (fun _ _ _ h => h) (Or.inl ⟨by rfl, fun V' hS => ?_⟩) H1 ?_
  · go_simp
  simp only [Act.put, List.setIfInBounds_toArray, List.set_cons_zero, List.set_cons_succ]
  refine wpAnyH_take (i := 8) (v := .int .u64 (s1 : Int)) ov8 (by kernel_rfl) (by kernel_rfl) (by kernel_rfl) (fun _ _ _ h => h) (Or.inl ⟨by rfl, fun V' hS => ?_⟩) H1 ?_
  · go_simp
  simp only [Act.put, List.setIfInBounds_toArray, List.set_cons_zero, List.set_cons_succ]
  refine wpAnyH_done (by kernel_rfl) ?_ _
  have k2 : z1.cell? ⟨bx, 2, none⟩ = some (.int .u64 (d : Int)) := H1.2.cell 2
  have k0 : z1.cell? ⟨rb, 0, none⟩ = some (.slice ba n bc) := H1.1.cell 0
  clear hHeld B0 H1
  cases opn with
  | true =>
    simp only [if_true] at M1 M2 M3
    by_cases e1 : n < s1
    · have E0 : Hid (MM = .error (50, n)) := M1.out e1
      have q1 : (n : Int) < (s1 : Int) := by omega
      clear M1 M2 M3
      go_wp2_with (go_at_call 98; refine (giveUp_is _ 50 (n : Int)).mono ?_; rintro e w' ⟨rfl, hw⟩; (have hw2 := hw.symm); clear hw; subst hw2; unfold thrown rejV)
      refine ⟨rfl, ?_⟩
      rw [E0.out]
      exact ⟨rfl, below_but (GB.out ▸ B1.out)⟩
    have q1 : ¬ (n : Int) < (s1 : Int) := by omega
    by_cases e2 : s2 < n
    · have E0 : Hid (MM = .error (58, s2)) := M2.out e1 e2
      have q2 : (s2 : Int) < (n : Int) := by omega
      clear M1 M2 M3
      go_wp2_with (go_at_call 98; refine (giveUp_is _ 58 (s2 : Int)).mono ?_; rintro e w' ⟨rfl, hw⟩; (have hw2 := hw.symm); clear hw; subst hw2; unfold thrown rejV)
      refine ⟨rfl, ?_⟩
      rw [E0.out]
      exact ⟨rfl, below_but (GB.out ▸ B1.out)⟩
    · have E0 : Hid (MM = .ok ()) := M3.out e1 e2
      have q2 : ¬ (s2 : Int) < (n : Int) := by omega
      clear M1 M2 M3
      go_wp2
      go_end0
      rw [E0.out]
      exact ⟨rfl, B1.out⟩
  | false =>
    simp only [if_false, Bool.false_eq_true] at M1 M2 M3
    by_cases e1 : n < s2
    · have E0 : Hid (MM = .error (50, n)) := M1.out e1
      have q1 : (n : Int) < (s2 : Int) := by omega
      clear M1 M2 M3
      go_wp2_with (go_at_call 98; refine (giveUp_is _ 50 (n : Int)).mono ?_; rintro e w' ⟨rfl, hw⟩; (have hw2 := hw.symm); clear hw; subst hw2; unfold thrown rejV)
      refine ⟨rfl, ?_⟩
      rw [E0.out]
      exact ⟨rfl, below_but (GB.out ▸ B1.out)⟩
    have q1 : ¬ (n : Int) < (s2 : Int) := by omega
    by_cases e2 : s2 < n
    · have E0 : Hid (MM = .error (58, s2)) := M2.out e1 e2
      have q2 : (s2 : Int) < (n : Int) := by omega
      clear M1 M2 M3
      go_wp2_with (go_at_call 98; refine (giveUp_is _ 58 (s2 : Int)).mono ?_; rintro e w' ⟨rfl, hw⟩; (have hw2 := hw.symm); clear hw; subst hw2; unfold thrown rejV)
      refine ⟨rfl, ?_⟩
      rw [E0.out]
      exact ⟨rfl, below_but (GB.out ▸ B1.out)⟩
    · have E0 : Hid (MM = .ok ()) := M3.out e1 e2
      have q2 : ¬ (s2 : Int) < (n : Int) := by omega
      clear M1 M2 M3
      go_wp2
      go_end0
      rw [E0.out]
      exact ⟨rfl, B1.out⟩
theorem cuts_len : ∀ (b : List Nat) (ls : List Nat) (k : Nat), (cuts b k ls).length = ls.length
  | _, [], _ => rfl
  | b, n :: r, k => by rw [cuts, List.length_cons, cuts_len b r, List.length_cons]
theorem cuts_get : ∀ (b : List Nat) (ls : List Nat) (k i n : Nat), ls[i]? = some n → (cuts b k ls)[i]? = some ((b.drop (k + sumL (ls.take i))).take n)
  | b, [], k, i, n, h => by cases h
  | b, x :: r, k, 0, n, h => by simp at h; subst h; simp [cuts, sumL]
  | b, x :: r, k, i + 1, n, h => by
    rw [cuts, List.getElem?_cons_succ, cuts_get b r (k + x) i n (by simpa using h), List.take_succ_cons, sumL_cons, Nat.add_assoc]
/-- pieces in blocks of their own, at B or above: the values that stand in the list, and what each is -/
def Own1 (B : Nat) (W : World) (us : List Value) (ll : List (List Nat)) : Prop := ∀ (i : Nat) u l, us[i]? = some u → ll[i]? = some l → W.ownsRow B 5 1 u l.length (bV l)
theorem Own1.but {B : Nat} {S : Nat → Prop} {W W' : World} {us : List Value} {ll : List (List Nat)} (h : Own1 B W us ll) (k : But S W W') (hs : ∀ g, B ≤ g → ¬ S g) : Own1 B W' us ll := fun i u l h1 h2 => owns_row_blockB (h i u l h1 h2) fun g hg => k.block g ((h i u l h1 h2).lt g hg).2 (hs g ((h i u l h1 h2).lt g hg).1)
theorem Own1.butT {B b : Nat} {t : TypeId} {cs : List Value} {W W' : World} {us : List Value} {ll : List (List Nat)} (h : Own1 B W us ll) (k : But (fun g => g = b) W W') (hb : CBox W b t cs) (ht : t ≠ 5) : Own1 B W' us ll := fun i u l h1 h2 => owns_row_blockB (h i u l h1 h2) fun g hg => k.block g ((h i u l h1 h2).lt g hg).2 fun e => by
  subst e
  rcases (h i u l h1 h2).2 with ⟨rfl, _⟩ | ⟨g', c, cur, rfl, _, hh, _⟩
  · cases hg
  · injection hg with hg
    subst hg
    rw [show W.heap[g']? = _ from hb] at hh
    cases hh
    exact ht rfl
theorem Own1.snoc {B : Nat} {W : World} {us : List Value} {ll : List (List Nat)} {u : Value} {l : List Nat} (h : Own1 B W us ll) (hi : ll[us.length]? = some l) (hu : W.ownsRow B 5 1 u l.length (bV l)) : Own1 B W (us ++ [u]) ll := fun i u' l' h1 h2 => by
  by_cases e : i < us.length
  · rw [List.getElem?_append_left e] at h1
    exact h i u' l' h1 h2
  · rw [List.getElem?_append_right (by omega)] at h1
    have e0 : i - us.length = 0 := by
      have := (List.getElem?_eq_some_iff.1 h1).1
      simpa using this
    rw [e0] at h1
    simp at h1
    have ei : i = us.length := by omega
    subst ei h1
    rw [hi] at h2
    cases h2
    exact hu
def nilV : Value := .slice none 0 0
theorem vs_set (us : List Value) (r : Nat) (z u : Value) : (us ++ List.replicate (r + 1) z).set us.length u = (us ++ [u]) ++ List.replicate r z := by
  rw [List.set_append_right _ _ (by simp), Nat.sub_self, List.replicate_succ, List.set_cons_zero]
  simp
/-- pieces that were read -/
structure PcQ (rb : Nat) (w w' : World) (bs : Value) (b : List Nat) (k : Nat) (v : Value) (ll : List (List Nat)) : Prop where
  ex : ∃ g us, v = .slice (some ⟨g, 0, none⟩) ll.length ll.length ∧ CBox w' g 22 us ∧ us.length = ll.length ∧ w.heap.size ≤ g ∧ Own1 w.heap.size w' us ll
  rd : Rdr w' rb bs b k
  but : RB rb w w'
set_option maxHeartbeats 4000000 in
set_option maxRecDepth 100000 in
theorem pieces_is (w : World) (rb : Nat) (bs : Value) (b : List Nat) (k : Nat) (lv : Value) (ls : List Nat) (h : Rdr w rb bs b k) (hu : UL w lv ls) (hk : k + sumL ls ≤ b.length) (hn : ls.length ≤ 16777216) :
    Calls Try.prog 100 #[.pointer (some ⟨rb, 0, none⟩), lv] w fun e w' => ∃ v, e = .returned v ∧ PcQ rb w w' bs b (k + sumL ls) v (cuts b k ls) := by
  obtain ⟨ba, bc, rfl, hbc, _⟩ := h.by'.len
  obtain ⟨la, rfl⟩ := hu.len
  obtain ⟨W1, hmk, hcb, hB1, hsz⟩ := make_n 26 22 (.slice none 0 0) (.slice none 0 0) 1 24 Try.underlying26 Try.infoB (one_cell rfl) (by simp [Value.cells]) .i64 w ls.length (by omega) (by omega)
  have NE : Hid (w.heap.size ≠ rb) := by unfold Hid; have := h.box.lt; omega
  have HGR : Hid (rb < w.heap.size) := h.box.lt
  have HBX : Hid (CBox w rb 81 [.slice ba b.length bc, .int .i64 (k : Int)]) := h.box
  have nbl := h.len
  obtain ⟨CU, hCU⟩ : ∃ CU, CU = cuts b k ls := ⟨_, rfl⟩
  have HCL : Hid (CU.length = ls.length ∧ ∀ i x, ls[i]? = some x → CU[i]? = some ((b.drop (k + sumL (ls.take i))).take x)) := ⟨by rw [hCU, cuts_len], fun i x q => by rw [hCU]; exact cuts_get b ls k i x q⟩
  rw [← hCU]
  have C0 : Hid (CBox W1 w.heap.size 22 (([] : List Value) ++ List.replicate (ls.length - 0) nilV) ∧ Rdr W1 rb (.slice ba b.length bc) b (k + sumL (ls.take 0)) ∧ RB rb w W1 ∧ Own1 w.heap.size W1 [] CU) := ⟨by rw [Nat.mul_one] at hcb; simpa [nilV] using hcb, by simpa [sumL] using h.past hB1, below_but hB1, fun i u l q => by cases q⟩
  have HUL : Hid (UL w (.slice la ls.length ls.length) ls) := hu
  have HKL : Hid (k + sumL ls ≤ b.length ∧ b.length ≤ bc ∧ b.length ≤ 16777216) := ⟨hk, hbc, nbl⟩
  have nI : (ls.length : Int) ≤ 16777216 := by omega
  generalize hN : ls.length = n at *
  have HN : Hid (ls.length = n) := hN
  generalize hNB : b.length = nb at *
  have HNB : Hid (b.length = nb) := hNB
  clear h hu hcb hB1 hsz hk hn hCU hN hNB nbl hbc
  generalize hbw : w.heap.size = bw at *
  have GB : Hid (w.heap.size = bw) := hbw
  have GE : Hid (bw ≤ w.heap.size) := by unfold Hid; omega
  go_enter Try.func100, Try.ntmps100
  go_upto_region 2 with fail
  clear hmk hbw
  generalize hg : bw = g at C0 NE ⊢
  have HGB : Hid (bw = g) := hg
  have HGW : Hid (w.heap.size ≤ g) := by unfold Hid; have := GB.out; omega
  have HGR : Hid (rb < g) := by unfold Hid; have := HGR.out; omega
  clear hg
  go_wp2
  go_loopw [14] (fun s14 wr => ∃ (i : Nat) (us : List Value), s14 = .int .i64 (i : Int) ∧ i ≤ n ∧ us.length = i ∧ CBox wr g 22 (us ++ List.replicate (n - i) nilV) ∧ Rdr wr rb (.slice ba nb bc) b (k + sumL (ls.take i)) ∧ RB rb w wr ∧ Own1 bw wr us CU) (fun s14 _ => n - (intOf s14).toNat)
  case atStart => exact ⟨0, [], rfl, by omega, rfl, C0.out.1, C0.out.2.1, C0.out.2.2.1, by rw [HGB.out]; exact C0.out.2.2.2⟩
  case round =>
    obtain ⟨i, us, rfl, hi, hU, hC, hR, hB, hO⟩ := hrel
    have HU : Hid (us.length = i) := hU
    have HC0 : Hid (CBox wr g 22 (us ++ List.replicate (n - i) nilV) ∧ Rdr wr rb (.slice ba nb bc) b (k + sumL (ls.take i)) ∧ RB rb w wr ∧ Own1 bw wr us CU) := ⟨hC, hR, hB, hO⟩
    clear hC hR hB hO C0 hU
    by_cases e : i = n
    · subst e
      have E1 : Hid (CBox wr g 22 us) := by have := HC0.out.1; rwa [Nat.sub_self, List.replicate_zero, List.append_nil] at this
      have E2 : Hid (Rdr wr rb (.slice ba nb bc) b (k + sumL ls)) := by have := HC0.out.2.1; rwa [List.take_of_length_le (by have := HN.out; omega)] at this
      go_wp2
      go_ret
      refine ⟨_, rfl, ⟨g, us, by rw [HCL.out.1]; rfl, E1.out, by rw [HU.out, HCL.out.1], HGW.out, by rw [GB.out]; exact HC0.out.2.2.2⟩, E2.out, HC0.out.2.2.1⟩
    · have iI : (i : Int) < (n : Int) := by omega
      obtain ⟨q, hq⟩ : ∃ q, ls[i]? = some q := ⟨ls[i]'(by have := HN.out; omega), List.getElem?_eq_getElem _⟩
      obtain ⟨r, hr⟩ : ∃ r, n - i = r + 1 := ⟨n - i - 1, by omega⟩
      have HR1 : Hid (n - i = r + 1) := hr
      have hst := sumL_take hq
      have hsl2 := sumL_le ls (i + 1)
      have ul : UL wr (.slice la n n) ls := HUL.out.but2 HC0.out.2.2.1 HBX.out (by decide)
      obtain ⟨g3, rfl, hcell⟩ := ul.get hq
      have HCU0 := HCL.out.2 i q hq
      obtain ⟨kk, hkk⟩ : ∃ kk, kk = k + sumL (ls.take i) := ⟨_, rfl⟩
      rw [← hkk] at HCU0 HC0
      obtain ⟨t, ht⟩ : ∃ t, t = kk + q := ⟨_, rfl⟩
      have tl : t ≤ nb := by have := HKL.out; omega
      have HTT : Hid (t = k + sumL (ls.take (i + 1))) := by unfold Hid; omega
      have hsl := slice_ij ba nb bc kk t (by omega) (by have := HKL.out; omega)
      have CL0 : ∀ W, BL (fun g => g < rb) W (.slice ba nb bc) b → Calls Try.prog 88 #[.slice (if bc = kk then ba else ba.map (·.add kk)) (t - kk) (bc - kk)] W fun e w' => ∃ v', e = .returned v' ∧ w'.ownsRow W.heap.size 5 1 v' ((b.drop kk).take (t - kk)).length (bV ((b.drop kk).take (t - kk))) ∧ Below W.heap.size W w' := fun W hW => clone_is W _ _ (by have h9 := hW; rw [← HNB.out] at h9; exact BL.mid h9 kk t (by omega) (by rw [HNB.out]; exact tl)) (by have := HKL.out; simp; omega)
      rw [show t - kk = q by omega] at CL0 hsl
      have HSQ : Hid (((b.drop kk).take q).length = q) := by unfold Hid; rw [List.length_take, List.length_drop, HNB.out]; omega
      rw [HSQ.out] at CL0
      have CL : Hid (∀ W, BL (fun g => g < rb) W (.slice ba nb bc) b → Calls Try.prog 88 #[.slice (if bc = kk then ba else ba.map (·.add kk)) q (bc - kk)] W fun e w' => ∃ v', e = .returned v' ∧ w'.ownsRow W.heap.size 5 1 v' q (bV ((b.drop kk).take q)) ∧ Below W.heap.size W w') := CL0
      have HCU : Hid (CU[i]? = some ((b.drop kk).take q)) := HCU0
      generalize (if bc = kk then ba else ba.map (·.add kk)) = ad2 at CL hsl
      generalize bc - kk = cap2 at CL hsl
      generalize (b.drop kk).take q = seg at *
      have r1 : (kk : Int) + (q : Int) = (t : Int) := by omega
      have w1 : IntKind.i64.wrap (t : Int) = (t : Int) := by rw [IntKind.wrap_i64]; have := HKL.out; omega
      have w2 : IntKind.i64.wrap (q : Int) = (q : Int) := by rw [IntKind.wrap_i64]; have := HKL.out; omega
      have HC : Hid (CBox wr g 22 (us ++ List.replicate (n - i) nilV) ∧ Rdr wr rb (.slice ba nb bc) b kk ∧ RB rb w wr ∧ Own1 bw wr us CU) := HC0.out
      have c1 : wr.cell? ⟨rb, 1, none⟩ = some (.int .i64 (kk : Int)) := HC.out.2.1.box.cell 1
      clear HCU0 CL0 hq hst hsl2 hkk ht tl hr ul HC0 e
      go_upto_region 6 with fail
      clear c1 hcell
      refine wp_region_held_drew (S := fun V' => CBox V' rb 81 [.slice ba nb bc, .int .i64 (kk : Int)]) (by kernel_rfl) (HC.out.2.1.box.past below_drew) (fun hHeld => ?_)
      have B0 : Hid (CBox wr.drew g 22 (us ++ List.replicate (n - i) nilV) ∧ Rdr wr.drew rb (.slice ba nb bc) b kk ∧ RB rb w wr.drew ∧ Own1 bw wr.drew us CU) := ⟨HC.out.1.past below_drew, HC.out.2.1.past below_drew, HC.out.2.2.1.trans (below_but below_drew), HC.out.2.2.2.but (below_but (S := fun _ => False) below_drew) (fun _ _ => id)⟩
      clear HC
      generalize wr.drew = z0 at hHeld B0 ⊢
      refine wpAnyH_take (i := 0) (v := .slice (some ⟨g, 0, none⟩) n n) ov0 (by kernel_rfl) (by kernel_rfl) (by kernel_rfl) (fun _ _ _ h => h) (Or.inl ⟨by rfl, fun V' hS => ?_⟩) hHeld ?_
      · go_simp
      simp only [Act.put, List.setIfInBounds_toArray, List.set_cons_zero, List.set_cons_succ]
      refine wpAnyH_take (i := 1) (v := .int .i64 (i : Int)) ov1 (by kernel_rfl) (by kernel_rfl) (by kernel_rfl) (fun _ _ _ h => h) (Or.inl ⟨by rfl, fun V' hS => ?_⟩) hHeld ?_
      · go_simp
      simp only [Act.put, List.setIfInBounds_toArray, List.set_cons_zero, List.set_cons_succ]
      refine wpAnyH_take (i := 2) (v := .pointer (some ⟨rb, 0, none⟩)) ov2 (by kernel_rfl) (by kernel_rfl) (by kernel_rfl) (fun _ _ _ h => h) (Or.inl ⟨by rfl, fun V' hS => ?_⟩) hHeld ?_
      · go_simp
      simp only [Act.put, List.setIfInBounds_toArray, List.set_cons_zero, List.set_cons_succ]
      refine wpAnyH_take (i := 3) (v := .pointer (some ⟨rb, 0, none⟩)) ov3 (by kernel_rfl) (by kernel_rfl) (by kernel_rfl) (fun _ _ _ h => h) (Or.inl ⟨by rfl, fun V' hS => ?_⟩) hHeld ?_
      · go_simp
      simp only [Act.put, List.setIfInBounds_toArray, List.set_cons_zero, List.set_cons_succ]
      refine wpAnyH_take (i := 4) (v := .pointer (some ⟨rb, 0, none⟩)) ov4 (by kernel_rfl) (by kernel_rfl) (by kernel_rfl) (fun _ _ _ h => h) (Or.inl ⟨by rfl, fun V' hS => ?_⟩) hHeld ?_
      · go_simp
      simp only [Act.put, List.setIfInBounds_toArray, List.set_cons_zero, List.set_cons_succ]
      refine wpAnyH_take (i := 5) (v := .slice ba nb bc) ov5 (by kernel_rfl) (by kernel_rfl) (by kernel_rfl) (fun _ _ _ h => h) (Or.inl ⟨by rfl, fun V' hS => ?_⟩) hHeld ?_
      · have c0 : V'.cell? ⟨rb, 0, none⟩ = some (.slice ba nb bc) := hS.cell 0
        go_simp
      simp only [Act.put, List.setIfInBounds_toArray, List.set_cons_zero, List.set_cons_succ]
      refine wpAnyH_take (i := 6) (v := .pointer (some ⟨rb, 0, none⟩)) ov6 (by kernel_rfl) (by kernel_rfl) (by kernel_rfl) (fun _ _ _ h => h) (Or.inl ⟨by rfl, fun V' hS => ?_⟩) hHeld ?_
      · go_simp
      simp only [Act.put, List.setIfInBounds_toArray, List.set_cons_zero, List.set_cons_succ]
      refine wpAnyH_take (i := 7) (v := .pointer (some ⟨rb, 0, none⟩)) ov7 (by kernel_rfl) (by kernel_rfl) (by kernel_rfl) (fun _ _ _ h => h) (Or.inl ⟨by rfl, fun V' hS => ?_⟩) hHeld ?_
      · go_simp
      simp only [Act.put, List.setIfInBounds_toArray, List.set_cons_zero, List.set_cons_succ]
      refine wpAnyH_take (i := 8) (v := .pointer (some ⟨rb, 1, none⟩)) ov8 (by kernel_rfl) (by kernel_rfl) (by kernel_rfl) (fun _ _ _ h => h) (Or.inl ⟨by rfl, fun V' hS => ?_⟩) hHeld ?_
      · go_simp
      simp only [Act.put, List.setIfInBounds_toArray, List.set_cons_zero, List.set_cons_succ]
      refine wpAnyH_take (i := 9) (v := .int .i64 (kk : Int)) ov9 (by kernel_rfl) (by kernel_rfl) (by kernel_rfl) (fun _ _ _ h => h) (Or.inl ⟨by rfl, fun V' hS => ?_⟩) hHeld ?_
      · have c0 : V'.cell? ⟨rb, 1, none⟩ = some (.int .i64 (kk : Int)) := hS.cell 1
        go_simp
      simp only [Act.put, List.setIfInBounds_toArray, List.set_cons_zero, List.set_cons_succ]
      refine wpAnyH_take (i := 10) (v := .int .i64 (t : Int)) ov10 (by kernel_rfl) (by kernel_rfl) (by kernel_rfl) (fun _ _ _ h => h) (Or.inl ⟨by rfl, fun V' hS => ?_⟩) hHeld ?_
      · go_simp
      simp only [Act.put, List.setIfInBounds_toArray, List.set_cons_zero, List.set_cons_succ]
      refine wpAnyH_take (i := 11) (v := .slice ad2 q cap2) ov11 (by kernel_rfl) (by kernel_rfl) (by kernel_rfl) (fun _ _ _ h => h) (Or.inl ⟨by rfl, fun V' hS => ?_⟩) hHeld ?_
      · go_simp
      simp only [Act.put, List.setIfInBounds_toArray, List.set_cons_zero, List.set_cons_succ]
      refine wpAnyH_ready (rs := [12]) (by kernel_rfl) (by simp) ?_
      refine AllReadyH.cons ov12 (fun K hK => ?_) AllReadyH.nil
      rw [if_pos (by rfl)]
      go_simp
      refine (CL.out _ (B0.out.2.1.by')).mono ?_
      rintro e z1 ⟨v3, rfl, hO, hB1⟩
      obtain ⟨a3, c3, e3⟩ := owns_sl hO
      subst e3
      have H1 := hHeld.past hB1
      have B1 : Hid (CBox z1 g 22 (us ++ List.replicate (n - i) nilV) ∧ Rdr z1 rb (.slice ba nb bc) b kk ∧ RB rb w z1 ∧ Own1 bw z1 us CU ∧ z1.ownsRow bw 5 1 (.slice a3 q c3) q (bV seg)) := ⟨B0.out.1.past hB1, B0.out.2.1.past hB1, B0.out.2.2.1.trans (below_but hB1), B0.out.2.2.2.but (below_but (S := fun _ => False) hB1) (fun _ _ => id), owns_base hO (Nat.le_trans GE.out B0.out.2.2.1.size)⟩
      clear hO hB1
      (try go_wp2_with fail)
      refine hK.out _ _ H1 (fun _ => ?_)
      clear hK K
      (try simp only [Act.put, List.setIfInBounds_toArray, List.set_cons_zero, List.set_cons_succ])
      refine wpAnyH_take (i := 13) (v := .pointer (some ⟨g, i, none⟩)) ov13 (by kernel_rfl) (by kernel_rfl) (by kernel_rfl) (fun _ _ _ h => h) (Or.inl ⟨by rfl, fun V' hS => ?_⟩) H1 ?_
      · go_simp
      simp only [Act.put, List.setIfInBounds_toArray, List.set_cons_zero, List.set_cons_succ]
      refine wpAnyH_ready (rs := [14]) (by kernel_rfl) (by simp) ?_
      refine AllReadyH.cons ov14 (fun K hK => ?_) AllReadyH.nil
      rw [if_pos (by rfl)]
      have k0 : z1.cell? ⟨g, i, none⟩ = some nilV := by rw [B1.out.1.cell, HR1.out, List.getElem?_append_right (by rw [HU.out]; exact Nat.le_refl _), HU.out, Nat.sub_self]; rfl
      unfold nilV at k0
      have f0 := B1.out.1.frozen i
      go_simp
      have HS : But (fun y => y = g) z1 (z1.setCell ⟨g, i, none⟩ (.slice a3 q c3)) := (But.refl (fun y => y = g) z1).setCell ⟨g, i, none⟩ _ (Or.inl rfl)
      have B2 : Hid (CBox (z1.setCell ⟨g, i, none⟩ (.slice a3 q c3)) g 22 ((us ++ [.slice a3 q c3]) ++ List.replicate (n - (i + 1)) nilV) ∧ Rdr (z1.setCell ⟨g, i, none⟩ (.slice a3 q c3)) rb (.slice ba nb bc) b kk ∧ RB rb w (z1.setCell ⟨g, i, none⟩ (.slice a3 q c3)) ∧ Own1 bw (z1.setCell ⟨g, i, none⟩ (.slice a3 q c3)) (us ++ [.slice a3 q c3]) CU) := ⟨by (have h9 := B1.out.1.set i (.slice a3 q c3); rw [HR1.out, ← HU.out, vs_set] at h9; rw [show n - (i + 1) = r by have := HR1.out; omega]; rw [HU.out] at h9; exact h9), B1.out.2.1.keep HS (fun y hy e => by have := HGR.out; omega), B1.out.2.2.1.setCell ⟨g, i, none⟩ _ (Or.inr HGW.out), ((B1.out.2.2.2.1.snoc (by rw [HU.out]; exact HCU.out) (by rw [HSQ.out]; exact B1.out.2.2.2.2)).butT HS B1.out.1 (by decide))⟩
      refine hK.out _ (z1.setCell ⟨g, i, none⟩ (.slice a3 q c3)) (H1.but HS (Ne.symm NE.out)) (fun _ => ?_)
      clear hK K
      (try simp only [Act.put, List.setIfInBounds_toArray, List.set_cons_zero, List.set_cons_succ])
      clear k0 f0 HS B1
      generalize (z1.setCell ⟨g, i, none⟩ (.slice a3 q c3)) = z2 at B2 ⊢
      refine wpAnyH_done (by kernel_rfl) ?_ _
      clear hHeld B0
      have k1 : z2.cell? ⟨rb, 1, none⟩ = some (.int .i64 (kk : Int)) := B2.out.2.1.box.cell 1
      have f1 := B2.out.2.1.box.frozen 1
      have B3 : Hid (CBox (z2.setCell ⟨rb, 1, none⟩ (.int .i64 (t : Int))) g 22 ((us ++ [.slice a3 q c3]) ++ List.replicate (n - (i + 1)) nilV) ∧ Rdr (z2.setCell ⟨rb, 1, none⟩ (.int .i64 (t : Int))) rb (.slice ba nb bc) b (k + sumL (ls.take (i + 1))) ∧ RB rb w (z2.setCell ⟨rb, 1, none⟩ (.int .i64 (t : Int))) ∧ Own1 bw (z2.setCell ⟨rb, 1, none⟩ (.int .i64 (t : Int))) (us ++ [.slice a3 q c3]) CU) := by
        have hg := B2.out.2.1.go t
        refine ⟨B2.out.1.but hg.2 NE.out, by rw [← HTT.out]; exact hg.1, B2.out.2.2.1.trans hg.2, B2.out.2.2.2.butT hg.2 B2.out.2.1.box (by decide)⟩
      clear B2
      go_wp2
      go_roundw
      case rel => exact ⟨i + 1, us ++ [.slice a3 q c3], by first | rfl | go_num, by omega, by rw [List.length_append, HU.out]; rfl, B3.out⟩
      case measure => simp [intOf]; omega
end Go.Proofs.Ytndhabhlajldeaa
/- Pieces of one's own, each in a block of its own; append of one; the document's copied. -/
namespace Go.Proofs.Ytndhabhlajldeaa
open Go.RowKit
theorem owns_apart {B B' s s' n n' : Nat} {t t' : TypeId} {W : World} {v v' : Value} {cs cs' : List Value} (h : W.ownsRow B t s v n cs) (h' : W.ownsRow B' t' s' v' n' cs') (ht : t ≠ t') {k : Nat} (hk : OwnV v k) : ¬ OwnV v' k := fun hk' => by
  rcases h.2 with ⟨rfl, _⟩ | ⟨g, c, cur, rfl, _, hh, _⟩
  · cases hk
  · injection hk with hk
    subst hk
    rcases h'.2 with ⟨rfl, _⟩ | ⟨g', c', cur', rfl, _, hh', _⟩
    · cases hk'
    · injection hk' with hk'
      subst hk'
      rw [hh] at hh'
      cases hh'
      exact ht rfl
/-- a list of pieces of one's own -/
def PO (B : Nat) (W : World) (v : Value) (ll : List (List Nat)) : Prop := ∃ us : List Value, us.length = ll.length ∧ W.ownsRow B 22 1 v ll.length us ∧ Own1 B W us ll
theorem PO.nil (B : Nat) (W : World) : PO B W (.slice none 0 0) [] := ⟨[], rfl, World.ownsRow_nil _ _ _ _, fun i u l h => by cases h⟩
theorem PO.past {B : Nat} {W W' : World} {v : Value} {ll : List (List Nat)} (h : PO B W v ll) (k : Below W.heap.size W W') : PO B W' v ll := by
  obtain ⟨us, h1, h2, h3⟩ := h
  exact ⟨us, h1, owns_past h2 k, fun i u l a b => owns_past (h3 i u l a b) k⟩
theorem PO.sl {B : Nat} {W : World} {v : Value} {ll : List (List Nat)} (h : PO B W v ll) : ∃ ad cap, v = .slice ad ll.length cap := by
  obtain ⟨us, _, h2, _⟩ := h
  exact owns_sl h2
theorem PO.one {B : Nat} {W : World} {us : List Value} {ll : List (List Nat)} (h : us.length = ll.length) (h3 : Own1 B W us ll) : ∀ u ∈ us, u.oneCell' = true := fun u hu => by
  obtain ⟨i, hi⟩ := List.getElem?_of_mem hu
  have hl : i < ll.length := by rw [← h]; exact (List.getElem?_eq_some_iff.1 hi).1
  obtain ⟨ad, cap, rfl⟩ := owns_sl (h3 i u _ hi (List.getElem?_eq_getElem hl))
  rfl
/-- append of one piece -/
theorem wpList_appP {w : World} {ops : Array Oper} {rest : List Oper} {o : Oper} {a : Act} {Q : Exit → Act → World → Prop} (hgd : o.guard = none) (s x : Operand)
    (ho : o.op = .call { callee := .builtin .append, args := #[s, x], argTypes := #[26, 26] }) (B : Nat) (hB : B ≤ w.heap.size) (v : Value) (ll : List (List Nat)) (hs : a.eval s = v) (hown : PO B w v ll)
    (u : Value) (l : List Nat) (hu : w.ownsRow B 5 1 u l.length (bV l)) (hx : a.eval x = .slice (some ⟨w.heap.size, 0, none⟩) 1 1) (hn : ll.length + 1 ≤ 2199023255552)
    (h : ∀ v' w', PO B w' v' (ll ++ [l]) → Below B w w' → wpList Try.prog ops Q rest (a.put o.dst v') w') : wpList Try.prog ops Q (o :: rest) a (w.alloc (.cells #[u] 22)) :=
  wpList_plain hgd fun _ hK => by
    obtain ⟨us, hl, hr, h1⟩ := hown
    obtain ⟨ad, cap, rfl⟩ := owns_sl hr
    obtain ⟨ua, uc, rfl⟩ := owns_sl hu
    refine wp_apps s x 26 22 ho (.slice none 0 0) 1 24 Try.underlying26 Try.infoB rfl (by omega) (by omega) B (Nat.le_trans hB (below_alloc _ _).size) ad ll.length cap us hs (owns_past hr (below_alloc _ _)) ⟨w.heap.size, 0, none⟩ 1 1 [.slice ua l.length uc] hx rfl (fun j c hj => ?_) (fun y hy => by rw [List.mem_singleton.1 hy]; rfl) hn (fun ad' cap' w' q1 q2 q3 => ?_)
    · have hj0 : j = 0 := by have := (List.getElem?_eq_some_iff.1 hj).1; simpa using this
      subst hj0
      rw [Addr.add_mid]
      have := (CBox.new w 22 [.slice ua l.length uc]).cell 0
      rw [Nat.zero_add]
      exact this.trans hj
    · have b1 : But (OwnV (.slice ad ll.length cap)) w (w.alloc (.cells #[.slice ua l.length uc] 22)) := below_but (below_alloc _ _)
      have b2 : But (OwnV (.slice ad ll.length cap)) w w' := b1.trans (q2.mono fun k hk => own_iff.1 hk)
      have keep : ∀ {y : Value} {m : List Nat}, w.ownsRow B 5 1 y m.length (bV m) → w'.ownsRow B 5 1 y m.length (bV m) := fun hy => owns_row_blockB hy fun g hg => b2.block g (hy.lt g hg).2 fun e => owns_apart hr hy (by decide) e hg
      refine hK _ _ (h _ _ ⟨us ++ [.slice ua l.length uc], by simp [hl], by rw [List.length_append]; exact q1, ?_⟩ (b2.below (fun k e => (hr.lt k e).1) hB))
      have h2 : Own1 B w' us (ll ++ [l]) := fun i y m hi hm => by
        have hlt : i < ll.length := by rw [← hl]; exact (List.getElem?_eq_some_iff.1 hi).1
        rw [List.getElem?_append_left hlt] at hm
        exact keep (h1 i y m hi hm)
      exact h2.snoc (by rw [hl]; simp) (keep hu)
set_option maxHeartbeats 4000000 in
set_option maxRecDepth 100000 in
theorem copied_is {P : Nat → Prop} (w : World) (v : Value) (ll : List (List Nat)) (h : PL P w v ll) (hn : ll.length + ll.flatten.length ≤ 16777216) : Calls Try.prog 63 #[v] w fun e w' => ∃ v', e = .returned v' ∧ PO w.heap.size w' v' ll ∧ Below w.heap.size w w' := by
  obtain ⟨ad, cap, rfl, _, _⟩ := h.len
  have HPL : Hid (∀ W, Below w.heap.size w W → PL P W (.slice ad ll.length cap) ll) := fun W hW => h.past hW
  have nI : (ll.length : Int) ≤ 16777216 := by omega
  have HF : Hid (ll.length + ll.flatten.length ≤ 16777216) := hn
  have M0 : Hid (PO w.heap.size w (.slice none 0 0) [] ∧ Below w.heap.size w w) := ⟨PO.nil _ _, Below.refl _ _⟩
  generalize hN : ll.length = n at *
  have HN : Hid (ll.length = n) := hN
  clear h hn hN
  generalize hbw : w.heap.size = bw at *
  have GE : Hid (bw ≤ w.heap.size) := by unfold Hid; omega
  clear hbw
  go_enter Try.func63, Try.ntmps63
  go_wp2
  go_loopw [3, 4] (fun s3 s4 wr => ∃ k : Nat, s4 = .int .i64 (k : Int) ∧ k ≤ n ∧ PO bw wr s3 (ll.take k) ∧ Below bw w wr) (fun _ s4 _ => n - (intOf s4).toNat)
  case atStart => exact ⟨0, rfl, by omega, M0.out.1, M0.out.2⟩
  case round =>
    obtain ⟨k, rfl, hk, hP, hB⟩ := hrel
    have M : Hid (PO bw wr u3 (ll.take k) ∧ Below bw w wr) := ⟨hP, hB⟩
    clear hP hB M0
    by_cases e : k = n
    rotate_left
    · have kn : (k : Int) < (n : Int) := by omega
      obtain ⟨x, hx⟩ : ∃ x, ll[k]? = some x := ⟨ll[k]'(by have := HN.out; omega), List.getElem?_eq_getElem _⟩
      obtain ⟨g, a, u, eg, hcell, hb⟩ := (HPL.out wr M.out.2).get hx
      subst eg
      have HBx : Hid (BL P wr u x) := hb
      have HXX : Hid (ll.take (k + 1) = ll.take k ++ [x]) := by unfold Hid; rw [List.take_add_one, hx]; rfl
      have HLe : Hid (([] : List Nat).length + x.length ≤ 2199023255552) := by
        unfold Hid
        have h1 := HF.out
        have h2 := (List.sublist_flatten_of_mem (List.mem_of_getElem? hx)).length_le
        simp only [List.length_nil]
        omega
      have HLk : Hid ((ll.take k).length + 1 ≤ 2199023255552) := by unfold Hid; rw [List.length_take]; omega
      have GW : Hid (bw ≤ wr.heap.size) := Nat.le_trans GE.out M.out.2.size
      clear hx hb e
      go_wp2_with (at_builtin; first
        | (refine wpList_appB rfl _ _ rfl bw GW.out (.slice none 0 0) [] rfl (World.ownsRow_nil _ _ _ _) u x rfl HBx.out HLe.out ?_
           intro v1 w1 hA
           have M1 : Hid (w1.ownsRow bw 5 1 v1 x.length (bV x) ∧ Below wr.heap.size wr w1) := ⟨hA.row, hA.nil_below⟩
           clear hA
           obtain ⟨d1, c1, rfl⟩ := owns_sl M1.out.1)
        | (refine wpList_appP rfl _ _ rfl bw (Nat.le_trans GW.out M1.out.2.size) u3 (ll.take k) rfl (M.out.1.past M1.out.2) _ x M1.out.1 rfl HLk.out ?_
           intro v2 w2 hP hB
           have M2 : Hid (PO bw w2 v2 (ll.take (k + 1)) ∧ Below bw w w2) := ⟨by rw [HXX.out]; exact hP, M.out.2.trans ((M1.out.2.mono GW.out).trans hB)⟩
           clear hP hB))
      clear M M1 hcell
      go_roundw
      case rel => exact ⟨k + 1, by first | rfl | go_num, by omega, M2.out.1, M2.out.2⟩
      case measure => simp [intOf]; omega
    have e9 := e.symm
    clear e
    subst e9
    have M2 : Hid (PO bw wr u3 ll) := by have := M.out.1; rwa [List.take_of_length_le (by have := HN.out; omega)] at this
    go_wp2
    go_ret
    exact ⟨u3, rfl, M2.out, M.out.2⟩
end Go.Proofs.Ytndhabhlajldeaa
/- The document's containers: the header, whole. -/
namespace Go.Proofs.Ytndhabhlajldeaa
open Go.RowKit
/-- the fields that there are -/
def Kd (p : Nat × Nat) : Prop := p = (1, 1) ∨ p = (1, 2) ∨ p = (1, 3) ∨ p = (1, 4) ∨ p = (2, 5) ∨ p = (1, 6) ∨ p = (2, 7) ∨ p = (2, 8) ∨ p = (1, 9) ∨ p = (2, 10) ∨ p = (4, 11) ∨ p = (1, 12) ∨ p = (2, 13) ∨ p = (1, 14)
theorem kd_add (what v : Nat) : ∀ p ∈ addF what v, Kd p := by
  intro p hp
  unfold addF at hp
  unfold Kd
  split at hp
  · rcases List.mem_append.1 hp with h | h
    · have := List.eq_of_mem_replicate h; simp [this]
    · simp at h; simp [h]
  · split at hp
    · simp at hp; simp [hp]
    · simp at hp; rcases hp with h | h <;> simp [h]
  · rcases List.mem_append.1 hp with h | h
    · have := List.eq_of_mem_replicate h; simp [this]
    · simp at h; rcases h with h | h | h <;> simp [h]
  · cases hp
theorem add_len (what v : Nat) (hv : v ≤ 65535) : (addF what v).length ≤ 65540 := by
  unfold addF
  split
  · simp; omega
  · split <;> simp
  · simp; omega
  · simp
theorem kd_wd {p : Nat × Nat} (h : Kd p) : 0 < p.1 ∧ p.1 ≤ 4 := by
  rcases h with h | h | h | h | h | h | h | h | h | h | h | h | h | h <;> subst h <;> exact ⟨by decide, by decide⟩
theorem wrong_is (w : World) (p : Nat × Nat) (v t : Nat) (hk : Kd p) (hv : v < 4294967296) : Calls Try.prog 101 #[.int .i64 (p.2 : Int), .int .i64 (v : Int), .int .i64 (t : Int)] w fun e w' => e = .returned (.int .i64 (wrF p.2 v t : Int)) ∧ w' = w := by
  rcases hk with h | h | h | h | h | h | h | h | h | h | h | h | h | h
  · subst h; exact wrong1 w v t hv
  · subst h; exact wrong2 w v t hv
  · subst h; exact wrong3 w v t hv
  · subst h; exact wrong4 w v t hv
  · subst h; exact wrong5 w v t hv
  · subst h; exact wrong6 w v t hv
  · subst h; exact wrong7 w v t hv
  · subst h; exact wrong8 w v t hv
  · subst h; exact wrong9 w v t hv
  · subst h; exact wrong10 w v t hv
  · subst h; exact wrong11 w v t hv
  · subst h; exact wrong12 w v t hv
  · subst h; exact wrong13 w v t hv
  · subst h; exact wrong14 w v t hv
/-- the document's lists in the midst of a header -/
structure RH (bw : Nat) (w W : World) (cv sv tv : Value) (cs ss : List Nat) (td : List (Nat × Nat)) : Prop where
  c : InO bw W cv cs
  s : InO bw W sv ss
  t : FO bw W tv td
  bel : Below bw w W
  ge : bw ≤ w.heap.size
  ap : ∀ g, OwnV cv g → ¬ OwnV sv g
section
variable {bw : Nat} {w W W' : World} {cv sv tv v' : Value} {cs ss : List Nat} {td : List (Nat × Nat)}
theorem RH.le (h : RH bw w W cv sv tv cs ss td) : bw ≤ W.heap.size := Nat.le_trans h.ge h.bel.size
theorem RH.past (h : RH bw w W cv sv tv cs ss td) (q : Below W.heap.size W W') : RH bw w W' cv sv tv cs ss td := ⟨h.c.past q, h.s.past q, h.t.past q, h.bel.trans (q.mono h.le), h.ge, h.ap⟩
theorem RH.appC {y : List Nat} (h : RH bw w W cv sv tv cs ss td) (q : App bw 3 1 W W' cv v' y.length (iV y)) : RH bw w W' v' sv tv y ss td :=
  ⟨q.row, owns_row_blockB h.s fun g hg => q.but.block g (World.ownsRow.lt h.s g hg).2 fun e => h.ap g e hg, owns_row_blockB h.t fun g hg => q.but.block g (World.ownsRow.lt h.t g hg).2 fun e => owns_apart h.c h.t (by decide) e hg, h.bel.trans (q.below h.c h.le), h.ge, fun g e e2 => by
    rcases q.new g e with e | e
    · exact h.ap g e e2
    · have := (World.ownsRow.lt h.s g e2).2; omega⟩
theorem RH.appS {y : List Nat} (h : RH bw w W cv sv tv cs ss td) (q : App bw 3 1 W W' sv v' y.length (iV y)) : RH bw w W' cv v' tv cs y td :=
  ⟨owns_row_blockB h.c fun g hg => q.but.block g (World.ownsRow.lt h.c g hg).2 fun e => h.ap g hg e, q.row, owns_row_blockB h.t fun g hg => q.but.block g (World.ownsRow.lt h.t g hg).2 fun e => owns_apart h.s h.t (by decide) e hg, h.bel.trans (q.below h.s h.le), h.ge, fun g e e2 => by
    rcases q.new g e2 with e3 | e3
    · exact h.ap g e e3
    · have := (World.ownsRow.lt h.c g e).2; omega⟩
theorem RH.appT {y : List (Nat × Nat)} (h : RH bw w W cv sv tv cs ss td) (q : App bw 123 2 W W' tv v' y.length (fV y)) : RH bw w W' cv sv v' cs ss y :=
  ⟨owns_row_blockB h.c fun g hg => q.but.block g (World.ownsRow.lt h.c g hg).2 fun e => owns_apart h.t h.c (by decide) e hg, owns_row_blockB h.s fun g hg => q.but.block g (World.ownsRow.lt h.s g hg).2 fun e => owns_apart h.t h.s (by decide) e hg, q.row, h.bel.trans (q.below h.t h.le), h.ge, h.ap⟩
end
theorem FO.get {B : Nat} {W : World} {ad : Option Addr} {n c : Nat} {l : List (Nat × Nat)} (h : FO B W (.slice ad n c) l) {i : Nat} {p : Nat × Nat} (hi : l[i]? = some p) : ∃ g, ad = some ⟨g, 0, none⟩ ∧ W.cell? ⟨g, i * 2, none⟩ = some (.int .i64 (p.1 : Int)) ∧ W.cell? ⟨g, i * 2 + 1, none⟩ = some (.int .i64 (p.2 : Int)) := by
  have hl : i < l.length := (List.getElem?_eq_some_iff.1 hi).1
  rcases id h.2 with ⟨e, e2⟩ | ⟨g, c', cur, e, hb, hh, hq, _, hz, ht⟩
  · omega
  · injection e with e1 _ _
    subst e1
    obtain ⟨k0, k1⟩ := fV_get l i p hi
    have c0 := World.ownsRow.cells h (g := g) rfl (i * 2) _ k0
    have c1 := World.ownsRow.cells h (g := g) rfl (i * 2 + 1) _ k1
    exact ⟨g, rfl, by simpa [Addr.add_mid] using c0, by simpa [Addr.add_mid] using c1⟩
/-- the answer of a header -/
def RHA (bw : Nat) (r : Except Er Hd) (e : Ending) (w' : World) : Prop :=
  match r with
  | .ok h => ∃ cv sv, e = .returned (.tuple #[cv, sv, .int .i64 (h.d : Int), .int .i64 (h.e : Int), .int .i64 0, .int .i64 0]) ∧ InO bw w' cv h.cs ∧ InO bw w' sv h.ss
  | .error (c, a) => e = .returned (.tuple #[.slice none 0 0, .slice none 0 0, .int .i64 0, .int .i64 0, .int .i64 (c : Int), .int .i64 (a : Int)])
theorem rd_lt4 {b : List Nat} (hb : Byt b) (k wd : Nat) (hw : wd ≤ 4) : rd b k wd < 4294967296 := by
  have h1 := num_lt ((b.drop k).take wd) (fun x hx => hb x (List.mem_of_mem_drop (List.mem_of_mem_take hx)))
  have h2 : ((b.drop k).take wd).length ≤ 4 := by simp; omega
  have h3 : 256 ^ ((b.drop k).take wd).length ≤ 256 ^ 4 := Nat.pow_le_pow_right (by omega) h2
  unfold rd
  have : (256 : Nat) ^ 4 = 4294967296 := by decide
  omega
theorem rd_small2 {b : List Nat} (hb : Byt b) (k wd : Nat) (hw : wd ≤ 2) : rd b k wd ≤ 65535 := by
  have h1 := num_lt ((b.drop k).take wd) (fun x hx => hb x (List.mem_of_mem_drop (List.mem_of_mem_take hx)))
  have h2 : ((b.drop k).take wd).length ≤ 2 := by simp; omega
  have h3 : 256 ^ ((b.drop k).take wd).length ≤ 256 ^ 2 := Nat.pow_le_pow_right (by omega) h2
  unfold rd
  have : (256 : Nat) ^ 2 = 65536 := by decide
  omega
theorem wF_pos {p : Nat × Nat} (h : Kd p) {t v : Nat} (hp : pFd p.2 t v = false) : 0 < wF p.2 := by
  rcases h with h | h | h | h | h | h | h | h | h | h | h | h | h | h <;> subst h
  all_goals first | decide | (exact absurd hp (by intro q; cases q))
theorem add_len2 {p : Nat × Nat} (h : Kd p) (v : Nat) (hv : p.1 ≤ 2 → v ≤ 65535) : (addF p.2 v).length ≤ 65540 := by
  by_cases q : p.1 ≤ 2
  · exact add_len _ _ (hv q)
  · rcases h with h | h | h | h | h | h | h | h | h | h | h | h | h | h <;> subst h
    all_goals first | (exact absurd q (by decide)) | (show ([] : List (Nat × Nat)).length ≤ 65540; decide)
set_option maxHeartbeats 4000000 in
set_option maxRecDepth 100000 in
theorem rheader_is {P : Nat → Prop} (w : World) (v : Value) (b : List Nat) (h : BL P w v b) (hb : Byt b) (hl : b.length ≤ 16777216) : Calls Try.prog 68 #[v] w fun e w' => RHA w.heap.size (hdr b) e w' ∧ Below w.heap.size w w' := by
  obtain ⟨ba, bc, rfl, hbc, _⟩ := h.len
  obtain ⟨LL, hLL⟩ : ∃ LL, LL = hdr b := ⟨_, rfl⟩
  rw [← hLL]
  have HNT : Hid (LL ≠ .error (999, 0)) := by unfold Hid; rw [hLL]; exact hdr_not b
  have HP : Hid (LL = pr b 2000 base7 ⟨0, 0, [], [], 0⟩) := by unfold Hid; rw [hLL, pr_hdr]
  have HBL : Hid (∀ W, Below w.heap.size w W → BL P W (.slice ba b.length bc) b) := fun W hW => h.past hW
  have HBY : Hid (Byt b) := hb
  have HLN : Hid (b.length ≤ 16777216) := hl
  have nI : (b.length : Int) ≤ 16777216 := by omega
  have M0 : Hid (RH w.heap.size w (w.alloc (.cells #[.int .i64 1, .int .i64 1, .int .i64 1, .int .i64 2, .int .i64 1, .int .i64 3, .int .i64 1, .int .i64 4, .int .i64 2, .int .i64 5, .int .i64 1, .int .i64 6, .int .i64 2, .int .i64 7] 123)) (.slice none 0 0) (.slice none 0 0) (.slice (some ⟨w.heap.size, 0, none⟩) 7 7) [] [] base7) := by
    refine ⟨InO.nil _ _, InO.nil _ _, ⟨rfl, Or.inr ⟨w.heap.size, 7, (fV base7).toArray, rfl, Nat.le_refl _, CBox.new _ _ _, by decide, by decide, by rfl, by rfl⟩⟩, below_alloc _ _, Nat.le_refl _, fun g e => by cases e⟩
  generalize hnb : b.length = nb at *
  have HNB : Hid (b.length = nb) := hnb
  clear h hb hl hbc hLL hnb
  go_enter Try.func68, Try.ntmps68
  go_upto_region 2 with fail
  generalize hbw : w.heap.size = bw at M0 HBL ⊢
  have GB : Hid (w.heap.size = bw) := hbw
  clear hbw
  generalize w.alloc _ = W0 at M0 ⊢
  go_wp2
  go_loopw [2, 3, 4, 8, 9, 10, 11] (fun s2 s3 s4 s8 s9 s10 s11 wr => ∃ (i k ty sz : Nat) (cs ss : List Nat) (td : List (Nat × Nat)), s11 = .int .i64 (i : Int) ∧ s10 = .int .i64 (k : Int) ∧ s9 = .int .i64 (ty : Int) ∧ s4 = .int .i64 (sz : Int) ∧ i ≤ 2000 ∧ RH bw w wr s2 s3 s8 cs ss td ∧ (∀ p ∈ td, Kd p) ∧ i ≤ td.length ∧ td.length ≤ 7 + i * 65540 ∧ k ≤ nb ∧ ty ≤ 4294967296 ∧ sz ≤ 4294967296 ∧ cs.length ≤ i ∧ ss.length ≤ i ∧ LL = pr b (2000 - i) (td.drop i) ⟨ty, k, cs, ss, sz⟩) (fun _ _ _ _ _ _ s11 _ => 2000 - (intOf s11).toNat)
  case atStart => exact ⟨0, 0, 0, 0, [], [], base7, rfl, rfl, rfl, rfl, by omega, M0.out, (by intro p hp; unfold base7 at hp; unfold Kd; simp at hp; rcases hp with h | h | h | h | h | h | h <;> subst h <;> simp), by decide, by decide, by omega, by omega, by omega, by decide, by decide, HP.out⟩
  case round =>
    obtain ⟨i, k, ty, sz, cs, ss, td, rfl, rfl, rfl, rfl, hi, hM, hkd, hil, htl, hk, hty, hsz, hcl, hsl, hE⟩ := hrel
    have M : Hid (RH bw w wr u2 u3 u8 cs ss td) := hM
    have KD : Hid (∀ p ∈ td, Kd p) := hkd
    have HT : Hid (td.length ≤ 7 + i * 65540 ∧ cs.length ≤ i ∧ ss.length ≤ i ∧ ty ≤ 4294967296 ∧ sz ≤ 4294967296) := ⟨htl, hcl, hsl, hty, hsz⟩
    have HE : Hid (LL = pr b (2000 - i) (td.drop i) ⟨ty, k, cs, ss, sz⟩) := hE
    clear hM hkd htl hty hsz hcl hsl hE M0 HP
    have hi2 : i ≠ 2000 := by
      rintro rfl
      have h9 := HE.out
      rw [Nat.sub_self] at h9
      exact HNT.out h9
    obtain ⟨f, hf⟩ : ∃ f, 2000 - i = f + 1 := ⟨1999 - i, by omega⟩
    have HF : Hid (2000 - (i + 1) = f) := by unfold Hid; omega
    have HI : Hid (i < 2000) := by unfold Hid; omega
    rw [hf] at HE
    clear hf hi2
    obtain ⟨ta, tc, rfl⟩ := owns_sl M.out.t
    by_cases e : i = td.length
    · have E0 : Hid (LL = .ok ⟨cs, ss, sz, k⟩) := by
        have h9 := HE.out
        rw [List.drop_of_length_le (by omega)] at h9
        exact h9
      obtain ⟨ca, cc, rfl⟩ := owns_sl M.out.c
      obtain ⟨sa, sc, rfl⟩ := owns_sl M.out.s
      generalize td.length = n at *
      subst e
      go_wp2
      refine bodyPost_ret (v := .tuple #[.slice ca cs.length cc, .slice sa ss.length sc, .int .i64 (sz : Int), .int .i64 (k : Int), .int .i64 0, .int .i64 0]) (by simp [results, Try.results68]) rfl ?_
      rw [E0.out, GB.out]
      exact ⟨⟨_, _, rfl, M.out.c, M.out.s⟩, M.out.bel⟩
    · obtain ⟨p, hp⟩ : ∃ p, td[i]? = some p := ⟨td[i]'(by omega), List.getElem?_eq_getElem _⟩
      have HPK : Hid (Kd p) := KD.out p (List.mem_of_getElem? hp)
      have HD : Hid (td.drop i = p :: td.drop (i + 1)) := by
        obtain ⟨hlt, he⟩ := List.getElem?_eq_some_iff.1 hp
        unfold Hid
        rw [List.drop_eq_getElem_cons hlt, he]
      obtain ⟨g, rfl, k0, k1⟩ := M.out.t.get hp
      obtain ⟨wd, wt⟩ := p
      have hwd := kd_wd HPK.out
      dsimp only at k0 k1 hwd
      have HE : Hid (LL = (fld b k wd (wF wt) (pFd wt ty)).bind fun v => pr b f (td.drop (i + 1) ++ addF wt v) { setF wt v ⟨ty, k, cs, ss, sz⟩ with k := k + wd }) := by
        have h9 := HE.out
        rw [HD.out] at h9
        exact h9
      have iI : (i : Int) < (td.length : Int) := by omega
      have HIL : Hid (i < td.length) := by unfold Hid; omega
      clear e hp HD
      generalize hn : td.length = n at *
      have HNL : Hid (td.length = n) := hn
      clear hn
      have C0 : Hid (RH bw w (wr.alloc (.cells #[.int .i64 (wd : Int), .int .i64 (wt : Int)] 123)) u2 u3 (.slice (some ⟨g, 0, none⟩) n tc) cs ss td ∧ CBox (wr.alloc (.cells #[.int .i64 (wd : Int), .int .i64 (wt : Int)] 123)) wr.heap.size 123 [.int .i64 (wd : Int), .int .i64 (wt : Int)]) := ⟨M.out.past (below_alloc _ _), CBox.new _ _ [_, _]⟩
      go_upto_region 8 with fail
      generalize wr.alloc _ = W1 at C0 ⊢
      generalize wr.heap.size = bx at C0 ⊢
      have c0 : W1.cell? ⟨bx, 0, none⟩ = some (.int .i64 (wd : Int)) := C0.out.2.cell 0
      have c1 : W1.cell? ⟨bx, 1, none⟩ = some (.int .i64 (wt : Int)) := C0.out.2.cell 1
      clear M k0 k1
      obtain ⟨kw, hkw⟩ : ∃ kw, kw = k + wd := ⟨_, rfl⟩
      have r1 : (k : Int) + (wd : Int) = (kw : Int) := by omega
      have w1 : IntKind.i64.wrap (kw : Int) = (kw : Int) := by rw [IntKind.wrap_i64]; omega
      by_cases ec : nb < kw
      · have E0 : Hid (LL = .error (50, nb)) := by unfold Hid; rw [HE.out, fld_cut (by rw [HNB.out]; omega), HNB.out]; rfl
        have q1 : (nb : Int) < (kw : Int) := by omega
        clear ec hkw HE
        go_wp2
        refine bodyPost_ret (v := .tuple #[.slice none 0 0, .slice none 0 0, .int .i64 0, .int .i64 0, .int .i64 50, .int .i64 (nb : Int)]) (by simp [results, Try.results68]) rfl ?_
        rw [E0.out, GB.out]
        exact ⟨rfl, C0.out.1.bel⟩
      have q1 : ¬ (nb : Int) < (kw : Int) := by omega
      have AC0 := at_is W1 (.slice ba nb bc) b k wd (HBL.out W1 C0.out.1.bel) HBY.out hwd.2 (by rw [HNB.out]; omega) (by rw [HNB.out]; omega)
      have AC : Hid (Calls Try.prog 72 #[.slice ba nb bc, .int .i64 (k : Int), .int .i64 (wd : Int)] W1 fun e w' => e = .returned (.int .i64 (rd b k wd : Int)) ∧ w' = W1) := AC0
      have HV : Hid (rd b k wd < 4294967296 ∧ (wd ≤ 2 → rd b k wd ≤ 65535)) := ⟨rd_lt4 HBY.out k wd hwd.2, fun q => rd_small2 HBY.out k wd q⟩
      have FOK : Hid (pFd wt ty (rd b k wd) = true → fld b k wd (wF wt) (pFd wt ty) = .ok (rd b k wd)) := fun q => fld_ok (by rw [HNB.out]; omega) q
      have FNO : Hid (pFd wt ty (rd b k wd) = false → fld b k wd (wF wt) (pFd wt ty) = .error (wF wt, k)) := fun q => fld_no (by rw [HNB.out]; omega) q
      have HKW : Hid (kw = k + wd ∧ kw ≤ nb) := ⟨hkw, by omega⟩
      clear AC0 ec hwd hkw
      generalize rd b k wd = v at *
      have WC : Hid (Calls Try.prog 101 #[.int .i64 (wt : Int), .int .i64 (v : Int), .int .i64 (ty : Int)] W1 fun e w' => e = .returned (.int .i64 (wrF wt v ty : Int)) ∧ w' = W1) := wrong_is W1 (wd, wt) v ty HPK.out HV.out.1
      cases ep : pFd wt ty v with
      | false =>
        have E0 : Hid (LL = .error (wF wt, k)) := by unfold Hid; rw [HE.out, FNO.out ep]; rfl
        have hy : wrF wt v ty = wF wt := by unfold wrF; rw [ep]; rfl
        have hy0 := wF_pos HPK.out ep
        dsimp only at hy0
        rw [hy] at WC
        clear hy ep HE FOK FNO
        generalize wF wt = y at *
        have qy : ((y : Int) != 0) = true := by simp; omega
        clear hy0
        go_wp2_with (first | (go_at_call 72; refine AC.out.mono ?_; rintro e w' ⟨rfl, hw⟩; (have hw2 := hw.symm); clear hw; subst hw2) | (go_at_call 101; refine WC.out.mono ?_; rintro e w' ⟨rfl, hw⟩; (have hw2 := hw.symm); clear hw; subst hw2))
        refine bodyPost_ret (v := .tuple #[.slice none 0 0, .slice none 0 0, .int .i64 0, .int .i64 0, .int .i64 (y : Int), .int .i64 (k : Int)]) (by simp [results, Try.results68]) rfl ?_
        rw [E0.out, GB.out]
        exact ⟨rfl, C0.out.1.bel⟩
      | true =>
      have hy : wrF wt v ty = 0 := by unfold wrF; rw [ep]; rfl
      rw [hy] at WC
      have WC : Hid (Calls Try.prog 101 #[.int .i64 (wt : Int), .int .i64 (v : Int), .int .i64 (ty : Int)] W1 fun e w' => e = .returned (.int .i64 0) ∧ w' = W1) := WC.out
      have HE2 : Hid (LL = pr b (2000 - (i + 1)) ((td ++ addF wt v).drop (i + 1)) { setF wt v ⟨ty, k, cs, ss, sz⟩ with k := kw }) := by
        unfold Hid
        rw [HE.out, FOK.out ep, HF.out, List.drop_append_of_le_length (by have := HIL.out; have := HNL.out; omega), HKW.out.1]
        rfl
      have HKD2 : Hid (∀ p ∈ td ++ addF wt v, Kd p) := fun p hp => by
        rcases List.mem_append.1 hp with h | h
        · exact KD.out p h
        · exact kd_add wt v p h
      have HTL2 : Hid (i + 1 ≤ (td ++ addF wt v).length ∧ (td ++ addF wt v).length ≤ 7 + (i + 1) * 65540) := by
        have h1 := add_len2 HPK.out v HV.out.2
        have h2 := HT.out
        have h3 := HNL.out
        have h4 := HIL.out
        dsimp only at h1
        unfold Hid
        rw [List.length_append]
        omega
      clear hy ep HE FOK FNO
      go_upto_region 14 with (first | (go_at_call 72; refine AC.out.mono ?_; rintro e w' ⟨rfl, hw⟩; (have hw2 := hw.symm); clear hw; subst hw2) | (go_at_call 101; refine WC.out.mono ?_; rintro e w' ⟨rfl, hw⟩; (have hw2 := hw.symm); clear hw; subst hw2))
      have C1 : Hid (RH bw w W1 u2 u3 (.slice (some ⟨g, 0, none⟩) n tc) cs ss td) := C0.out.1
      have iB : (i : Int) < 2000 := by have := HI.out; omega
      go_upto_region 16 with fail
      clear AC WC C0 c0 r1 w1 q1
      generalize hz : (wt : Int) = z at c1 ⊢
      clear c1
      rcases HPK.out with h | h | h | h | h | h | h | h | h | h | h | h | h | h
      · obtain ⟨rfl, rfl⟩ := Prod.mk.inj h
        have hz9 : z = 1 := hz.symm
        subst hz9
        clear hz h
        have hap : td ++ addF 1 v = td := List.append_nil td
        rw [hap] at HE2 HKD2 HTL2
        go_wp2
        go_roundw
        case rel => exact ⟨i + 1, kw, ty, sz, cs, ss, td, by first | rfl | go_num, rfl, rfl, rfl, by omega, C1.out, HKD2.out, HTL2.out.1, HTL2.out.2, HKW.out.2, by have := HT.out; have := HV.out.1; omega, by have := HT.out; have := HV.out.1; omega, by have := HT.out; (try rw [List.length_append]); (try simp only [List.length_singleton]); omega, by have := HT.out; (try rw [List.length_append]); (try simp only [List.length_singleton]); omega, HE2.out⟩
        case measure => simp [intOf]; omega
      · obtain ⟨rfl, rfl⟩ := Prod.mk.inj h
        have hz9 : z = 2 := hz.symm
        subst hz9
        clear hz h
        have hap : td ++ addF 2 v = td := List.append_nil td
        rw [hap] at HE2 HKD2 HTL2
        go_wp2
        go_roundw
        case rel => exact ⟨i + 1, kw, ty, sz, cs, ss, td, by first | rfl | go_num, rfl, rfl, rfl, by omega, C1.out, HKD2.out, HTL2.out.1, HTL2.out.2, HKW.out.2, by have := HT.out; have := HV.out.1; omega, by have := HT.out; have := HV.out.1; omega, by have := HT.out; (try rw [List.length_append]); (try simp only [List.length_singleton]); omega, by have := HT.out; (try rw [List.length_append]); (try simp only [List.length_singleton]); omega, HE2.out⟩
        case measure => simp [intOf]; omega
      · obtain ⟨rfl, rfl⟩ := Prod.mk.inj h
        have hz9 : z = 3 := hz.symm
        subst hz9
        clear hz h
        have hap : td ++ addF 3 v = td := List.append_nil td
        rw [hap] at HE2 HKD2 HTL2
        go_wp2
        go_roundw
        case rel => exact ⟨i + 1, kw, ty, sz, cs, ss, td, by first | rfl | go_num, rfl, rfl, rfl, by omega, C1.out, HKD2.out, HTL2.out.1, HTL2.out.2, HKW.out.2, by have := HT.out; have := HV.out.1; omega, by have := HT.out; have := HV.out.1; omega, by have := HT.out; (try rw [List.length_append]); (try simp only [List.length_singleton]); omega, by have := HT.out; (try rw [List.length_append]); (try simp only [List.length_singleton]); omega, HE2.out⟩
        case measure => simp [intOf]; omega
      · obtain ⟨rfl, rfl⟩ := Prod.mk.inj h
        have hz9 : z = 4 := hz.symm
        subst hz9
        clear hz h
        have hap : td ++ addF 4 v = td := List.append_nil td
        rw [hap] at HE2 HKD2 HTL2
        go_wp2
        go_roundw
        case rel => exact ⟨i + 1, kw, ty, sz, cs, ss, td, by first | rfl | go_num, rfl, rfl, rfl, by omega, C1.out, HKD2.out, HTL2.out.1, HTL2.out.2, HKW.out.2, by have := HT.out; have := HV.out.1; omega, by have := HT.out; have := HV.out.1; omega, by have := HT.out; (try rw [List.length_append]); (try simp only [List.length_singleton]); omega, by have := HT.out; (try rw [List.length_append]); (try simp only [List.length_singleton]); omega, HE2.out⟩
        case measure => simp [intOf]; omega
      · obtain ⟨rfl, rfl⟩ := Prod.mk.inj h
        have hz9 : z = 5 := hz.symm
        subst hz9
        clear hz h
        have hap : td ++ addF 5 v = td := List.append_nil td
        rw [hap] at HE2 HKD2 HTL2
        go_wp2
        go_roundw
        case rel => exact ⟨i + 1, kw, v, sz, cs, ss, td, by first | rfl | go_num, rfl, rfl, rfl, by omega, C1.out, HKD2.out, HTL2.out.1, HTL2.out.2, HKW.out.2, by have := HT.out; have := HV.out.1; omega, by have := HT.out; have := HV.out.1; omega, by have := HT.out; (try rw [List.length_append]); (try simp only [List.length_singleton]); omega, by have := HT.out; (try rw [List.length_append]); (try simp only [List.length_singleton]); omega, HE2.out⟩
        case measure => simp [intOf]; omega
      · obtain ⟨rfl, rfl⟩ := Prod.mk.inj h
        have hz9 : z = 6 := hz.symm
        subst hz9
        clear hz h
        have hap : td ++ addF 6 v = td := List.append_nil td
        rw [hap] at HE2 HKD2 HTL2
        go_wp2
        go_roundw
        case rel => exact ⟨i + 1, kw, ty, sz, cs, ss, td, by first | rfl | go_num, rfl, rfl, rfl, by omega, C1.out, HKD2.out, HTL2.out.1, HTL2.out.2, HKW.out.2, by have := HT.out; have := HV.out.1; omega, by have := HT.out; have := HV.out.1; omega, by have := HT.out; (try rw [List.length_append]); (try simp only [List.length_singleton]); omega, by have := HT.out; (try rw [List.length_append]); (try simp only [List.length_singleton]); omega, HE2.out⟩
        case measure => simp [intOf]; omega
      · obtain ⟨rfl, rfl⟩ := Prod.mk.inj h
        have hz9 : z = 7 := hz.symm
        subst hz9
        clear hz h
        have v5 : v ≤ 65535 := HV.out.2 (by decide)
        obtain ⟨t2, ht2⟩ : ∃ t2, t2 = td ++ List.replicate v (2, 8) := ⟨_, rfl⟩
        have HT2 : Hid (td ++ addF 7 v = t2 ++ [(1, 9)]) := by unfold Hid; rw [ht2]; exact (List.append_assoc ..).symm
        have MC : Hid (Calls Try.prog 102 #[.slice (some ⟨g, 0, none⟩) n tc, .int .i64 (v : Int), .agg #[.int .i64 2, .int .i64 8]] W1 fun e w' => ∃ v', e = .returned v' ∧ App bw 123 2 W1 w' (.slice (some ⟨g, 0, none⟩) n tc) v' t2.length (fV t2)) := by
          rw [ht2]
          exact more_is W1 bw C1.out.le _ td C1.out.t v 2 8 (by omega) (by have := HT.out; have := HNL.out; have := HI.out; omega)
        have HLe : Hid (t2.length + 1 ≤ 2199023255552) := by unfold Hid; rw [ht2, List.length_append, List.length_replicate]; have := HT.out; have := HNL.out; have := HI.out; omega
        clear ht2
        go_upto_region 20 with (go_at_call 102; refine MC.out.mono ?_; rintro e w2 ⟨v2, rfl, hA⟩; (have R2 : Hid (RH bw w w2 u2 u3 v2 cs ss t2) := C1.out.appT hA); (clear hA); (obtain ⟨a2, c2, rfl⟩ := owns_sl R2.out.t))
        go_wp2_with (at_builtin; refine wpList_appF rfl _ _ rfl bw R2.out.le (.slice a2 t2.length c2) t2 rfl R2.out.t [(1, 9)] 1 rfl rfl HLe.out ?_; intro v3 w3 hA)
        have R3 : Hid (RH bw w w3 u2 u3 v3 cs ss (td ++ addF 7 v)) := by unfold Hid; rw [HT2.out]; exact R2.out.appT hA
        clear hA
        go_roundw
        case rel => exact ⟨i + 1, kw, ty, sz, cs, ss, td ++ addF 7 v, by first | rfl | go_num, rfl, rfl, rfl, by omega, R3.out, HKD2.out, HTL2.out.1, HTL2.out.2, HKW.out.2, by have := HT.out; have := HV.out.1; omega, by have := HT.out; have := HV.out.1; omega, by have := HT.out; (try rw [List.length_append]); (try simp only [List.length_singleton]); omega, by have := HT.out; (try rw [List.length_append]); (try simp only [List.length_singleton]); omega, HE2.out⟩
        case measure => simp [intOf]; omega
      · obtain ⟨rfl, rfl⟩ := Prod.mk.inj h
        have hz9 : z = 8 := hz.symm
        subst hz9
        clear hz h
        have hap : td ++ addF 8 v = td := List.append_nil td
        rw [hap] at HE2 HKD2 HTL2
        obtain ⟨ca, cc, rfl⟩ := owns_sl C1.out.c
        have HLe : Hid (cs.length + 1 ≤ 2199023255552) := by unfold Hid; have := HT.out; have := HI.out; omega
        go_wp2_with (at_builtin; refine wpList_appI rfl _ _ rfl bw C1.out.le (.slice ca cs.length cc) cs rfl C1.out.c v rfl HLe.out ?_; intro v3 w3 hA)
        have R3 : Hid (RH bw w w3 v3 u3 (.slice (some ⟨g, 0, none⟩) n tc) (cs ++ [v]) ss td) := C1.out.appC hA
        clear hA
        go_roundw
        case rel => exact ⟨i + 1, kw, ty, sz, cs ++ [v], ss, td, by first | rfl | go_num, rfl, rfl, rfl, by omega, R3.out, HKD2.out, HTL2.out.1, HTL2.out.2, HKW.out.2, by have := HT.out; have := HV.out.1; omega, by have := HT.out; have := HV.out.1; omega, by have := HT.out; (try rw [List.length_append]); (try simp only [List.length_singleton]); omega, by have := HT.out; (try rw [List.length_append]); (try simp only [List.length_singleton]); omega, HE2.out⟩
        case measure => simp [intOf]; omega
      · obtain ⟨rfl, rfl⟩ := Prod.mk.inj h
        have hz9 : z = 9 := hz.symm
        subst hz9
        clear hz h
        by_cases e3 : v = 3
        · have q3 : ((v : Int) == 3) = true := by simp; omega
          have HT2 : Hid (td ++ addF 9 v = td ++ [(2, 10)]) := by unfold Hid; show td ++ (if v = 3 then [(2, 10)] else [(2, 13), (1, 14)]) = _; rw [if_pos e3]
          have HLe : Hid (td.length + 1 ≤ 2199023255552) := by unfold Hid; have := HT.out; have := HNL.out; have := HI.out; omega
          go_wp2_with (at_builtin; refine wpList_appF rfl _ _ rfl bw C1.out.le (.slice (some ⟨g, 0, none⟩) n tc) td rfl C1.out.t [(2, 10)] 1 rfl rfl HLe.out ?_; intro v3 w3 hA)
          have R3 : Hid (RH bw w w3 u2 u3 v3 cs ss (td ++ addF 9 v)) := by unfold Hid; rw [HT2.out]; exact C1.out.appT hA
          clear hA
          go_roundw
          case rel => exact ⟨i + 1, kw, ty, sz, cs, ss, td ++ addF 9 v, by first | rfl | go_num, rfl, rfl, rfl, by omega, R3.out, HKD2.out, HTL2.out.1, HTL2.out.2, HKW.out.2, by have := HT.out; have := HV.out.1; omega, by have := HT.out; have := HV.out.1; omega, by have := HT.out; (try rw [List.length_append]); (try simp only [List.length_singleton]); omega, by have := HT.out; (try rw [List.length_append]); (try simp only [List.length_singleton]); omega, HE2.out⟩
          case measure => simp [intOf]; omega
        · have q3 : ((v : Int) == 3) = false := by simp; omega
          have HT2 : Hid (td ++ addF 9 v = td ++ [(2, 13), (1, 14)]) := by unfold Hid; show td ++ (if v = 3 then [(2, 10)] else [(2, 13), (1, 14)]) = _; rw [if_neg e3]
          have HLe : Hid (td.length + 2 ≤ 2199023255552) := by unfold Hid; have := HT.out; have := HNL.out; have := HI.out; omega
          go_wp2_with (at_builtin; refine wpList_appF rfl _ _ rfl bw C1.out.le (.slice (some ⟨g, 0, none⟩) n tc) td rfl C1.out.t [(2, 13), (1, 14)] 2 rfl rfl HLe.out ?_; intro v3 w3 hA)
          have R3 : Hid (RH bw w w3 u2 u3 v3 cs ss (td ++ addF 9 v)) := by unfold Hid; rw [HT2.out]; exact C1.out.appT hA
          clear hA
          go_roundw
          case rel => exact ⟨i + 1, kw, ty, sz, cs, ss, td ++ addF 9 v, by first | rfl | go_num, rfl, rfl, rfl, by omega, R3.out, HKD2.out, HTL2.out.1, HTL2.out.2, HKW.out.2, by have := HT.out; have := HV.out.1; omega, by have := HT.out; have := HV.out.1; omega, by have := HT.out; (try rw [List.length_append]); (try simp only [List.length_singleton]); omega, by have := HT.out; (try rw [List.length_append]); (try simp only [List.length_singleton]); omega, HE2.out⟩
          case measure => simp [intOf]; omega
      · obtain ⟨rfl, rfl⟩ := Prod.mk.inj h
        have hz9 : z = 10 := hz.symm
        subst hz9
        clear hz h
        have v5 : v ≤ 65535 := HV.out.2 (by decide)
        obtain ⟨t2, ht2⟩ : ∃ t2, t2 = td ++ List.replicate v (4, 11) := ⟨_, rfl⟩
        have HT2 : Hid (td ++ addF 10 v = t2 ++ [(1, 12), (2, 13), (1, 14)]) := by unfold Hid; rw [ht2]; exact (List.append_assoc ..).symm
        have MC : Hid (Calls Try.prog 102 #[.slice (some ⟨g, 0, none⟩) n tc, .int .i64 (v : Int), .agg #[.int .i64 4, .int .i64 11]] W1 fun e w' => ∃ v', e = .returned v' ∧ App bw 123 2 W1 w' (.slice (some ⟨g, 0, none⟩) n tc) v' t2.length (fV t2)) := by
          rw [ht2]
          exact more_is W1 bw C1.out.le _ td C1.out.t v 4 11 (by omega) (by have := HT.out; have := HNL.out; have := HI.out; omega)
        have HLe : Hid (t2.length + 3 ≤ 2199023255552) := by unfold Hid; rw [ht2, List.length_append, List.length_replicate]; have := HT.out; have := HNL.out; have := HI.out; omega
        clear ht2
        go_upto_region 29 with (go_at_call 102; refine MC.out.mono ?_; rintro e w2 ⟨v2, rfl, hA⟩; (have R2 : Hid (RH bw w w2 u2 u3 v2 cs ss t2) := C1.out.appT hA); (clear hA); (obtain ⟨a2, c2, rfl⟩ := owns_sl R2.out.t))
        go_wp2_with (at_builtin; refine wpList_appF rfl _ _ rfl bw R2.out.le (.slice a2 t2.length c2) t2 rfl R2.out.t [(1, 12), (2, 13), (1, 14)] 3 rfl rfl HLe.out ?_; intro v3 w3 hA)
        have R3 : Hid (RH bw w w3 u2 u3 v3 cs ss (td ++ addF 10 v)) := by unfold Hid; rw [HT2.out]; exact R2.out.appT hA
        clear hA
        go_roundw
        case rel => exact ⟨i + 1, kw, ty, sz, cs, ss, td ++ addF 10 v, by first | rfl | go_num, rfl, rfl, rfl, by omega, R3.out, HKD2.out, HTL2.out.1, HTL2.out.2, HKW.out.2, by have := HT.out; have := HV.out.1; omega, by have := HT.out; have := HV.out.1; omega, by have := HT.out; (try rw [List.length_append]); (try simp only [List.length_singleton]); omega, by have := HT.out; (try rw [List.length_append]); (try simp only [List.length_singleton]); omega, HE2.out⟩
        case measure => simp [intOf]; omega
      · obtain ⟨rfl, rfl⟩ := Prod.mk.inj h
        have hz9 : z = 11 := hz.symm
        subst hz9
        clear hz h
        have hap : td ++ addF 11 v = td := List.append_nil td
        rw [hap] at HE2 HKD2 HTL2
        obtain ⟨sa, sc, rfl⟩ := owns_sl C1.out.s
        have HLe : Hid (ss.length + 1 ≤ 2199023255552) := by unfold Hid; have := HT.out; have := HI.out; omega
        go_wp2_with (at_builtin; refine wpList_appI rfl _ _ rfl bw C1.out.le (.slice sa ss.length sc) ss rfl C1.out.s v rfl HLe.out ?_; intro v3 w3 hA)
        have R3 : Hid (RH bw w w3 u2 v3 (.slice (some ⟨g, 0, none⟩) n tc) cs (ss ++ [v]) td) := C1.out.appS hA
        clear hA
        go_roundw
        case rel => exact ⟨i + 1, kw, ty, sz, cs, ss ++ [v], td, by first | rfl | go_num, rfl, rfl, rfl, by omega, R3.out, HKD2.out, HTL2.out.1, HTL2.out.2, HKW.out.2, by have := HT.out; have := HV.out.1; omega, by have := HT.out; have := HV.out.1; omega, by have := HT.out; (try rw [List.length_append]); (try simp only [List.length_singleton]); omega, by have := HT.out; (try rw [List.length_append]); (try simp only [List.length_singleton]); omega, HE2.out⟩
        case measure => simp [intOf]; omega
      · obtain ⟨rfl, rfl⟩ := Prod.mk.inj h
        have hz9 : z = 12 := hz.symm
        subst hz9
        clear hz h
        have hap : td ++ addF 12 v = td := List.append_nil td
        rw [hap] at HE2 HKD2 HTL2
        go_wp2
        go_roundw
        case rel => exact ⟨i + 1, kw, ty, sz, cs, ss, td, by first | rfl | go_num, rfl, rfl, rfl, by omega, C1.out, HKD2.out, HTL2.out.1, HTL2.out.2, HKW.out.2, by have := HT.out; have := HV.out.1; omega, by have := HT.out; have := HV.out.1; omega, by have := HT.out; (try rw [List.length_append]); (try simp only [List.length_singleton]); omega, by have := HT.out; (try rw [List.length_append]); (try simp only [List.length_singleton]); omega, HE2.out⟩
        case measure => simp [intOf]; omega
      · obtain ⟨rfl, rfl⟩ := Prod.mk.inj h
        have hz9 : z = 13 := hz.symm
        subst hz9
        clear hz h
        have hap : td ++ addF 13 v = td := List.append_nil td
        rw [hap] at HE2 HKD2 HTL2
        go_wp2
        go_roundw
        case rel => exact ⟨i + 1, kw, ty, v, cs, ss, td, by first | rfl | go_num, rfl, rfl, rfl, by omega, C1.out, HKD2.out, HTL2.out.1, HTL2.out.2, HKW.out.2, by have := HT.out; have := HV.out.1; omega, by have := HT.out; have := HV.out.1; omega, by have := HT.out; (try rw [List.length_append]); (try simp only [List.length_singleton]); omega, by have := HT.out; (try rw [List.length_append]); (try simp only [List.length_singleton]); omega, HE2.out⟩
        case measure => simp [intOf]; omega
      · obtain ⟨rfl, rfl⟩ := Prod.mk.inj h
        have hz9 : z = 14 := hz.symm
        subst hz9
        clear hz h
        have hap : td ++ addF 14 v = td := List.append_nil td
        rw [hap] at HE2 HKD2 HTL2
        go_wp2
        go_roundw
        case rel => exact ⟨i + 1, kw, ty, sz, cs, ss, td, by first | rfl | go_num, rfl, rfl, rfl, by omega, C1.out, HKD2.out, HTL2.out.1, HTL2.out.2, HKW.out.2, by have := HT.out; have := HV.out.1; omega, by have := HT.out; have := HV.out.1; omega, by have := HT.out; (try rw [List.length_append]); (try simp only [List.length_singleton]); omega, by have := HT.out; (try rw [List.length_append]); (try simp only [List.length_singleton]); omega, HE2.out⟩
        case measure => simp [intOf]; omega
end Go.Proofs.Ytndhabhlajldeaa
/- The document's cut: pieces out of bytes. -/
namespace Go.Proofs.Ytndhabhlajldeaa
open Go.RowKit
set_option maxHeartbeats 4000000 in
set_option maxRecDepth 100000 in
theorem cut_is {P : Nat → Prop} {C : Nat} (w : World) (v : Value) (b : List Nat) (k : Nat) (lv : Value) (ls : List Nat) (h : BL P w v b) (hi : InO C w lv ls) (hk : k + sumL ls ≤ b.length) (hb : b.length ≤ 1073741824) (hn : ls.length ≤ 16777216) : Calls Try.prog 71 #[v, .int .i64 (k : Int), lv] w fun e w' => ∃ v', e = .returned v' ∧ PO w.heap.size w' v' (cuts b k ls) ∧ Below w.heap.size w w' := by
  obtain ⟨ad, cap, rfl, _, _⟩ := h.len
  obtain ⟨la, lc, rfl⟩ := owns_sl hi
  obtain ⟨CU, hCU⟩ : ∃ CU, CU = cuts b k ls := ⟨_, rfl⟩
  have HCL : Hid (CU.length = ls.length ∧ ∀ i x, ls[i]? = some x → CU[i]? = some ((b.drop (k + sumL (ls.take i))).take x)) := ⟨by rw [hCU, cuts_len], fun i x q => by rw [hCU]; exact cuts_get b ls k i x q⟩
  rw [← hCU]
  have HBL : Hid (∀ W, Below w.heap.size w W → BL P W (.slice ad b.length cap) b) := fun W hW => h.past hW
  have HIL : Hid (∀ W, Below w.heap.size w W → InO C W (.slice la ls.length lc) ls) := fun W hW => hi.past hW
  have M0 : Hid (PO w.heap.size w (.slice none 0 0) [] ∧ Below w.heap.size w w) := ⟨PO.nil _ _, Below.refl _ _⟩
  have nI : (ls.length : Int) ≤ 16777216 := by omega
  have HK : Hid (k + sumL ls ≤ b.length ∧ b.length ≤ 1073741824) := ⟨hk, hb⟩
  generalize hN : ls.length = n at *
  have HN : Hid (ls.length = n) := hN
  generalize hNB : b.length = nb at *
  have HNB : Hid (b.length = nb) := hNB
  clear h hi hN hNB hCU hk hb hn
  generalize hbw : w.heap.size = bw at *
  have GE : Hid (bw ≤ w.heap.size) := by unfold Hid; omega
  clear hbw
  go_enter Try.func71, Try.ntmps71
  go_wp2
  go_loopw [1, 7, 8] (fun s1 s7 s8 wr => ∃ i kk : Nat, s8 = .int .i64 (i : Int) ∧ i ≤ n ∧ s1 = .int .i64 (kk : Int) ∧ kk = k + sumL (ls.take i) ∧ PO bw wr s7 (CU.take i) ∧ Below bw w wr) (fun _ _ s8 _ => n - (intOf s8).toNat)
  case atStart => exact ⟨0, k, rfl, by omega, rfl, by simp [sumL], M0.out.1, M0.out.2⟩
  case round =>
    obtain ⟨i, kk, rfl, hi, rfl, hkk, hP, hB⟩ := hrel
    have M : Hid (PO bw wr u7 (CU.take i) ∧ Below bw w wr) := ⟨hP, hB⟩
    clear hP hB M0
    by_cases e : i = n
    · have e9 := e.symm
      clear e
      subst e9
      have M2 : Hid (PO bw wr u7 CU) := by have := M.out.1; rwa [List.take_of_length_le (by have := HN.out; have := HCL.out.1; omega)] at this
      go_wp2
      go_ret
      exact ⟨u7, rfl, M2.out, M.out.2⟩
    · have iI : (i : Int) < (n : Int) := by omega
      obtain ⟨q, hq⟩ : ∃ q, ls[i]? = some q := ⟨ls[i]'(by have := HN.out; omega), List.getElem?_eq_getElem _⟩
      have hst := sumL_take hq
      have hsl := sumL_le ls (i + 1)
      have HQQ : Hid (ls[i]? = some q) := hq
      have HCU : Hid (CU[i]? = some ((b.drop kk).take q)) := by unfold Hid; rw [hkk]; exact HCL.out.2 i q hq
      have HT : Hid (kk + q = k + sumL (ls.take (i + 1)) ∧ kk + q ≤ nb) := by unfold Hid; have := HK.out; omega
      have HSQ : Hid (((b.drop kk).take q).length = q) := by unfold Hid; rw [List.length_take, List.length_drop, HNB.out]; have := HT.out; omega
      have HSG : Hid (∀ j, j < q → ∃ x, b[kk + j]? = some x ∧ ((b.drop kk).take q)[j]? = some x) := fun j hj => by
        have hlt : kk + j < b.length := by have := HT.out; have := HNB.out; omega
        exact ⟨b[kk + j], List.getElem?_eq_getElem hlt, by rw [List.getElem?_take_of_lt hj, List.getElem?_drop]; exact List.getElem?_eq_getElem hlt⟩
      have HLk : Hid ((CU.take i).length + 1 ≤ 2199023255552) := by unfold Hid; rw [List.length_take]; omega
      have qI : (q : Int) ≤ 1073741824 := by have := HT.out; have := HK.out; omega
      have kI : (kk : Int) + (q : Int) ≤ 1073741824 := by have := HT.out; have := HK.out; omega
      generalize (b.drop kk).take q = seg at *
      have GW : Hid (bw ≤ wr.heap.size) := Nat.le_trans GE.out M.out.2.size
      clear hq hst hsl hkk e
      go_wp2
      have MP : Hid (∀ W, Below wr.heap.size wr W → PO bw W u7 (CU.take i) ∧ Below bw w W) := fun W hW => ⟨M.out.1.past hW, M.out.2.trans (hW.mono GW.out)⟩
      have I0 : Hid (wr.ownsRow wr.heap.size 5 1 (.slice none 0 0) ([] : List Nat).length (bV []) ∧ Below wr.heap.size wr wr) := ⟨World.ownsRow_nil _ _ _ _, Below.refl _ _⟩
      obtain ⟨br, hbr⟩ : ∃ br, br = wr.heap.size := ⟨_, rfl⟩
      have GB : Hid (br ≤ wr.heap.size) := by unfold Hid; omega
      rw [← hbr] at MP I0 GW
      obtain ⟨wo, hwo⟩ : ∃ wo, wo = wr := ⟨_, rfl⟩
      rw [← hwo] at MP GB
      obtain ⟨t, ht⟩ : ∃ t, t = kk + q := ⟨_, rfl⟩
      have HTT : Hid (t = k + sumL (ls.take (i + 1))) := by unfold Hid; have := HT.out; omega
      have r1 : (kk : Int) + (q : Int) = (t : Int) := by omega
      have w1 : IntKind.i64.wrap (t : Int) = (t : Int) := by rw [IntKind.wrap_i64]; omega
      clear M ht
      go_loopw [9, 10] (fun s9 s10 wq => ∃ j : Nat, s10 = .int .i64 (j : Int) ∧ j ≤ q ∧ wq.ownsRow br 5 1 s9 (seg.take j).length (bV (seg.take j)) ∧ Below br wo wq) (fun _ s10 _ => q - (intOf s10).toNat)
      case atStart => exact ⟨0, rfl, by omega, I0.out.1, by rw [hwo]; exact I0.out.2⟩
      case round =>
        obtain ⟨j, rfl, hj, hO, hB⟩ := hrel
        have I : Hid (wr.ownsRow br 5 1 u9 (seg.take j).length (bV (seg.take j)) ∧ Below br wo wr) := ⟨hO, hB⟩
        clear hO hB I0 hwo hbr
        have GR : Hid (br ≤ wr.heap.size) := Nat.le_trans GB.out I.out.2.size
        obtain ⟨g, eg, hcell⟩ := (HIL.out wr (MP.out wr I.out.2).2).get HQQ.out
        subst eg
        by_cases e2 : j = q
        · have e3 := e2.symm
          clear e2
          subst e3
          have M1 : Hid (wr.ownsRow bw 5 1 u9 seg.length (bV seg)) := by
            have h9 := I.out.1
            rw [List.take_of_length_le (by have := HSQ.out; omega)] at h9
            exact owns_base h9 GW.out
          obtain ⟨d1, c1, rfl⟩ := owns_sl M1.out
          go_upto_region 11 with (at_builtin; refine wpList_appP rfl _ _ rfl bw (Nat.le_trans GW.out GR.out) u7 (CU.take i) rfl (MP.out wr I.out.2).1 _ seg M1.out rfl HLk.out ?_; intro v2 w2 hP hB)
          have M2 : Hid (PO bw w2 v2 (CU.take (i + 1)) ∧ Below bw w w2) := ⟨by rw [take_snoc HCU.out]; exact hP, (MP.out wr I.out.2).2.trans hB⟩
          clear hP hB hcell
          obtain ⟨g2, eg, hcell⟩ := (HIL.out w2 M2.out.2).get HQQ.out
          cases eg
          clear M1 I MP
          go_wp2
          go_roundw
          case rel => exact ⟨i + 1, t, by first | rfl | go_num, by omega, rfl, HTT.out, M2.out.1, M2.out.2⟩
          case measure => simp [intOf]; omega
        · have jI : (j : Int) < (q : Int) := by omega
          obtain ⟨x, hx, hx2⟩ := HSG.out j (by omega)
          obtain ⟨g3, a3, eg, hcell3⟩ := (HBL.out wr (MP.out wr I.out.2).2).get hx
          subst eg
          obtain ⟨jj, hjj⟩ : ∃ jj, jj = kk + j := ⟨_, rfl⟩
          rw [← hjj] at hcell3
          have r2 : (kk : Int) + (j : Int) = (jj : Int) := by omega
          have w2 : IntKind.i64.wrap (jj : Int) = (jj : Int) := by rw [IntKind.wrap_i64]; omega
          have jn : (jj : Int) < (nb : Int) := by have := HT.out; omega
          have HX2 : Hid (seg[j]? = some x) := hx2
          have BX : Hid (BL (fun k => k = wr.heap.size) (wr.alloc (.cells #[.int .u8 (x : Int)] 5)) (.slice (some ⟨wr.heap.size, 0, none⟩) 1 1) [x]) := BL.new wr [x] (by simp)
          have PX : Hid (Below wr.heap.size wr (wr.alloc (.cells #[.int .u8 (x : Int)] 5))) := below_alloc _ _
          have HLe : Hid ((seg.take j).length + [x].length ≤ 2199023255552) := by unfold Hid; rw [List.length_take]; simp; omega
          clear hx hx2 e2 hjj
          go_wp2_with (at_builtin; refine wpList_appB rfl _ _ rfl br (Nat.le_trans GR.out PX.out.size) u9 (seg.take j) rfl (owns_past I.out.1 PX.out) (.slice (some ⟨wr.heap.size, 0, none⟩) 1 1) [x] rfl BX.out HLe.out ?_; intro v' w' hA2)
          have I2 : Hid (w'.ownsRow br 5 1 v' (seg.take (j + 1)).length (bV (seg.take (j + 1))) ∧ Below br wo w') := ⟨by rw [take_snoc HX2.out]; exact hA2.row, I.out.2.trans ((PX.out.mono GR.out).trans (hA2.below (owns_past I.out.1 PX.out) (Nat.le_trans GR.out PX.out.size)))⟩
          clear hA2 BX PX I hcell hcell3
          go_roundw
          case rel => exact ⟨j + 1, by first | rfl | go_num, by omega, I2.out.1, I2.out.2⟩
          case measure => simp [intOf]; omega
end Go.Proofs.Ytndhabhlajldeaa
