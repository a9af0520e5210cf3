/- Package container: the reader's measure and pieces. -/
import Derived.Test.YtndhabhlajldeaaBkr
import Derived.Test.YtndhabhlajldeaaBkn
namespace Go.Proofs.Ytndhabhlajldeaa
open Go.RowKit
def msr (b : List Nat) (k n d : Nat) (opn : Bool) : Except Er Unit := if b.length < (if opn then k + n else k + n + d) then .error (50, b.length) else if k + n + d < b.length then .error (58, k + n + d) else .ok ()
theorem msr_cut {b : List Nat} {k n d : Nat} {opn : Bool} (h : b.length < (if opn then k + n else k + n + d)) : msr b k n d opn = .error (50, b.length) := by unfold msr; rw [if_pos h]
theorem msr_tail {b : List Nat} {k n d : Nat} {opn : Bool} (h : ¬ b.length < (if opn then k + n else k + n + d)) (h2 : k + n + d < b.length) : msr b k n d opn = .error (58, k + n + d) := by unfold msr; rw [if_neg h, if_pos h2]
theorem msr_ok {b : List Nat} {k n d : Nat} {opn : Bool} (h : ¬ b.length < (if opn then k + n else k + n + d)) (h2 : ¬ k + n + d < b.length) : msr b k n d opn = .ok () := by unfold msr; rw [if_neg h, if_neg h2]
set_option maxHeartbeats 4000000 in
set_option maxRecDepth 100000 in
theorem measure_is (w : World) (rb : Nat) (bs : Value) (b : List Nat) (k d : Nat) (cv sv : Value) (cs ss : List Nat) (opn : Bool) (h : Rdr w rb bs b k) (hc : UL w cv cs) (hs : UL w sv ss) (hb : k + (4 * cs.length + sumL cs + sumL ss) + d < 4611686018427387904) (hsl : ss.length ≤ 16777216) :
    Calls Try.prog 66 #[.pointer (some ⟨rb, 0, none⟩), .agg #[cv, sv, .int .u64 (d : Int)], .bool opn] w fun e w' => Out rb w (msr b k (4 * cs.length + sumL cs + sumL ss) d opn) (fun _ e w' => e = .returned (.tuple #[]) ∧ Below w.heap.size w w') e w' := by
  obtain ⟨ba, bc, rfl, _⟩ := h.by'.len
  obtain ⟨ca, rfl⟩ := hc.len
  obtain ⟨sa, rfl⟩ := hs.len
  have nl := h.len
  obtain ⟨MM, hM⟩ : ∃ MM, MM = msr b k (4 * cs.length + sumL cs + sumL ss) d opn := ⟨_, rfl⟩
  rw [← hM]
  have BH : Hid (∀ W, Below w.heap.size w W → Calls Try.prog 81 #[.agg #[.slice ca cs.length cs.length, .slice sa ss.length ss.length, .int .u64 (d : Int)]] W fun e w' => e = .returned (.int .u64 ((4 * cs.length + sumL cs + sumL ss : Nat) : Int)) ∧ Below W.heap.size W w') := fun W hW => behind_is W _ _ cs ss d (hc.past hW) (hs.past hW) (by omega) ⟨by omega, by omega⟩
  generalize hm : 4 * cs.length + sumL cs + sumL ss = m at *
  obtain ⟨s1, hs1⟩ : ∃ s1 : Nat, s1 = k + m := ⟨_, rfl⟩
  obtain ⟨s2, hs2⟩ : ∃ s2 : Nat, s2 = s1 + d := ⟨_, rfl⟩
  have r1 : (k : Int) + (m : Int) = (s1 : Int) := by omega
  have r2 : (s1 : Int) + (d : Int) = (s2 : Int) := by omega
  have w1 : IntKind.u64.wrap (s1 : Int) = (s1 : Int) := by rw [IntKind.wrap_u64]; omega
  have w2 : IntKind.u64.wrap (s2 : Int) = (s2 : Int) := by rw [IntKind.wrap_u64]; omega
  have w3 : IntKind.u64.wrap (k : Int) = (k : Int) := by rw [IntKind.wrap_u64]; omega
  have w4 : IntKind.i64.wrap (s2 : Int) = (s2 : Int) := by rw [IntKind.wrap_i64]; omega
  have w5 : IntKind.u64.wrap (b.length : Int) = (b.length : Int) := by rw [IntKind.wrap_u64]; omega
  have M1 : Hid (b.length < (if opn then s1 else s2) → MM = .error (50, b.length)) := fun q => by rw [hM]; exact msr_cut (by cases opn <;> simp only [if_true, if_false, Bool.false_eq_true] at q ⊢ <;> omega)
  have M2 : Hid (¬ b.length < (if opn then s1 else s2) → s2 < b.length → MM = .error (58, s2)) := fun q q2 => by rw [hM, msr_tail (by cases opn <;> simp only [if_true, if_false, Bool.false_eq_true] at q ⊢ <;> omega) (by omega), hs2, hs1]
  have M3 : Hid (¬ b.length < (if opn then s1 else s2) → ¬ s2 < b.length → MM = .ok ()) := fun q q2 => by rw [hM]; exact msr_ok (by cases opn <;> simp only [if_true, if_false, Bool.false_eq_true] at q ⊢ <;> omega) (by omega)
  have B0 : Hid (Below w.heap.size w (w.alloc (.cells #[.slice ca cs.length cs.length, .slice sa ss.length ss.length, .int .u64 (d : Int)] 84)) ∧ CBox (w.alloc (.cells #[.slice ca cs.length cs.length, .slice sa ss.length ss.length, .int .u64 (d : Int)] 84)) rb 81 [.slice ba b.length bc, .int .i64 (k : Int)] ∧ CBox (w.alloc (.cells #[.slice ca cs.length cs.length, .slice sa ss.length ss.length, .int .u64 (d : Int)] 84)) w.heap.size 84 [.slice ca cs.length cs.length, .slice sa ss.length ss.length, .int .u64 (d : Int)]) := ⟨below_alloc _ _, h.box.past (below_alloc _ _), CBox.new _ _ [_, _, _]⟩
  have nI : (b.length : Int) ≤ 16777216 := by omega
  clear h hc hs hM hs1 hs2 hm hb nl hsl
  generalize b.length = n at *
  generalize cs.length = nc at *
  generalize ss.length = ns at *
  generalize hbx : w.heap.size = bx at *
  have GB : Hid (w.heap.size = bx) := hbx
  have GE : Hid (bx ≤ w.heap.size) := by unfold Hid; omega
  clear hbx
  go_enter Try.func66, Try.ntmps66
  go_upto_region 1 with fail
  rw [GB.out]
  generalize w.alloc _ = W0 at B0 ⊢
  refine wp_region_held_drew (S := fun V' => CBox V' rb 81 [.slice ba n bc, .int .i64 (k : Int)] ∧ CBox V' bx 84 [.slice ca nc nc, .slice sa ns ns, .int .u64 (d : Int)]) (by kernel_rfl) ⟨B0.out.2.1.past below_drew, B0.out.2.2.past below_drew⟩ (fun hHeld => ?_)
  have B0 : Hid (Below bx w W0.drew ∧ True) := ⟨B0.out.1.trans (below_drew.mono (Nat.le_trans GE.out B0.out.1.size)), trivial⟩
  generalize W0.drew = z0 at hHeld B0 ⊢
  refine wpAnyH_take (i := 0) (v := .pointer (some ⟨rb, 0, none⟩)) ov0 (by kernel_rfl) (by kernel_rfl) (by kernel_rfl) (fun _ _ _ h => h) (Or.inl ⟨by rfl, fun V' hS => ?_⟩) hHeld ?_
  · go_simp
  simp only [Act.put, List.setIfInBounds_toArray, List.set_cons_zero, List.set_cons_succ]
  refine wpAnyH_take (i := 1) (v := .pointer (some ⟨rb, 0, none⟩)) ov1 (by kernel_rfl) (by kernel_rfl) (by kernel_rfl) (fun _ _ _ h => h) (Or.inl ⟨by rfl, fun V' hS => ?_⟩) hHeld ?_
  · go_simp
  simp only [Act.put, List.setIfInBounds_toArray, List.set_cons_zero, List.set_cons_succ]
  refine wpAnyH_take (i := 2) (v := .pointer (some ⟨rb, 1, none⟩)) ov2 (by kernel_rfl) (by kernel_rfl) (by kernel_rfl) (fun _ _ _ h => h) (Or.inl ⟨by rfl, fun V' hS => ?_⟩) hHeld ?_
  · go_simp
  simp only [Act.put, List.setIfInBounds_toArray, List.set_cons_zero, List.set_cons_succ]
  refine wpAnyH_take (i := 3) (v := .int .i64 (k : Int)) ov3 (by kernel_rfl) (by kernel_rfl) (by kernel_rfl) (fun _ _ _ h => h) (Or.inl ⟨by rfl, fun V' hS => ?_⟩) hHeld ?_
  · have c0 : V'.cell? ⟨rb, 1, none⟩ = some (.int .i64 (k : Int)) := hS.1.cell 1
    go_simp
  simp only [Act.put, List.setIfInBounds_toArray, List.set_cons_zero, List.set_cons_succ]
  refine wpAnyH_take (i := 4) (v := .int .u64 (k : Int)) ov4 (by kernel_rfl) (by kernel_rfl) (by kernel_rfl) (fun _ _ _ h => h) (Or.inl ⟨by rfl, fun V' hS => ?_⟩) hHeld ?_
  · go_simp
  simp only [Act.put, List.setIfInBounds_toArray, List.set_cons_zero, List.set_cons_succ]
  refine wpAnyH_take (i := 5) (v := .agg #[.slice ca nc nc, .slice sa ns ns, .int .u64 (d : Int)]) ov5 (by kernel_rfl) (by kernel_rfl) (by kernel_rfl) (fun _ _ _ h => h) (Or.inl ⟨by rfl, fun V' hS => ?_⟩) hHeld ?_
  · have c0 : V'.cell? ⟨bx, 0, none⟩ = some (.slice ca nc nc) := hS.2.cell 0; have c1 : V'.cell? ⟨bx, 1, none⟩ = some (.slice sa ns ns) := hS.2.cell 1; have c2 : V'.cell? ⟨bx, 2, none⟩ = some (.int .u64 (d : Int)) := hS.2.cell 2
    go_simp
  simp only [Act.put, List.setIfInBounds_toArray, List.set_cons_zero, List.set_cons_succ]
  refine wpAnyH_ready (rs := [6]) (by kernel_rfl) (by simp) ?_
  refine AllReadyH.cons ov6 (fun K hK => ?_) AllReadyH.nil
  rw [if_pos (by rfl)]
  go_simp
  refine (BH.out _ B0.out.1).mono ?_
  rintro e z1 ⟨rfl, hB1⟩
  have H1 := (⟨hHeld.1.past hB1, hHeld.2.past hB1⟩ : _ ∧ _)
  have B1 : Hid (Below bx w z1) := B0.out.1.trans (hB1.mono (Nat.le_trans GE.out B0.out.1.size))
  (try go_wp2_with fail)
  refine hK.out _ _ H1 (fun _ => ?_)
  clear hK K
  (try simp only [Act.put, List.setIfInBounds_toArray, List.set_cons_zero, List.set_cons_succ])
  refine wpAnyH_take (i := 7) (v := .int .u64 (s1 : Int)) ov7 (by kernel_rfl) (by kernel_rfl) (by kernel_rfl) (fun _ _ _ h => h) (Or.inl ⟨by rfl, fun V' hS => ?_⟩) H1 ?_
  · go_simp
  simp only [Act.put, List.setIfInBounds_toArray, List.set_cons_zero, List.set_cons_succ]
  refine wpAnyH_take (i := 8) (v := .int .u64 (s1 : Int)) ov8 (by kernel_rfl) (by kernel_rfl) (by kernel_rfl) (fun _ _ _ h => h) (Or.inl ⟨by rfl, fun V' hS => ?_⟩) H1 ?_
  · go_simp
  simp only [Act.put, List.setIfInBounds_toArray, List.set_cons_zero, List.set_cons_succ]
  refine wpAnyH_done (by kernel_rfl) ?_ _
  have k2 : z1.cell? ⟨bx, 2, none⟩ = some (.int .u64 (d : Int)) := H1.2.cell 2
  have k0 : z1.cell? ⟨rb, 0, none⟩ = some (.slice ba n bc) := H1.1.cell 0
  clear hHeld B0 H1
  cases opn with
  | true =>
    simp only [if_true] at M1 M2 M3
    by_cases e1 : n < s1
    · have E0 : Hid (MM = .error (50, n)) := M1.out e1
      have q1 : (n : Int) < (s1 : Int) := by omega
      clear M1 M2 M3
      go_wp2_with (go_at_call 98; refine (giveUp_is _ 50 (n : Int)).mono ?_; rintro e w' ⟨rfl, hw⟩; (have hw2 := hw.symm); clear hw; subst hw2; unfold thrown rejV)
      refine ⟨rfl, ?_⟩
      rw [E0.out]
      exact ⟨rfl, below_but (GB.out ▸ B1.out)⟩
    have q1 : ¬ (n : Int) < (s1 : Int) := by omega
    by_cases e2 : s2 < n
    · have E0 : Hid (MM = .error (58, s2)) := M2.out e1 e2
      have q2 : (s2 : Int) < (n : Int) := by omega
      clear M1 M2 M3
      go_wp2_with (go_at_call 98; refine (giveUp_is _ 58 (s2 : Int)).mono ?_; rintro e w' ⟨rfl, hw⟩; (have hw2 := hw.symm); clear hw; subst hw2; unfold thrown rejV)
      refine ⟨rfl, ?_⟩
      rw [E0.out]
      exact ⟨rfl, below_but (GB.out ▸ B1.out)⟩
    · have E0 : Hid (MM = .ok ()) := M3.out e1 e2
      have q2 : ¬ (s2 : Int) < (n : Int) := by omega
      clear M1 M2 M3
      go_wp2
      go_end0
      rw [E0.out]
      exact ⟨rfl, B1.out⟩
  | false =>
    simp only [if_false, Bool.false_eq_true] at M1 M2 M3
    by_cases e1 : n < s2
    · have E0 : Hid (MM = .error (50, n)) := M1.out e1
      have q1 : (n : Int) < (s2 : Int) := by omega
      clear M1 M2 M3
      go_wp2_with (go_at_call 98; refine (giveUp_is _ 50 (n : Int)).mono ?_; rintro e w' ⟨rfl, hw⟩; (have hw2 := hw.symm); clear hw; subst hw2; unfold thrown rejV)
      refine ⟨rfl, ?_⟩
      rw [E0.out]
      exact ⟨rfl, below_but (GB.out ▸ B1.out)⟩
    have q1 : ¬ (n : Int) < (s2 : Int) := by omega
    by_cases e2 : s2 < n
    · have E0 : Hid (MM = .error (58, s2)) := M2.out e1 e2
      have q2 : (s2 : Int) < (n : Int) := by omega
      clear M1 M2 M3
      go_wp2_with (go_at_call 98; refine (giveUp_is _ 58 (s2 : Int)).mono ?_; rintro e w' ⟨rfl, hw⟩; (have hw2 := hw.symm); clear hw; subst hw2; unfold thrown rejV)
      refine ⟨rfl, ?_⟩
      rw [E0.out]
      exact ⟨rfl, below_but (GB.out ▸ B1.out)⟩
    · have E0 : Hid (MM = .ok ()) := M3.out e1 e2
      have q2 : ¬ (s2 : Int) < (n : Int) := by omega
      clear M1 M2 M3
      go_wp2
      go_end0
      rw [E0.out]
      exact ⟨rfl, B1.out⟩
theorem cuts_len : ∀ (b : List Nat) (ls : List Nat) (k : Nat), (cuts b k ls).length = ls.length
  | _, [], _ => rfl
  | b, n :: r, k => by rw [cuts, List.length_cons, cuts_len b r, List.length_cons]
theorem cuts_get : ∀ (b : List Nat) (ls : List Nat) (k i n : Nat), ls[i]? = some n → (cuts b k ls)[i]? = some ((b.drop (k + sumL (ls.take i))).take n)
  | b, [], k, i, n, h => by cases h
  | b, x :: r, k, 0, n, h => by simp at h; subst h; simp [cuts, sumL]
  | b, x :: r, k, i + 1, n, h => by
    rw [cuts, List.getElem?_cons_succ, cuts_get b r (k + x) i n (by simpa using h), List.take_succ_cons, sumL_cons, Nat.add_assoc]
/-- pieces in blocks of their own, at B or above: the values that stand in the list, and what each is -/
def Own1 (B : Nat) (W : World) (us : List Value) (ll : List (List Nat)) : Prop := ∀ (i : Nat) u l, us[i]? = some u → ll[i]? = some l → W.ownsRow B 5 1 u l.length (bV l)
theorem Own1.but {B : Nat} {S : Nat → Prop} {W W' : World} {us : List Value} {ll : List (List Nat)} (h : Own1 B W us ll) (k : But S W W') (hs : ∀ g, B ≤ g → ¬ S g) : Own1 B W' us ll := fun i u l h1 h2 => owns_row_blockB (h i u l h1 h2) fun g hg => k.block g ((h i u l h1 h2).lt g hg).2 (hs g ((h i u l h1 h2).lt g hg).1)
theorem Own1.butT {B b : Nat} {t : TypeId} {cs : List Value} {W W' : World} {us : List Value} {ll : List (List Nat)} (h : Own1 B W us ll) (k : But (fun g => g = b) W W') (hb : CBox W b t cs) (ht : t ≠ 5) : Own1 B W' us ll := fun i u l h1 h2 => owns_row_blockB (h i u l h1 h2) fun g hg => k.block g ((h i u l h1 h2).lt g hg).2 fun e => by
  subst e
  rcases (h i u l h1 h2).2 with ⟨rfl, _⟩ | ⟨g', c, cur, rfl, _, hh, _⟩
  · cases hg
  · injection hg with hg
    subst hg
    rw [show W.heap[g']? = _ from hb] at hh
    cases hh
    exact ht rfl
theorem Own1.snoc {B : Nat} {W : World} {us : List Value} {ll : List (List Nat)} {u : Value} {l : List Nat} (h : Own1 B W us ll) (hi : ll[us.length]? = some l) (hu : W.ownsRow B 5 1 u l.length (bV l)) : Own1 B W (us ++ [u]) ll := fun i u' l' h1 h2 => by
  by_cases e : i < us.length
  · rw [List.getElem?_append_left e] at h1
    exact h i u' l' h1 h2
  · rw [List.getElem?_append_right (by omega)] at h1
    have e0 : i - us.length = 0 := by
      have := (List.getElem?_eq_some_iff.1 h1).1
      simpa using this
    rw [e0] at h1
    simp at h1
    have ei : i = us.length := by omega
    subst ei h1
    rw [hi] at h2
    cases h2
    exact hu
def nilV : Value := .slice none 0 0
theorem vs_set (us : List Value) (r : Nat) (z u : Value) : (us ++ List.replicate (r + 1) z).set us.length u = (us ++ [u]) ++ List.replicate r z := by
  rw [List.set_append_right _ _ (by simp), Nat.sub_self, List.replicate_succ, List.set_cons_zero]
  simp
/-- pieces that were read -/
structure PcQ (rb : Nat) (w w' : World) (bs : Value) (b : List Nat) (k : Nat) (v : Value) (ll : List (List Nat)) : Prop where
  ex : ∃ g us, v = .slice (some ⟨g, 0, none⟩) ll.length ll.length ∧ CBox w' g 22 us ∧ us.length = ll.length ∧ w.heap.size ≤ g ∧ Own1 w.heap.size w' us ll
  rd : Rdr w' rb bs b k
  but : RB rb w w'
set_option maxHeartbeats 4000000 in
set_option maxRecDepth 100000 in
theorem pieces_is (w : World) (rb : Nat) (bs : Value) (b : List Nat) (k : Nat) (lv : Value) (ls : List Nat) (h : Rdr w rb bs b k) (hu : UL w lv ls) (hk : k + sumL ls ≤ b.length) (hn : ls.length ≤ 16777216) :
    Calls Try.prog 100 #[.pointer (some ⟨rb, 0, none⟩), lv] w fun e w' => ∃ v, e = .returned v ∧ PcQ rb w w' bs b (k + sumL ls) v (cuts b k ls) := by
  obtain ⟨ba, bc, rfl, hbc, _⟩ := h.by'.len
  obtain ⟨la, rfl⟩ := hu.len
  obtain ⟨W1, hmk, hcb, hB1, hsz⟩ := make_n 26 22 (.slice none 0 0) (.slice none 0 0) 1 24 Try.underlying26 Try.infoB (one_cell rfl) (by simp [Value.cells]) .i64 w ls.length (by omega) (by omega)
  have NE : Hid (w.heap.size ≠ rb) := by unfold Hid; have := h.box.lt; omega
  have HGR : Hid (rb < w.heap.size) := h.box.lt
  have HBX : Hid (CBox w rb 81 [.slice ba b.length bc, .int .i64 (k : Int)]) := h.box
  have nbl := h.len
  obtain ⟨CU, hCU⟩ : ∃ CU, CU = cuts b k ls := ⟨_, rfl⟩
  have HCL : Hid (CU.length = ls.length ∧ ∀ i x, ls[i]? = some x → CU[i]? = some ((b.drop (k + sumL (ls.take i))).take x)) := ⟨by rw [hCU, cuts_len], fun i x q => by rw [hCU]; exact cuts_get b ls k i x q⟩
  rw [← hCU]
  have C0 : Hid (CBox W1 w.heap.size 22 (([] : List Value) ++ List.replicate (ls.length - 0) nilV) ∧ Rdr W1 rb (.slice ba b.length bc) b (k + sumL (ls.take 0)) ∧ RB rb w W1 ∧ Own1 w.heap.size W1 [] CU) := ⟨by rw [Nat.mul_one] at hcb; simpa [nilV] using hcb, by simpa [sumL] using h.past hB1, below_but hB1, fun i u l q => by cases q⟩
  have HUL : Hid (UL w (.slice la ls.length ls.length) ls) := hu
  have HKL : Hid (k + sumL ls ≤ b.length ∧ b.length ≤ bc ∧ b.length ≤ 16777216) := ⟨hk, hbc, nbl⟩
  have nI : (ls.length : Int) ≤ 16777216 := by omega
  generalize hN : ls.length = n at *
  have HN : Hid (ls.length = n) := hN
  generalize hNB : b.length = nb at *
  have HNB : Hid (b.length = nb) := hNB
  clear h hu hcb hB1 hsz hk hn hCU hN hNB nbl hbc
  generalize hbw : w.heap.size = bw at *
  have GB : Hid (w.heap.size = bw) := hbw
  have GE : Hid (bw ≤ w.heap.size) := by unfold Hid; omega
  go_enter Try.func100, Try.ntmps100
  go_upto_region 2 with fail
  clear hmk hbw
  generalize hg : bw = g at C0 NE ⊢
  have HGB : Hid (bw = g) := hg
  have HGW : Hid (w.heap.size ≤ g) := by unfold Hid; have := GB.out; omega
  have HGR : Hid (rb < g) := by unfold Hid; have := HGR.out; omega
  clear hg
  go_wp2
  go_loopw [14] (fun s14 wr => ∃ (i : Nat) (us : List Value), s14 = .int .i64 (i : Int) ∧ i ≤ n ∧ us.length = i ∧ CBox wr g 22 (us ++ List.replicate (n - i) nilV) ∧ Rdr wr rb (.slice ba nb bc) b (k + sumL (ls.take i)) ∧ RB rb w wr ∧ Own1 bw wr us CU) (fun s14 _ => n - (intOf s14).toNat)
  case atStart => exact ⟨0, [], rfl, by omega, rfl, C0.out.1, C0.out.2.1, C0.out.2.2.1, by rw [HGB.out]; exact C0.out.2.2.2⟩
  case round =>
    obtain ⟨i, us, rfl, hi, hU, hC, hR, hB, hO⟩ := hrel
    have HU : Hid (us.length = i) := hU
    have HC0 : Hid (CBox wr g 22 (us ++ List.replicate (n - i) nilV) ∧ Rdr wr rb (.slice ba nb bc) b (k + sumL (ls.take i)) ∧ RB rb w wr ∧ Own1 bw wr us CU) := ⟨hC, hR, hB, hO⟩
    clear hC hR hB hO C0 hU
    by_cases e : i = n
    · subst e
      have E1 : Hid (CBox wr g 22 us) := by have := HC0.out.1; rwa [Nat.sub_self, List.replicate_zero, List.append_nil] at this
      have E2 : Hid (Rdr wr rb (.slice ba nb bc) b (k + sumL ls)) := by have := HC0.out.2.1; rwa [List.take_of_length_le (by have := HN.out; omega)] at this
      go_wp2
      go_ret
      refine ⟨_, rfl, ⟨g, us, by rw [HCL.out.1]; rfl, E1.out, by rw [HU.out, HCL.out.1], HGW.out, by rw [GB.out]; exact HC0.out.2.2.2⟩, E2.out, HC0.out.2.2.1⟩
    · have iI : (i : Int) < (n : Int) := by omega
      obtain ⟨q, hq⟩ : ∃ q, ls[i]? = some q := ⟨ls[i]'(by have := HN.out; omega), List.getElem?_eq_getElem _⟩
      obtain ⟨r, hr⟩ : ∃ r, n - i = r + 1 := ⟨n - i - 1, by omega⟩
      have HR1 : Hid (n - i = r + 1) := hr
      have hst := sumL_take hq
      have hsl2 := sumL_le ls (i + 1)
      have ul : UL wr (.slice la n n) ls := HUL.out.but2 HC0.out.2.2.1 HBX.out (by decide)
      obtain ⟨g3, rfl, hcell⟩ := ul.get hq
      have HCU0 := HCL.out.2 i q hq
      obtain ⟨kk, hkk⟩ : ∃ kk, kk = k + sumL (ls.take i) := ⟨_, rfl⟩
      rw [← hkk] at HCU0 HC0
      obtain ⟨t, ht⟩ : ∃ t, t = kk + q := ⟨_, rfl⟩
      have tl : t ≤ nb := by have := HKL.out; omega
      have HTT : Hid (t = k + sumL (ls.take (i + 1))) := by unfold Hid; omega
      have hsl := slice_ij ba nb bc kk t (by omega) (by have := HKL.out; omega)
      have CL0 : ∀ W, BL (fun g => g < rb) W (.slice ba nb bc) b → Calls Try.prog 88 #[.slice (if bc = kk then ba else ba.map (·.add kk)) (t - kk) (bc - kk)] W fun e w' => ∃ v', e = .returned v' ∧ w'.ownsRow W.heap.size 5 1 v' ((b.drop kk).take (t - kk)).length (bV ((b.drop kk).take (t - kk))) ∧ Below W.heap.size W w' := fun W hW => clone_is W _ _ (by have h9 := hW; rw [← HNB.out] at h9; exact BL.mid h9 kk t (by omega) (by rw [HNB.out]; exact tl)) (by have := HKL.out; simp; omega)
      rw [show t - kk = q by omega] at CL0 hsl
      have HSQ : Hid (((b.drop kk).take q).length = q) := by unfold Hid; rw [List.length_take, List.length_drop, HNB.out]; omega
      rw [HSQ.out] at CL0
      have CL : Hid (∀ W, BL (fun g => g < rb) W (.slice ba nb bc) b → Calls Try.prog 88 #[.slice (if bc = kk then ba else ba.map (·.add kk)) q (bc - kk)] W fun e w' => ∃ v', e = .returned v' ∧ w'.ownsRow W.heap.size 5 1 v' q (bV ((b.drop kk).take q)) ∧ Below W.heap.size W w') := CL0
      have HCU : Hid (CU[i]? = some ((b.drop kk).take q)) := HCU0
      generalize (if bc = kk then ba else ba.map (·.add kk)) = ad2 at CL hsl
      generalize bc - kk = cap2 at CL hsl
      generalize (b.drop kk).take q = seg at *
      have r1 : (kk : Int) + (q : Int) = (t : Int) := by omega
      have w1 : IntKind.i64.wrap (t : Int) = (t : Int) := by rw [IntKind.wrap_i64]; have := HKL.out; omega
      have w2 : IntKind.i64.wrap (q : Int) = (q : Int) := by rw [IntKind.wrap_i64]; have := HKL.out; omega
      have HC : Hid (CBox wr g 22 (us ++ List.replicate (n - i) nilV) ∧ Rdr wr rb (.slice ba nb bc) b kk ∧ RB rb w wr ∧ Own1 bw wr us CU) := HC0.out
      have c1 : wr.cell? ⟨rb, 1, none⟩ = some (.int .i64 (kk : Int)) := HC.out.2.1.box.cell 1
      clear HCU0 CL0 hq hst hsl2 hkk ht tl hr ul HC0 e
      go_upto_region 6 with fail
      clear c1 hcell
      refine wp_region_held_drew (S := fun V' => CBox V' rb 81 [.slice ba nb bc, .int .i64 (kk : Int)]) (by kernel_rfl) (HC.out.2.1.box.past below_drew) (fun hHeld => ?_)
      have B0 : Hid (CBox wr.drew g 22 (us ++ List.replicate (n - i) nilV) ∧ Rdr wr.drew rb (.slice ba nb bc) b kk ∧ RB rb w wr.drew ∧ Own1 bw wr.drew us CU) := ⟨HC.out.1.past below_drew, HC.out.2.1.past below_drew, HC.out.2.2.1.trans (below_but below_drew), HC.out.2.2.2.but (below_but (S := fun _ => False) below_drew) (fun _ _ => id)⟩
      clear HC
      generalize wr.drew = z0 at hHeld B0 ⊢
      refine wpAnyH_take (i := 0) (v := .slice (some ⟨g, 0, none⟩) n n) ov0 (by kernel_rfl) (by kernel_rfl) (by kernel_rfl) (fun _ _ _ h => h) (Or.inl ⟨by rfl, fun V' hS => ?_⟩) hHeld ?_
      · go_simp
      simp only [Act.put, List.setIfInBounds_toArray, List.set_cons_zero, List.set_cons_succ]
      refine wpAnyH_take (i := 1) (v := .int .i64 (i : Int)) ov1 (by kernel_rfl) (by kernel_rfl) (by kernel_rfl) (fun _ _ _ h => h) (Or.inl ⟨by rfl, fun V' hS => ?_⟩) hHeld ?_
      · go_simp
      simp only [Act.put, List.setIfInBounds_toArray, List.set_cons_zero, List.set_cons_succ]
      refine wpAnyH_take (i := 2) (v := .pointer (some ⟨rb, 0, none⟩)) ov2 (by kernel_rfl) (by kernel_rfl) (by kernel_rfl) (fun _ _ _ h => h) (Or.inl ⟨by rfl, fun V' hS => ?_⟩) hHeld ?_
      · go_simp
      simp only [Act.put, List.setIfInBounds_toArray, List.set_cons_zero, List.set_cons_succ]
      refine wpAnyH_take (i := 3) (v := .pointer (some ⟨rb, 0, none⟩)) ov3 (by kernel_rfl) (by kernel_rfl) (by kernel_rfl) (fun _ _ _ h => h) (Or.inl ⟨by rfl, fun V' hS => ?_⟩) hHeld ?_
      · go_simp
      simp only [Act.put, List.setIfInBounds_toArray, List.set_cons_zero, List.set_cons_succ]
      refine wpAnyH_take (i := 4) (v := .pointer (some ⟨rb, 0, none⟩)) ov4 (by kernel_rfl) (by kernel_rfl) (by kernel_rfl) (fun _ _ _ h => h) (Or.inl ⟨by rfl, fun V' hS => ?_⟩) hHeld ?_
      · go_simp
      simp only [Act.put, List.setIfInBounds_toArray, List.set_cons_zero, List.set_cons_succ]
      refine wpAnyH_take (i := 5) (v := .slice ba nb bc) ov5 (by kernel_rfl) (by kernel_rfl) (by kernel_rfl) (fun _ _ _ h => h) (Or.inl ⟨by rfl, fun V' hS => ?_⟩) hHeld ?_
      · have c0 : V'.cell? ⟨rb, 0, none⟩ = some (.slice ba nb bc) := hS.cell 0
        go_simp
      simp only [Act.put, List.setIfInBounds_toArray, List.set_cons_zero, List.set_cons_succ]
      refine wpAnyH_take (i := 6) (v := .pointer (some ⟨rb, 0, none⟩)) ov6 (by kernel_rfl) (by kernel_rfl) (by kernel_rfl) (fun _ _ _ h => h) (Or.inl ⟨by rfl, fun V' hS => ?_⟩) hHeld ?_
      · go_simp
      simp only [Act.put, List.setIfInBounds_toArray, List.set_cons_zero, List.set_cons_succ]
      refine wpAnyH_take (i := 7) (v := .pointer (some ⟨rb, 0, none⟩)) ov7 (by kernel_rfl) (by kernel_rfl) (by kernel_rfl) (fun _ _ _ h => h) (Or.inl ⟨by rfl, fun V' hS => ?_⟩) hHeld ?_
      · go_simp
      simp only [Act.put, List.setIfInBounds_toArray, List.set_cons_zero, List.set_cons_succ]
      refine wpAnyH_take (i := 8) (v := .pointer (some ⟨rb, 1, none⟩)) ov8 (by kernel_rfl) (by kernel_rfl) (by kernel_rfl) (fun _ _ _ h => h) (Or.inl ⟨by rfl, fun V' hS => ?_⟩) hHeld ?_
      · go_simp
      simp only [Act.put, List.setIfInBounds_toArray, List.set_cons_zero, List.set_cons_succ]
      refine wpAnyH_take (i := 9) (v := .int .i64 (kk : Int)) ov9 (by kernel_rfl) (by kernel_rfl) (by kernel_rfl) (fun _ _ _ h => h) (Or.inl ⟨by rfl, fun V' hS => ?_⟩) hHeld ?_
      · have c0 : V'.cell? ⟨rb, 1, none⟩ = some (.int .i64 (kk : Int)) := hS.cell 1
        go_simp
      simp only [Act.put, List.setIfInBounds_toArray, List.set_cons_zero, List.set_cons_succ]
      refine wpAnyH_take (i := 10) (v := .int .i64 (t : Int)) ov10 (by kernel_rfl) (by kernel_rfl) (by kernel_rfl) (fun _ _ _ h => h) (Or.inl ⟨by rfl, fun V' hS => ?_⟩) hHeld ?_
      · go_simp
      simp only [Act.put, List.setIfInBounds_toArray, List.set_cons_zero, List.set_cons_succ]
      refine wpAnyH_take (i := 11) (v := .slice ad2 q cap2) ov11 (by kernel_rfl) (by kernel_rfl) (by kernel_rfl) (fun _ _ _ h => h) (Or.inl ⟨by rfl, fun V' hS => ?_⟩) hHeld ?_
      · go_simp
      simp only [Act.put, List.setIfInBounds_toArray, List.set_cons_zero, List.set_cons_succ]
      refine wpAnyH_ready (rs := [12]) (by kernel_rfl) (by simp) ?_
      refine AllReadyH.cons ov12 (fun K hK => ?_) AllReadyH.nil
      rw [if_pos (by rfl)]
      go_simp
      refine (CL.out _ (B0.out.2.1.by')).mono ?_
      rintro e z1 ⟨v3, rfl, hO, hB1⟩
      obtain ⟨a3, c3, e3⟩ := owns_sl hO
      subst e3
      have H1 := hHeld.past hB1
      have B1 : Hid (CBox z1 g 22 (us ++ List.replicate (n - i) nilV) ∧ Rdr z1 rb (.slice ba nb bc) b kk ∧ RB rb w z1 ∧ Own1 bw z1 us CU ∧ z1.ownsRow bw 5 1 (.slice a3 q c3) q (bV seg)) := ⟨B0.out.1.past hB1, B0.out.2.1.past hB1, B0.out.2.2.1.trans (below_but hB1), B0.out.2.2.2.but (below_but (S := fun _ => False) hB1) (fun _ _ => id), owns_base hO (Nat.le_trans GE.out B0.out.2.2.1.size)⟩
      clear hO hB1
      (try go_wp2_with fail)
      refine hK.out _ _ H1 (fun _ => ?_)
      clear hK K
      (try simp only [Act.put, List.setIfInBounds_toArray, List.set_cons_zero, List.set_cons_succ])
      refine wpAnyH_take (i := 13) (v := .pointer (some ⟨g, i, none⟩)) ov13 (by kernel_rfl) (by kernel_rfl) (by kernel_rfl) (fun _ _ _ h => h) (Or.inl ⟨by rfl, fun V' hS => ?_⟩) H1 ?_
      · go_simp
      simp only [Act.put, List.setIfInBounds_toArray, List.set_cons_zero, List.set_cons_succ]
      refine wpAnyH_ready (rs := [14]) (by kernel_rfl) (by simp) ?_
      refine AllReadyH.cons ov14 (fun K hK => ?_) AllReadyH.nil
      rw [if_pos (by rfl)]
      have k0 : z1.cell? ⟨g, i, none⟩ = some nilV := by rw [B1.out.1.cell, HR1.out, List.getElem?_append_right (by rw [HU.out]; exact Nat.le_refl _), HU.out, Nat.sub_self]; rfl
      unfold nilV at k0
      have f0 := B1.out.1.frozen i
      go_simp
      have HS : But (fun y => y = g) z1 (z1.setCell ⟨g, i, none⟩ (.slice a3 q c3)) := (But.refl (fun y => y = g) z1).setCell ⟨g, i, none⟩ _ (Or.inl rfl)
      have B2 : Hid (CBox (z1.setCell ⟨g, i, none⟩ (.slice a3 q c3)) g 22 ((us ++ [.slice a3 q c3]) ++ List.replicate (n - (i + 1)) nilV) ∧ Rdr (z1.setCell ⟨g, i, none⟩ (.slice a3 q c3)) rb (.slice ba nb bc) b kk ∧ RB rb w (z1.setCell ⟨g, i, none⟩ (.slice a3 q c3)) ∧ Own1 bw (z1.setCell ⟨g, i, none⟩ (.slice a3 q c3)) (us ++ [.slice a3 q c3]) CU) := ⟨by (have h9 := B1.out.1.set i (.slice a3 q c3); rw [HR1.out, ← HU.out, vs_set] at h9; rw [show n - (i + 1) = r by have := HR1.out; omega]; rw [HU.out] at h9; exact h9), B1.out.2.1.keep HS (fun y hy e => by have := HGR.out; omega), B1.out.2.2.1.setCell ⟨g, i, none⟩ _ (Or.inr HGW.out), ((B1.out.2.2.2.1.snoc (by rw [HU.out]; exact HCU.out) (by rw [HSQ.out]; exact B1.out.2.2.2.2)).butT HS B1.out.1 (by decide))⟩
      refine hK.out _ (z1.setCell ⟨g, i, none⟩ (.slice a3 q c3)) (H1.but HS (Ne.symm NE.out)) (fun _ => ?_)
      clear hK K
      (try simp only [Act.put, List.setIfInBounds_toArray, List.set_cons_zero, List.set_cons_succ])
      clear k0 f0 HS B1
      generalize (z1.setCell ⟨g, i, none⟩ (.slice a3 q c3)) = z2 at B2 ⊢
      refine wpAnyH_done (by kernel_rfl) ?_ _
      clear hHeld B0
      have k1 : z2.cell? ⟨rb, 1, none⟩ = some (.int .i64 (kk : Int)) := B2.out.2.1.box.cell 1
      have f1 := B2.out.2.1.box.frozen 1
      have B3 : Hid (CBox (z2.setCell ⟨rb, 1, none⟩ (.int .i64 (t : Int))) g 22 ((us ++ [.slice a3 q c3]) ++ List.replicate (n - (i + 1)) nilV) ∧ Rdr (z2.setCell ⟨rb, 1, none⟩ (.int .i64 (t : Int))) rb (.slice ba nb bc) b (k + sumL (ls.take (i + 1))) ∧ RB rb w (z2.setCell ⟨rb, 1, none⟩ (.int .i64 (t : Int))) ∧ Own1 bw (z2.setCell ⟨rb, 1, none⟩ (.int .i64 (t : Int))) (us ++ [.slice a3 q c3]) CU) := by
        have hg := B2.out.2.1.go t
        refine ⟨B2.out.1.but hg.2 NE.out, by rw [← HTT.out]; exact hg.1, B2.out.2.2.1.trans hg.2, B2.out.2.2.2.butT hg.2 B2.out.2.1.box (by decide)⟩
      clear B2
      go_wp2
      go_roundw
      case rel => exact ⟨i + 1, us ++ [.slice a3 q c3], by first | rfl | go_num, by omega, by rw [List.length_append, HU.out]; rfl, B3.out⟩
      case measure => simp [intOf]; omega
end Go.Proofs.Ytndhabhlajldeaa
