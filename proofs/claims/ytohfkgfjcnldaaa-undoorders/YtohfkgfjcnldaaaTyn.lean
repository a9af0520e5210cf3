/- Keys by other orders, of a table by what it tells; once. -/
import Derived.Test.YtohfkgfjcnldaaaTym
import Derived.Test.YtohfkgfjcnldaaaUl
namespace Go.Proofs.Ytohfkgfjcnldaaa
open Go.RowKit Go.Shelf
theorem ris_keys {A : List (Int × Int)} (h : Ris A) : (A.map Prod.fst).Pairwise fun x y => x < y := by
  rw [List.pairwise_map]
  exact h
theorem sortF_rev {L A : List (Int × Int)} (hA : Ris A) (hp : A.Perm L) : sortF (L.map Prod.fst) = (A.map Prod.fst).reverse := by
  have p : (sortF (L.map Prod.fst)).Perm ((A.map Prod.fst).reverse) := (List.mergeSort_perm _ _).trans ((hp.symm.map _).trans (List.reverse_perm _).symm)
  have s1 : (sortF (L.map Prod.fst)).Pairwise fun x y => y ≤ x := (List.pairwise_mergeSort (le := fun x y : Int => decide (y ≤ x)) (fun a b c h1 h2 => by simp at *; omega) (fun a b => by simp; omega) _).imp (fun h => by simpa using h)
  have s2 : ((A.map Prod.fst).reverse).Pairwise fun x y => y ≤ x := by
    rw [List.pairwise_reverse]
    exact (ris_keys hA).imp (fun h => by omega)
  exact p.eq_of_pairwise (fun a b _ _ h1 h2 => by omega) s1 s2
theorem keysF1 (w : World) (ow : Nat → Nat) (i b N : Nat) (A : List (Int × Int)) (H : List (List (Int × Int))) (h : T1 w ow i b N A H) (hN : N < 549755813888) : Calls Try.prog 49 #[.pointer (some ⟨b, 0, none⟩), .func (.func 50) #[] #[]] w fun e w' => ∃ l, l = (A.map Prod.fst).reverse ∧ e = .returned (.slice (some ⟨w.heap.size, 0, none⟩) A.length A.length) ∧ CBox w' w.heap.size 3 (intsD l) ∧ Below w.heap.size w w' := by
  have hr := h.ris
  obtain ⟨⟨S, L, V, M, ⟨pm, ra, rc, ba, bc, ma, mc, m, ht, rfl, hV⟩, h2, h3, rfl, rfl, h6, h7, h8⟩, lA, lH, lO⟩ := h
  rw [srt_len] at lA
  refine (keysF_is w b pm ra rc ba bc ma mc m L _ M ht (by omega)).mono ?_
  rintro e w' ⟨rfl, q1, q2⟩
  rw [sortF_rev hr (srt_perm L)] at q1
  exact ⟨_, rfl, by rw [srt_len], q1, q2⟩
theorem keysZ1 (w : World) (ow : Nat → Nat) (i b N : Nat) (A : List (Int × Int)) (H : List (List (Int × Int))) (h : T1 w ow i b N A H) (hN : N < 549755813888) : Calls Try.prog 49 #[.pointer (some ⟨b, 0, none⟩), .func (.func 51) #[] #[]] w fun e w' => ∃ l, l.Perm (A.map Prod.fst) ∧ e = .returned (.slice (some ⟨w.heap.size, 0, none⟩) A.length A.length) ∧ CBox w' w.heap.size 3 (intsD l) ∧ Below w.heap.size w w' := by
  obtain ⟨⟨S, L, V, M, ⟨pm, ra, rc, ba, bc, ma, mc, m, ht, rfl, hV⟩, h2, h3, rfl, rfl, h6, h7, h8⟩, lA, lH, lO⟩ := h
  rw [srt_len] at lA
  refine (keysZ_is w b pm ra rc ba bc ma mc m L _ M ht (by omega)).mono ?_
  rintro e w' ⟨rfl, ⟨l, hp, q1⟩, q2⟩
  exact ⟨l, hp.trans ((srt_perm L).symm.map _), by rw [srt_len], q1, q2⟩
theorem keysN1 (w : World) (ow : Nat → Nat) (i b N : Nat) (A : List (Int × Int)) (H : List (List (Int × Int))) (h : T1 w ow i b N A H) (hN : N < 549755813888) : Calls Try.prog 49 #[.pointer (some ⟨b, 0, none⟩), .nilFunc] w fun e w' => ∃ l, l.Perm (A.map Prod.fst) ∧ e = .returned (.slice (some ⟨w.heap.size, 0, none⟩) A.length A.length) ∧ CBox w' w.heap.size 3 (intsD l) ∧ Below w.heap.size w w' := by
  obtain ⟨⟨S, L, V, M, ⟨pm, ra, rc, ba, bc, ma, mc, m, ht, rfl, hV⟩, h2, h3, rfl, rfl, h6, h7, h8⟩, lA, lH, lO⟩ := h
  rw [srt_len] at lA
  refine (keysN_is w b pm ra rc ba bc ma mc m L _ M ht (by omega)).mono ?_
  rintro e w' ⟨rfl, q1, q2⟩
  exact ⟨_, (srt_perm L).symm.map _, by rw [srt_len], q1, q2⟩
theorem UY.keys {w W : World} {b N : Nat} {A : List (Int × Int)} {H : List (List (Int × Int))} {R : (Nat → Nat) → World → Prop} (h : UY w W b N A H R) (hR : Stb R) {fv : Value} {Q : List Int → Prop} (hQ : ∀ l, Q l → l.length = A.length) (q : ∀ ow, T1 W ow 1 b N A H → Calls Try.prog 49 #[.pointer (some ⟨b, 0, none⟩), fv] W fun e w' => ∃ l, Q l ∧ e = .returned (.slice (some ⟨W.heap.size, 0, none⟩) A.length A.length) ∧ CBox w' W.heap.size 3 (intsD l) ∧ Below W.heap.size W w') :
    Calls Try.prog 49 #[.pointer (some ⟨b, 0, none⟩), fv] W fun e w' => ∃ l g, Q l ∧ e = .returned (.slice (some ⟨g, 0, none⟩) A.length A.length) ∧ UY w w' b N A H fun ow V => R ow V ∧ IsI V ow (.slice (some ⟨g, 0, none⟩) A.length A.length) l := by
  obtain ⟨⟨ow, h1, h2, h6⟩, h8⟩ := h
  refine (q ow h1).mono ?_
  rintro e w' ⟨l, ql, rfl, q1, q2⟩
  have hi : IsI w' (grow ow W.heap.size 0) (.slice (some ⟨W.heap.size, 0, none⟩) A.length A.length) l := by
    have := IsI.box (ow := grow ow W.heap.size 0) (cap := A.length) q1 (grow_ge (Nat.le_refl _))
    rw [hQ l ql] at this
    exact this
  exact ⟨l, _, ql, rfl, ⟨_, h1.past q2, ⟨hR (fun _ => False) ow _ W w' id (Mo.below q2) h2, hi⟩, fun x hx => (grow_lt (Nat.lt_of_lt_of_le hx h8.size)).trans (h6 x hx)⟩, h8.trans (q2.mono h8.size)⟩
theorem count_take {l : List Int} {i : Nat} {x k : Int} (h : l[i]? = some x) : (l.take (i + 1)).count k = (l.take i).count k + if x = k then 1 else 0 := by
  rw [List.take_add_one, h, List.count_append]
  simp [List.count_singleton]
theorem count_le {l : List Int} {i : Nat} {k : Int} : (l.take i).count k ≤ i := Nat.le_trans List.count_le_length (by rw [List.length_take]; omega)
set_option maxHeartbeats 2000000 in
set_option maxRecDepth 100000 in
theorem once_is (w : World) (ow : Nat → Nat) (v : Value) (l : List Int) (k : Int) (h : IsI w ow v l) (hl : l.length < 549755813888) (h1 : l.count k = 1) : Calls Try.prog 52 #[v, .int .i64 k] w fun e w' => e = .returned (.bool true) ∧ w' = w := by
  obtain ⟨ad, cap, rfl, h2⟩ := h
  have HA : Hid (∀ i x, l[i]? = some x → ∃ g, ad = some ⟨g, 0, none⟩ ∧ ow g = 0 ∧ w.cell? ⟨g, i, none⟩ = some (.int .i64 x)) := h2
  obtain ⟨n, en⟩ : ∃ n, l.length = n := ⟨_, rfl⟩
  have EN : Hid (l.length = n ∧ l.count k = 1) := ⟨en, h1⟩
  rw [en] at hl ⊢
  have nX : (n : Int) < 549755813888 := by omega
  clear h1 h2 en
  go_enter Try.func52, Try.ntmps52
  go_wp2
  go_loopw [5, 6] (fun sc si wr => ∃ i : Nat, i ≤ n ∧ si = .int .i64 (i : Int) ∧ sc = .int .i64 ((l.take i).count k : Int) ∧ wr = w) (fun _ si _ => n - (intOf si).toNat)
  case atStart => exact ⟨0, by omega, rfl, by simp, rfl⟩
  case round =>
    obtain ⟨i, hi, rfl, rfl, rfl⟩ := hrel
    by_cases e : i < n
    · have iI : (i : Int) < (n : Int) := by omega
      obtain ⟨x, hx⟩ : ∃ x, l[i]? = some x := ⟨_, List.getElem?_eq_getElem (by rw [EN.out.1]; exact e)⟩
      obtain ⟨g, rfl, _, c1⟩ := HA.out i x hx
      have CT := count_take (k := k) hx
      have CL := count_le (l := l) (i := i) (k := k)
      have HC : Hid ((l.take (i + 1)).count k = (l.take i).count k + if x = k then 1 else 0) := CT
      generalize (l.take i).count k = c at HC CL
      clear hx CT
      by_cases ek : x = k
      · have cX : (c : Int) < 549755813888 := by omega
        have ce : ((l.take (i + 1)).count k : Int) = (c : Int) + 1 := by rw [HC.out, if_pos ek]; rfl
        have CE : Hid (((l.take (i + 1)).count k : Int) = (c : Int) + 1) := ce
        clear ce
        go_wp2
        go_roundw
        case rel => exact ⟨i + 1, by omega, by go_num, by rw [CE.out], by trivial⟩
        case measure => simp [intOf]; omega
      · have CE : Hid (((l.take (i + 1)).count k : Int) = (c : Int)) := by show _ = _; rw [HC.out, if_neg ek]; rfl
        have NX : Hid ((n : Int) < 549755813888) := nX
        clear CL HC nX
        have EK : Hid (¬ x = k) := ek
        clear ek
        go_upto_region 5 with fail
        refine wp_region_lit ?_
        refine lst_val (v := .slice (some ⟨g, 0, none⟩) n cap) (by kernel_rfl) ?_ ?_
        · go_simp
        simp only [Act.put, List.setIfInBounds_toArray, List.set_cons_zero, List.set_cons_succ]
        refine lst_val (v := .int .i64 (i : Int)) (by kernel_rfl) ?_ ?_
        · go_simp
        simp only [Act.put, List.setIfInBounds_toArray, List.set_cons_zero, List.set_cons_succ]
        refine lst_val (v := .pointer (some ⟨g, i, none⟩)) (by kernel_rfl) ?_ ?_
        · go_simp
        simp only [Act.put, List.setIfInBounds_toArray, List.set_cons_zero, List.set_cons_succ]
        refine lst_val (v := .int .i64 x) (by kernel_rfl) ?_ ?_
        · go_simp
        simp only [Act.put, List.setIfInBounds_toArray, List.set_cons_zero, List.set_cons_succ]
        refine lst_val (v := .int .i64 k) (by kernel_rfl) ?_ ?_
        · go_simp
        simp only [Act.put, List.setIfInBounds_toArray, List.set_cons_zero, List.set_cons_succ]
        refine lst_val (v := .bool false) (by kernel_rfl) ?_ ?_
        · have ek := EK.out
          go_simp
        simp only [Act.put, List.setIfInBounds_toArray, List.set_cons_zero, List.set_cons_succ]
        refine wpList_nil ?_
        have nX := NX.out
        go_wp2
        go_roundw
        case rel => exact ⟨i + 1, by omega, by go_num, by rw [CE.out], by trivial⟩
        case measure => simp [intOf]; omega
    · have iI : ¬ (i : Int) < (n : Int) := by omega
      have ec : ((l.take i).count k : Int) = 1 := by rw [List.take_of_length_le (by rw [EN.out.1]; omega), EN.out.2]; rfl
      rw [ec]
      clear ec
      go_wp2
      go_ret
      exact ⟨rfl, rfl⟩
theorem count_one {A : List (Int × Int)} (h : Ris A) {l : List Int} (hp : l.Perm (A.map Prod.fst)) {k : Int} (hk : k ∈ A.map Prod.fst) : l.count k = 1 := by
  rw [hp.count_eq]
  have nd : (A.map Prod.fst).Nodup := (ris_keys h).imp (fun h => by omega)
  have h1 := List.nodup_iff_count.1 nd k
  have h2 := List.count_pos_iff.2 hk
  omega
end Go.Proofs.Ytohfkgfjcnldaaa
