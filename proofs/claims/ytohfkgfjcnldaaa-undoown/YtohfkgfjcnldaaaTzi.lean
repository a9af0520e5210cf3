/- Tables by what they tell: each call. -/
import Derived.Test.YtohfkgfjcnldaaaTzh
namespace Go.Proofs.Ytohfkgfjcnldaaa
open Go.RowKit Go.Shelf
theorem T1.ris {w : World} {ow : Nat → Nat} {i b N : Nat} {A : List (Int × Int)} {H : List (List (Int × Int))} (h : T1 w ow i b N A H) : Ris A := by
  obtain ⟨⟨S, L, V, M, ⟨pm, ra, rc, ba, bc, ma, mc, m, ht, rfl, hV⟩, _, _, rfl, _⟩, _⟩ := h
  exact srt_ris ht.ix.nd
theorem ix_none {m : Int → Option Nat} {L : List (Int × Int)} (h : IX m L) {k : Int} (hm : m k = none) (p : Int × Int) (hp : p ∈ L) : p.1 ≠ k := by
  rintro rfl
  obtain ⟨j, hj⟩ := List.mem_iff_getElem?.1 hp
  have := (h p.1 j).2 (by rw [hj]; rfl)
  rw [hm] at this
  cases this
theorem new1 (w : World) (ow : Nat → Nat) (i N : Nat) : Calls Try.prog 37 #[] w fun e w' => e = .returned (.pointer (some ⟨w.heap.size + 1, 0, none⟩)) ∧ T1 w' (grow ow w.heap.size i) i (w.heap.size + 1) N [] [] ∧ Below w.heap.size w w' := by
  refine (new_is w).mono ?_
  rintro e w' ⟨rfl, h1, h2⟩
  refine ⟨rfl, ⟨⟨_, [], [], [], ⟨_, _, _, _, _, _, _, _, h1, rfl, fun u hu => (by cases hu)⟩, fun j hj => (by cases hj), Mks.nil, (by unfold srt; simp), rfl, Nat.zero_le _, fun j hj => grow_ge ?_, fun j hj => ?_⟩, Nat.zero_le _, Nat.zero_le _, fun l hl => by cases hl⟩, h2⟩
  · rcases hj with rfl | rfl | ⟨a, e, _⟩ | ⟨a, e, _⟩ | ⟨a, e, _⟩
    · omega
    · omega
    · cases e
    · cases e
    · cases e
  · obtain ⟨u, hu, _⟩ := hj
    cases hu
theorem newR1 (w : World) (ow : Nat → Nat) (i N : Nat) : Calls Try.prog 19 #[] w fun e w' => e = .returned (.pointer (some ⟨w.heap.size, 0, none⟩)) ∧ R1 w' (grow ow w.heap.size i) i w.heap.size N [] [] ∧ Below w.heap.size w w' := by
  refine (newR_is w).mono ?_
  rintro e w' ⟨rfl, h1, h2⟩
  refine ⟨rfl, ⟨⟨_, _, _, _, h1, fun j hj => grow_ge ?_⟩, Nat.zero_le _, Nat.zero_le _, fun l hl => by cases hl⟩, h2⟩
  rcases hj with rfl | ⟨a, e, _⟩
  · exact Nat.le_refl _
  · cases e
theorem set1 (w : World) (ow : Nat → Nat) (i b N : Nat) (A : List (Int × Int)) (H : List (List (Int × Int))) (h : T1 w ow i b N A H) (k v : Int) (hk : I64 k) (hN : N < 549755813888) : Calls Try.prog 39 #[.pointer (some ⟨b, 0, none⟩), .int .i64 k, .int .i64 v] w fun e w' => e = .returned (.tuple #[]) ∧ T1 w' (grow ow w.heap.size i) i b (N + 1) (setRL A k v) H ∧ Mv ow i w w' := by
  obtain ⟨⟨S, L, V, M, h1, h2, h3, rfl, rfl, h6, h7, h8⟩, lA, lH, lO⟩ := h
  have h1' := h1
  obtain ⟨pm, ra, rc, ba, bc, ma, mc, m, ht, rfl, hV⟩ := h1
  rw [srt_len] at lA
  have ls := setRL_len (srt L) k v
  rw [srt_len] at ls
  cases hm : m k with
  | none =>
    refine (set_new w b pm ra rc ba bc ma mc m L V M ht hV k v hk (by omega) (by omega) hm).mono ?_
    rintro e w' ⟨rfl, S', V', q1, q2, q3, q4⟩
    exact ⟨rfl, T1.next h1' h7 h8 q1 q2 q3 (noted_ub q4) (noted_ok h3 h2 q4) (noted_mks h3 q4) (srt_new ht.ix.nd k v (ix_none ht.ix hm)).symm (noted_old h3 q4).symm (Nat.le_trans (noted_len q4) (by omega)) (by omega) (by omega) (fun l hl => by have := lO l hl; omega)⟩
  | some x =>
    obtain ⟨il, ik⟩ := ht.ix.some hm
    refine (set_old w b pm ra rc ba bc ma mc m L V M ht hV k v hk (by omega) (by omega) x hm).mono ?_
    rintro e w' ⟨rfl, S', V', q1, q2, q3, q4⟩
    exact ⟨rfl, T1.next h1' h7 h8 q1 q2 q3 (noted_ub q4) (noted_ok h3 h2 q4) (noted_mks h3 q4) (srt_old ht.ix.nd il k v ik).symm (noted_old h3 q4).symm (Nat.le_trans (noted_len q4) (by omega)) (by omega) (by omega) (fun l hl => by have := lO l hl; omega)⟩
theorem setR1 (w : World) (ow : Nat → Nat) (i c N : Nat) (A : List (Int × Int)) (H : List (List (Int × Int))) (h : R1 w ow i c N A H) (k v : Int) (hN : N < 549755813888) : Calls Try.prog 22 #[.pointer (some ⟨c, 0, none⟩), .int .i64 k, .int .i64 v] w fun e w' => e = .returned (.tuple #[]) ∧ R1 w' (grow ow w.heap.size i) i c (N + 1) (setRL A k v) H ∧ Mv ow i w w' := by
  obtain ⟨⟨lv, oa, oc, OV, h1, h2⟩, lA, lH, lO⟩ := h
  have ls := setRL_len A k v
  refine (setR_is w c lv oa oc A OV H h1 k v (by omega)).mono ?_
  rintro e w' ⟨rfl, lv', q1, q2⟩
  exact ⟨rfl, R1.next h1 h2 q1 q2 (Grown.refl _ _) (by omega) (by omega) (fun l hl => by have := lO l hl; omega)⟩
theorem del1 (w : World) (ow : Nat → Nat) (i b N : Nat) (A : List (Int × Int)) (H : List (List (Int × Int))) (h : T1 w ow i b N A H) (k : Int) (hk : I64 k) (hN : N < 549755813888) : Calls Try.prog 43 #[.pointer (some ⟨b, 0, none⟩), .int .i64 k] w fun e w' => e = .returned (.bool (getR A k).isSome) ∧ T1 w' (grow ow w.heap.size i) i b (N + 1) (delA A k) H ∧ Mv ow i w w' := by
  have hs := h
  obtain ⟨⟨S, L, V, M, h1, h2, h3, rfl, rfl, h6, h7, h8⟩, lA, lH, lO⟩ := h
  have h1' := h1
  obtain ⟨pm, ra, rc, ba, bc, ma, mc, m, ht, rfl, hV⟩ := h1
  have lD := delA_len (srt L) k
  have lA2 := lA
  rw [srt_len] at lA2
  have g2 := (srt_get ht.ix k).2
  cases hm : m k with
  | none =>
    rw [hm] at g2
    have g3 : (getR (srt L) k).isSome = false := g2
    refine (delete_no w b pm ra rc ba bc ma mc m L V M ht hV k hk hm).mono ?_
    rintro e w' ⟨rfl, q1⟩
    refine ⟨by rw [g3], ?_, Mv.below q1⟩
    unfold delA
    rw [g3]
    exact (hs.past q1).mono (by omega)
  | some x =>
    rw [hm] at g2
    have g3 : (getR (srt L) k).isSome = true := g2
    obtain ⟨il, ik⟩ := ht.ix.some hm
    have ed : delA (srt L) k = srt (remL L x) := by
      unfold delA
      rw [g3, srt_del ht.ix.nd il, ik]
      rfl
    refine (delete_yes w b pm ra rc ba bc ma mc m L V M ht hV k hk (by omega) (by omega) x hm).mono ?_
    rintro e w' ⟨rfl, S', V', q1, q2, q3, q4⟩
    exact ⟨by rw [g3], T1.next h1' h7 h8 q1 q2 q3 (noted_ub q4) (noted_ok h3 h2 q4) (noted_mks h3 q4) ed (noted_old h3 q4).symm (Nat.le_trans (noted_len q4) (by omega)) (by omega) (by omega) (fun l hl => by have := lO l hl; omega)⟩
theorem delR1 (w : World) (ow : Nat → Nat) (i c N : Nat) (A : List (Int × Int)) (H : List (List (Int × Int))) (h : R1 w ow i c N A H) (k : Int) (hN : N < 549755813888) : Calls Try.prog 24 #[.pointer (some ⟨c, 0, none⟩), .int .i64 k] w fun e w' => e = .returned (.bool (getR A k).isSome) ∧ R1 w' (grow ow w.heap.size i) i c (N + 1) (delA A k) H ∧ Mv ow i w w' := by
  have hs := h
  obtain ⟨⟨lv, oa, oc, OV, h1, h2⟩, lA, lH, lO⟩ := h
  have lD := delA_len A k
  by_cases hg : (getR A k).isSome = true
  · have ed : delA A k = delRL A k := by unfold delA; rw [hg]; rfl
    obtain ⟨g1, g2⟩ := getR_some.1 hg
    refine (delR_yes w c lv oa oc A OV H h1 k (by omega) g1 g2).mono ?_
    rintro e w' ⟨rfl, lv', q1, q2⟩
    rw [← ed] at q1
    exact ⟨by rw [hg], R1.next h1 h2 q1 q2 (Grown.refl _ _) (by omega) (by omega) (fun l hl => by have := lO l hl; omega)⟩
  · have hg2 : (getR A k).isSome = false := by simpa using hg
    refine (delR_no w c lv oa oc A OV H h1 k (by omega) (fun e => hg (getR_some.2 e))).mono ?_
    rintro e w' ⟨rfl, rfl⟩
    refine ⟨by rw [hg2], ?_, Mv.same⟩
    unfold delA
    rw [hg2]
    exact (hs.past (Below.refl _ _)).mono (by omega)
theorem get1 (w : World) (ow : Nat → Nat) (i b N : Nat) (A : List (Int × Int)) (H : List (List (Int × Int))) (h : T1 w ow i b N A H) (k : Int) (hk : I64 k) (hN : N < 549755813888) : Calls Try.prog 44 #[.pointer (some ⟨b, 0, none⟩), .int .i64 k] w fun e w' => e = .returned (.tuple #[.int .i64 ((getR A k).getD 0), .bool (getR A k).isSome]) ∧ w' = w := by
  obtain ⟨⟨S, L, V, M, ⟨pm, ra, rc, ba, bc, ma, mc, m, ht, rfl, hV⟩, h2, h3, rfl, rfl, h6, h7, h8⟩, lA, lH, lO⟩ := h
  rw [srt_len] at lA
  rw [(srt_get ht.ix k).1, (srt_get ht.ix k).2]
  exact get_is w b pm ra rc ba bc ma mc m L _ M ht k hk (by omega)
theorem getR1 (w : World) (ow : Nat → Nat) (i c N : Nat) (A : List (Int × Int)) (H : List (List (Int × Int))) (h : R1 w ow i c N A H) (k : Int) (hN : N < 549755813888) : Calls Try.prog 32 #[.pointer (some ⟨c, 0, none⟩), .int .i64 k] w fun e w' => e = .returned (.tuple #[.int .i64 ((getR A k).getD 0), .bool (getR A k).isSome]) ∧ w' = w := by
  obtain ⟨⟨lv, oa, oc, OV, h1, h2⟩, lA, lH, lO⟩ := h
  exact getR_is w c lv oa oc A OV H h1 k (by omega)
theorem len1 (w : World) (ow : Nat → Nat) (i b N : Nat) (A : List (Int × Int)) (H : List (List (Int × Int))) (h : T1 w ow i b N A H) : Calls Try.prog 48 #[.pointer (some ⟨b, 0, none⟩)] w fun e w' => e = .returned (.int .i64 (A.length : Int)) ∧ w' = w := by
  obtain ⟨⟨S, L, V, M, ⟨pm, ra, rc, ba, bc, ma, mc, m, ht, rfl, hV⟩, h2, h3, rfl, rfl, h6, h7, h8⟩, lA, lH, lO⟩ := h
  rw [srt_len]
  exact len_is w b pm ra rc ba bc ma mc m L _ M ht
theorem marks1 (w : World) (ow : Nat → Nat) (i b N : Nat) (A : List (Int × Int)) (H : List (List (Int × Int))) (h : T1 w ow i b N A H) : Calls Try.prog 41 #[.pointer (some ⟨b, 0, none⟩)] w fun e w' => e = .returned (.int .i64 (H.length : Int)) ∧ w' = w := by
  obtain ⟨⟨S, L, V, M, ⟨pm, ra, rc, ba, bc, ma, mc, m, ht, rfl, hV⟩, h2, h3, rfl, rfl, h6, h7, h8⟩, lA, lH, lO⟩ := h
  rw [oldL_len]
  exact marks_is w b pm ra rc ba bc ma mc m L _ M ht
theorem marksR1 (w : World) (ow : Nat → Nat) (i c N : Nat) (A : List (Int × Int)) (H : List (List (Int × Int))) (h : R1 w ow i c N A H) : Calls Try.prog 83 #[.pointer (some ⟨c, 0, none⟩)] w fun e w' => e = .returned (.int .i64 (H.length : Int)) ∧ w' = w := by
  obtain ⟨⟨lv, oa, oc, OV, h1, h2⟩, lA, lH, lO⟩ := h
  exact marksR_is w c lv oa oc A OV H h1
theorem pairs1 (w : World) (ow : Nat → Nat) (i c N : Nat) (A : List (Int × Int)) (H : List (List (Int × Int))) (h : R1 w ow i c N A H) (hN : N < 549755813888) : Calls Try.prog 33 #[.pointer (some ⟨c, 0, none⟩)] w fun e w' => ∃ v', e = .returned v' ∧ PrL w' v' A ∧ Below w.heap.size w w' ∧ ∀ k, v'.ownBlock = some k → w.heap.size ≤ k := by
  obtain ⟨⟨lv, oa, oc, OV, h1, h2⟩, lA, lH, lO⟩ := h
  exact pairs_is w c lv oa oc A OV H h1 (by omega)
theorem mark1 (w : World) (ow : Nat → Nat) (i b N : Nat) (A : List (Int × Int)) (H : List (List (Int × Int))) (h : T1 w ow i b N A H) (hN : N < 549755813888) : Calls Try.prog 42 #[.pointer (some ⟨b, 0, none⟩)] w fun e w' => e = .returned (.int .i64 (H.length : Int)) ∧ T1 w' (grow ow w.heap.size i) i b (N + 1) A (H ++ [A]) ∧ Mv ow i w w' := by
  obtain ⟨⟨S, L, V, M, h1, h2, h3, rfl, rfl, h6, h7, h8⟩, lA, lH, lO⟩ := h
  have h1' := h1
  obtain ⟨pm, ra, rc, ba, bc, ma, mc, m, ht, rfl, hV⟩ := h1
  rw [oldL_len] at lH
  refine (mark_is w b pm ra rc ba bc ma mc L.length m L (V.map uv) M ht.toTab0 (by rw [List.length_map]; omega) (by omega)).mono ?_
  rintro e w' ⟨rfl, ma', mc', q1, q2, q3⟩
  rw [List.length_map] at q1
  refine ⟨by rw [oldL_len], T1.next h1' h7 h8 ⟨pm, ra, rc, ba, bc, ma', mc', m, ⟨q1, ht.ix, ht.keys⟩, rfl, fun u hu => (hV u hu).but q2 q3⟩ q2 q3 (fun j hj => Or.inl hj) h2 (mark_mks h3) rfl mark_old.symm (by omega) (by omega) (by rw [List.length_append, oldL_len]; show _ + 1 ≤ _; omega) (fun l hl => ?_)⟩
  rcases List.mem_append.1 hl with hl | hl
  · have := lO l hl; omega
  · obtain rfl : l = srt L := by simpa using hl
    omega
theorem markR1 (w : World) (ow : Nat → Nat) (i c N : Nat) (A : List (Int × Int)) (H : List (List (Int × Int))) (h : R1 w ow i c N A H) (hN : N < 549755813888) : Calls Try.prog 26 #[.pointer (some ⟨c, 0, none⟩)] w fun e w' => e = .returned (.int .i64 (H.length : Int)) ∧ R1 w' (grow ow w.heap.size i) i c (N + 1) A (H ++ [A]) ∧ Mv ow i w w' := by
  obtain ⟨⟨lv, oa, oc, OV, h1, h2⟩, lA, lH, lO⟩ := h
  refine (markR_is w c lv oa oc A OV H h1 (by omega) (by omega)).mono ?_
  rintro e w' ⟨rfl, oa', oc', v, q1, q2, q3⟩
  refine ⟨rfl, R1.next h1 h2 q1 q2 q3 (by omega) (by rw [List.length_append]; show _ + 1 ≤ _; omega) (fun l hl => ?_)⟩
  rcases List.mem_append.1 hl with hl | hl
  · have := lO l hl; omega
  · obtain rfl : l = A := by simpa using hl
    omega
theorem isM_nat {H : List (List (Int × Int))} {k : Int} (h : isM H k = true) : k.toNat < H.length ∧ ((k.toNat : Nat) : Int) = k := by
  have h := of_decide_eq_true h
  omega
theorem back1 (w : World) (ow : Nat → Nat) (i b N : Nat) (A : List (Int × Int)) (H : List (List (Int × Int))) (h : T1 w ow i b N A H) (k : Int) (hN : N < 274877906944) : Calls Try.prog 45 #[.pointer (some ⟨b, 0, none⟩), .int .i64 k] w fun e w' => e = .returned (.int .i64 (bkE H k)) ∧ T1 w' (grow ow w.heap.size i) i b (N + 1) (bkA A H k) (bkH H k) ∧ Mv ow i w w' := by
  have hs := h
  obtain ⟨⟨S, L, V, M, h1, h2, h3, rfl, rfl, h6, h7, h8⟩, lA, lH, lO⟩ := h
  obtain ⟨b1, b2, b3⟩ := bk_lens lA lH lO k
  by_cases hm : isM (oldL V L M) k = true
  · obtain ⟨kl, ke⟩ := isM_nat hm
    rw [oldL_len] at kl lH
    obtain ⟨f, hf⟩ : ∃ f, M[k.toNat]? = some f := ⟨_, List.getElem?_eq_getElem kl⟩
    have hfV : f ≤ V.length := h3.ml f (List.mem_iff_getElem?.2 ⟨_, hf⟩)
    have e0 : bkE (oldL V L M) k = 0 := by unfold bkE; rw [hm]; rfl
    have e1 : bkA (srt L) (oldL V L M) k = srt (stB V L (V.length - f)) := by unfold bkA; rw [hm, if_pos rfl, back_at hf]; rfl
    have e2 : bkH (oldL V L M) k = oldL (V.take f) (stB V L (V.length - f)) (M.take k.toNat) := by unfold bkH; rw [hm, if_pos rfl, back_old h3 hf]
    rw [srt_len] at lA
    have C := back_yes w b S L V M h1 h2 k.toNat f hf hfV (by omega) (by omega)
    rw [ke] at C
    refine C.mono ?_
    rintro e w' ⟨rfl, S', q1, q2, q3⟩
    exact ⟨by rw [e0], T1.next h1 h7 h8 q1 q2 q3 (fun j ⟨u, hu, e⟩ => Or.inl ⟨u, List.mem_of_mem_take hu, e⟩) (h2.take hfV) (back_mks h3 hf) e1 e2 (by rw [List.length_take]; omega) (by omega) (by omega) (fun l hl => by have := b3 l hl; omega)⟩
  · have hm2 : isM (oldL V L M) k = false := by simpa using hm
    have e0 : bkE (oldL V L M) k = 30 := by unfold bkE; rw [hm2]; rfl
    have e1 : bkA (srt L) (oldL V L M) k = srt L := by unfold bkA; rw [hm2]; rfl
    have e2 : bkH (oldL V L M) k = oldL V L M := by unfold bkH; rw [hm2]; rfl
    refine (back_no w b S L V M h1 k (fun e => hm (decide_eq_true (by rw [oldL_len]; exact e)))).mono ?_
    rintro e w' ⟨rfl, rfl⟩
    rw [e0, e1, e2]
    exact ⟨rfl, (hs.past (Below.refl _ _)).mono (by omega), Mv.same⟩
theorem backR1 (w : World) (ow : Nat → Nat) (i c N : Nat) (A : List (Int × Int)) (H : List (List (Int × Int))) (h : R1 w ow i c N A H) (k : Int) : Calls Try.prog 28 #[.pointer (some ⟨c, 0, none⟩), .int .i64 k] w fun e w' => e = .returned (.int .i64 (bkE H k)) ∧ R1 w' (grow ow w.heap.size i) i c (N + 1) (bkA A H k) (bkH H k) ∧ Mv ow i w w' := by
  have hs := h
  obtain ⟨⟨lv, oa, oc, OV, h1, h2⟩, lA, lH, lO⟩ := h
  obtain ⟨b1, b2, b3⟩ := bk_lens lA lH lO k
  by_cases hm : isM H k = true
  · obtain ⟨kl, ke⟩ := isM_nat hm
    obtain ⟨l, hl⟩ : ∃ l, H[k.toNat]? = some l := ⟨_, List.getElem?_eq_getElem kl⟩
    have e0 : bkE H k = 0 := by unfold bkE; rw [hm]; rfl
    have e1 : bkA A H k = l := by unfold bkA; rw [hm, if_pos rfl, hl]; rfl
    have e2 : bkH H k = H.take k.toNat := by unfold bkH; rw [hm, if_pos rfl]
    have C := backR_yes w c lv oa oc A OV H h1 k.toNat l hl
    rw [ke] at C
    refine C.mono ?_
    rintro e w' ⟨rfl, lv', q1, q2⟩
    rw [← e1, ← e2] at q1
    exact ⟨by rw [e0], R1.next h1 h2 q1 q2 (Grown.refl _ _) (by omega) (by omega) (fun l hl => by have := b3 l hl; omega)⟩
  · have hm2 : isM H k = false := by simpa using hm
    have e0 : bkE H k = 30 := by unfold bkE; rw [hm2]; rfl
    have e1 : bkA A H k = A := by unfold bkA; rw [hm2]; rfl
    have e2 : bkH H k = H := by unfold bkH; rw [hm2]; rfl
    refine (backR_no w c lv oa oc A OV H h1 k (fun e => hm (decide_eq_true e))).mono ?_
    rintro e w' ⟨rfl, rfl⟩
    rw [e0, e1, e2]
    exact ⟨rfl, (hs.past (Below.refl _ _)).mono (by omega), Mv.same⟩
theorem forget1 (w : World) (ow : Nat → Nat) (i b N : Nat) (A : List (Int × Int)) (H : List (List (Int × Int))) (h : T1 w ow i b N A H) (k : Int) (hN : N < 549755813888) : Calls Try.prog 47 #[.pointer (some ⟨b, 0, none⟩), .int .i64 k] w fun e w' => e = .returned (.int .i64 (bkE H k)) ∧ T1 w' (grow ow w.heap.size i) i b (N + 1) A (bkH H k) ∧ Mv ow i w w' := by
  have hs := h
  obtain ⟨⟨S, L, V, M, h1, h2, h3, rfl, rfl, h6, h7, h8⟩, lA, lH, lO⟩ := h
  obtain ⟨b1, b2, b3⟩ := bk_lens lA lH lO k
  by_cases hm : isM (oldL V L M) k = true
  · obtain ⟨kl, ke⟩ := isM_nat hm
    rw [oldL_len] at kl lH
    have e0 : bkE (oldL V L M) k = 0 := by unfold bkE; rw [hm]; rfl
    have e2 : bkH (oldL V L M) k = oldL (if k.toNat = 0 then [] else V) L (M.take k.toNat) := by unfold bkH; rw [hm, if_pos rfl, forget_old]
    have C := forget_yes w b S L V M h1 k.toNat kl (by omega)
    rw [ke] at C
    refine C.mono ?_
    rintro e w' ⟨rfl, q1, q2⟩
    have lv : (if k.toNat = 0 then [] else V).length ≤ V.length := by split; exact Nat.zero_le _; exact Nat.le_refl _
    refine ⟨by rw [e0], T1.next h1 h7 h8 q1 q2 (Grown.refl _ _) (fun j ⟨u, hu, e⟩ => ?_) (forget_ok h2) (forget_mks h3 kl) rfl e2 (by omega) (by omega) (by omega) (fun l hl => by have := b3 l hl; omega)⟩
    split at hu
    · cases hu
    · exact Or.inl ⟨u, hu, e⟩
  · have hm2 : isM (oldL V L M) k = false := by simpa using hm
    have e0 : bkE (oldL V L M) k = 30 := by unfold bkE; rw [hm2]; rfl
    have e2 : bkH (oldL V L M) k = oldL V L M := by unfold bkH; rw [hm2]; rfl
    refine (forget_no w b S L V M h1 k (fun e => hm (decide_eq_true (by rw [oldL_len]; exact e)))).mono ?_
    rintro e w' ⟨rfl, rfl⟩
    rw [e0, e2]
    exact ⟨rfl, (hs.past (Below.refl _ _)).mono (by omega), Mv.same⟩
theorem forgetR1 (w : World) (ow : Nat → Nat) (i c N : Nat) (A : List (Int × Int)) (H : List (List (Int × Int))) (h : R1 w ow i c N A H) (k : Int) : Calls Try.prog 30 #[.pointer (some ⟨c, 0, none⟩), .int .i64 k] w fun e w' => e = .returned (.int .i64 (bkE H k)) ∧ R1 w' (grow ow w.heap.size i) i c (N + 1) A (bkH H k) ∧ Mv ow i w w' := by
  have hs := h
  obtain ⟨⟨lv, oa, oc, OV, h1, h2⟩, lA, lH, lO⟩ := h
  obtain ⟨b1, b2, b3⟩ := bk_lens lA lH lO k
  by_cases hm : isM H k = true
  · obtain ⟨kl, ke⟩ := isM_nat hm
    have e0 : bkE H k = 0 := by unfold bkE; rw [hm]; rfl
    have e2 : bkH H k = H.take k.toNat := by unfold bkH; rw [hm, if_pos rfl]
    have C := forgetR_yes w c lv oa oc A OV H h1 k.toNat kl
    rw [ke] at C
    refine C.mono ?_
    rintro e w' ⟨rfl, q1, q2⟩
    rw [← e2] at q1
    exact ⟨by rw [e0], R1.next h1 h2 q1 q2 (Grown.refl _ _) (by omega) (by omega) (fun l hl => by have := b3 l hl; omega)⟩
  · have hm2 : isM H k = false := by simpa using hm
    have e0 : bkE H k = 30 := by unfold bkE; rw [hm2]; rfl
    have e2 : bkH H k = H := by unfold bkH; rw [hm2]; rfl
    refine (forgetR_no w c lv oa oc A OV H h1 k (fun e => hm (decide_eq_true e))).mono ?_
    rintro e w' ⟨rfl, rfl⟩
    rw [e0, e2]
    exact ⟨rfl, (hs.past (Below.refl _ _)).mono (by omega), Mv.same⟩
end Go.Proofs.Ytohfkgfjcnldaaa
