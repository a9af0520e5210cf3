/- The laws' lent: bytes with marks in the room behind them. -/
import Derived.Test.YtndhabhlajldeaaBsbM
import Derived.Laws.CopyOwn
import Derived.Laws.IdiomCopy
import Derived.Laws.CopyRow
namespace Go.Proofs.Ytndhabhlajldeaa
open Go.RowKit
/-- the mark at a place -/
def mark (i : Nat) : Nat := (i * 5 + 1) % 256
/-- bytes, and marks behind them up to j of n -/
def marked (x : List Nat) (n j : Nat) : List Nat := x ++ (List.range j).map (fun i => mark (x.length + i)) ++ List.replicate (n - j) 0
theorem marked_len (x : List Nat) (n j : Nat) (h : j ≤ n) : (marked x n j).length = x.length + n := by simp [marked]; omega
theorem marked_set (x : List Nat) (n j : Nat) (h : j < n) : (bV (marked x n j)).set (x.length + j) (.int .u8 (mark (x.length + j) : Int)) = bV (marked x n (j + 1)) := by
  obtain ⟨r, hr⟩ : ∃ r, n - j = r + 1 := ⟨n - j - 1, by omega⟩
  unfold marked
  rw [hr, show n - (j + 1) = r by omega, List.range_succ, List.map_append, bV_app, bV_app, bV_app, bV_app, List.set_append_right _ _ (by rw [List.length_append, bV_len, bV_len]; simp)]
  rw [List.length_append, bV_len, bV_len, List.length_map, List.length_range, Nat.sub_self]
  unfold bV
  rw [List.replicate_succ, List.map_cons, List.set_cons_zero, List.map_append]
  simp
theorem marked_get {x : List Nat} {n j : Nat} (h : j < n) : (bV (marked x n j))[x.length + j]? = some (.int .u8 0) := by
  have : (marked x n j)[x.length + j]? = some 0 := by
    unfold marked
    rw [List.getElem?_append_right (by simp), List.getElem?_replicate]
    simp
    omega
  exact bV_get this
theorem copy_all {P : Nat → Prop} (W : World) (g M : Nat) (v : Value) (x : List Nat) (h : BL P W v x) (hcb : CBox W g 5 (List.replicate M (.int .u8 0))) (hM : x.length ≤ M) :
    ∃ W2, (∀ ty : TypeId, (Builtin.copy_ #[22, 22] ty #[.slice (some ⟨g, 0, none⟩) M M, v]).run Try.prog W = .ok (.int .i64 (x.length : Int)) W2) ∧ CBox W2 g 5 (bV (marked x (M - x.length) 0)) ∧ But (fun y => y = g) W W2 := by
  have hinfo : (Try.prog.info? 5).map (·.size) = some 1 := by obtain ⟨i0, hi, _, hz1, _⟩ := info_parts Try.info8; rw [hi]; simp [hz1]
  obtain ⟨_, ad, cap, rfl, h0, h1, hz, h2⟩ := h
  have em : bV (marked x (M - x.length) 0) = bV x ++ List.replicate (M - x.length) (.int .u8 0) := by
    unfold marked
    rw [bV_app, bV_app]
    simp [bV]
  rw [em]
  by_cases hx : x.length = 0
  · obtain rfl := List.eq_nil_of_length_eq_zero hx
    refine ⟨W, fun ty => ?_, by simpa [bV] using hcb, But.refl _ _⟩
    have := run_copy_none (P := Try.prog) W 22 22 ty 5 (some ⟨g, 0, none⟩) ad M M 0 cap Try.underlying22 hinfo (by simp)
    exact this
  · obtain ⟨g2, a2, rfl, _, hg, h3⟩ := h2 (by omega)
    have hn : (bV x).length = Nat.min x.length M := by rw [bV_len]; exact (Nat.min_eq_left hM).symm
    refine ⟨W.setRow g ((List.replicate M (Value.int .u8 0)).toArray.toList.take 0 ++ bV x ++ (List.replicate M (Value.int .u8 0)).toArray.toList.drop (0 + (bV x).length)).toArray, fun ty => ?_, ?_, ?_⟩
    · have := run_copy_row (P := Try.prog) W 22 22 ty 5 g 0 M M ⟨g2, a2, none⟩ x.length cap (List.replicate M (Value.int .u8 0)).toArray 5 (bV x) Try.underlying22 hinfo hcb hn (fun j v hj => by rw [Addr.add_mid]; exact h3 j v hj) (by rw [bV_len]; simp; omega) (bV_one x)
      rw [this, bV_len]
      rfl
    · have := setRow_heap W g _ ((List.replicate M (Value.int .u8 0)).toArray.toList.take 0 ++ bV x ++ (List.replicate M (Value.int .u8 0)).toArray.toList.drop (0 + (bV x).length)).toArray 5 _ hcb
      show _ = _
      rw [this]
      simp [bV_len]
    · exact ⟨rfl, rfl, rfl, by simp [World.setRow], fun k hk hn => setRow_other W g k _ hn⟩
set_option maxHeartbeats 4000000 in
set_option maxRecDepth 100000 in
theorem lent_is {P : Nat → Prop} (w : World) (v : Value) (x : List Nat) (n : Nat) (h : BL P w v x) (hx : x.length ≤ 16777216) (hn : n ≤ 1000) : Calls Try.prog 26 #[v, .int .i64 (n : Int)] w fun e w' => (∃ g, e = .returned (.slice (some ⟨g, 0, none⟩) (x.length + n) (x.length + n)) ∧ CBox w' g 5 (bV (marked x n n)) ∧ w.heap.size ≤ g) ∧ Below w.heap.size w w' := by
  obtain ⟨ad, cap, rfl, _, _⟩ := h.len
  obtain ⟨M, hM⟩ : ∃ M, M = x.length + n := ⟨_, rfl⟩
  obtain ⟨W1, hmk, hcb, hB1, _⟩ := make_n 22 5 (.int .u8 0) (.int .u8 0) 1 1 Try.underlying22 Try.info8 (one_cell rfl) (by simp [Value.cells]) .i64 w M (by omega) (by omega)
  rw [Nat.mul_one] at hcb
  obtain ⟨W2, hcp, hcb2, hB2⟩ := copy_all W1 w.heap.size M _ x (h.past hB1) hcb (by omega)
  have hMn : M - x.length = n := by omega
  rw [hMn] at hcb2
  have N0 : Hid (CBox W2 w.heap.size 5 (bV (marked x n 0)) ∧ Below w.heap.size w W2) := ⟨hcb2, hB1.trans (hB2.below (fun g e => by omega) hB1.size)⟩
  have HM : Hid (M = x.length + n ∧ x.length ≤ 16777216 ∧ n ≤ 1000) := ⟨hM, hx, hn⟩
  rw [← hM]
  have r1 : (x.length : Int) + (n : Int) = (M : Int) := by omega
  have w1 : IntKind.i64.wrap (M : Int) = (M : Int) := by rw [IntKind.wrap_i64]; omega
  have MI : (M : Int) ≤ 16778216 := by omega
  clear h hcb hB1 hcb2 hB2 hM hMn hx hn
  generalize hl : x.length = xl at *
  have HXL : Hid (x.length = xl) := hl
  clear hl
  go_enter Try.func26, Try.ntmps26
  go_upto_region 3 with fail
  clear hmk hcp r1 w1
  generalize hg : w.heap.size = g at N0 ⊢
  have GB : Hid (w.heap.size = g) := hg
  have GE : Hid (g ≤ w.heap.size) := by unfold Hid; omega
  clear hg
  go_wp2
  go_loopw [6] (fun s6 wr => ∃ j i : Nat, s6 = .int .i64 (i : Int) ∧ i = xl + j ∧ j ≤ n ∧ CBox wr g 5 (bV (marked x n j)) ∧ Below g w wr) (fun s6 _ => M - (intOf s6).toNat)
  case atStart => exact ⟨0, xl, rfl, by omega, by omega, N0.out.1, N0.out.2⟩
  case round =>
    obtain ⟨j, i, rfl, hi, hj, hC, hB⟩ := hrel
    have N : Hid (CBox wr g 5 (bV (marked x n j)) ∧ Below g w wr) := ⟨hC, hB⟩
    have HI : Hid (i = xl + j) := hi
    clear hC hB N0
    by_cases e : j = n
    · have q1 : ¬ (i : Int) < (M : Int) := by have := HM.out; omega
      have N2 : Hid (CBox wr g 5 (bV (marked x n n))) := by have := N.out.1; rwa [e] at this
      clear e hi
      go_wp2
      go_ret
      exact ⟨⟨g, rfl, N2.out, by rw [GB.out]; exact Nat.le_refl _⟩, by rw [GB.out]; exact N.out.2⟩
    · have q1 : (i : Int) < (M : Int) := by have := HM.out; omega
      have HJN : Hid (j < n) := by unfold Hid; omega
      obtain ⟨i5, hi5⟩ : ∃ q, q = i * 5 := ⟨_, rfl⟩
      have r1 : (i : Int) * 5 = (i5 : Int) := by omega
      have hmk : mark (xl + j) = (i5 + 1) % 256 := by unfold mark; rw [← hi, hi5]
      have i16 : i ≤ 16778216 := by have := HM.out; omega
      have w1 : IntKind.i64.wrap (i5 : Int) = (i5 : Int) := by rw [IntKind.wrap_i64]; omega
      have w2 : IntKind.i64.wrap ((i5 : Int) + 1) = (i5 : Int) + 1 := by rw [IntKind.wrap_i64]; omega
      obtain ⟨mk, hmk2⟩ : ∃ mk, mk = (i5 + 1) % 256 := ⟨_, rfl⟩
      have w3 : IntKind.u8.wrap ((i5 : Int) + 1) = (mk : Int) := by
        rw [IntKind.wrap_u8]; omega
      have k0 : wr.cell? ⟨g, i, none⟩ = some (.int .u8 0) := by rw [N.out.1.cell, hi, ← HXL.out]; exact marked_get HJN.out
      have f0 := N.out.1.frozen i
      have N2 : Hid (CBox (wr.setCell ⟨g, i, none⟩ (.int .u8 (mk : Int))) g 5 (bV (marked x n (j + 1))) ∧ Below g w (wr.setCell ⟨g, i, none⟩ (.int .u8 (mk : Int)))) := by
        have hs : But (fun y => y = g) wr (wr.setCell ⟨g, i, none⟩ (.int .u8 (mk : Int))) := (But.refl (fun y => y = g) wr).setCell ⟨g, i, none⟩ _ (Or.inl rfl)
        refine ⟨?_, N.out.2.trans (hs.below (fun y e => by omega) (Nat.le_trans GE.out N.out.2.size))⟩
        have h9 := N.out.1.set i (.int .u8 (mk : Int))
        rw [hmk2, ← hmk] at h9 ⊢
        rw [hi, ← HXL.out] at h9 ⊢
        rwa [marked_set x n j HJN.out] at h9
      clear e hi hi5 hmk hmk2 N
      go_wp2
      go_roundw
      case rel => exact ⟨j + 1, i + 1, by first | rfl | go_num, by have := HI.out; omega, by have := HJN.out; omega, N2.out.1, N2.out.2⟩
      case measure => simp [intOf]; omega
end Go.Proofs.Ytndhabhlajldeaa
/- The laws' kept: are the marks there? -/
namespace Go.Proofs.Ytndhabhlajldeaa
open Go.RowKit
theorem marked_lo {x : List Nat} {n i y : Nat} (h : x[i]? = some y) : (bV (marked x n n))[i]? = some (.int .u8 (y : Int)) := by
  have hi := (List.getElem?_eq_some_iff.1 h).1
  refine bV_get ?_
  unfold marked
  rw [List.getElem?_append_left (by simp; omega), List.getElem?_append_left hi]
  exact h
theorem marked_hi {x : List Nat} {n j : Nat} (h : j < n) : (bV (marked x n n))[x.length + j]? = some (.int .u8 (mark (x.length + j) : Int)) := by
  refine bV_get ?_
  unfold marked
  rw [List.getElem?_append_left (by simp; omega), List.getElem?_append_right (by omega), Nat.add_sub_cancel_left]
  simp [h]
set_option maxHeartbeats 4000000 in
set_option maxRecDepth 100000 in
theorem kept_is {P : Nat → Prop} (w : World) (v : Value) (x : List Nat) (n g : Nat) (h : BL P w v x) (hc : CBox w g 5 (bV (marked x n n))) (hx : x.length ≤ 16777216) (hn : n ≤ 1000) : Calls Try.prog 29 #[.slice (some ⟨g, 0, none⟩) (x.length + n) (x.length + n), v] w fun e w' => e = .returned (.bool true) ∧ Below w.heap.size w w' := by
  obtain ⟨ad, cap, rfl, _, _⟩ := h.len
  have HB : Hid (∀ W, Below w.heap.size w W → BL P W (.slice ad x.length cap) x ∧ CBox W g 5 (bV (marked x n n))) := fun W hW => ⟨h.past hW, hc.past hW⟩
  obtain ⟨M, hM⟩ : ∃ M, M = x.length + n := ⟨_, rfl⟩
  have HM : Hid (M = x.length + n ∧ x.length ≤ 16777216 ∧ n ≤ 1000) := ⟨hM, hx, hn⟩
  rw [← hM]
  have MI : (M : Int) ≤ 16778216 := by omega
  have B00 : Hid (Below w.heap.size w w) := Below.refl _ _
  clear h hc hM hx hn
  generalize hl : x.length = xl at *
  have HXL : Hid (x.length = xl) := hl
  clear hl
  generalize hbw : w.heap.size = bw at *
  have GB : Hid (w.heap.size = bw) := hbw
  clear hbw
  go_enter Try.func29, Try.ntmps29
  go_wp2
  go_loopw [5] (fun s5 wr => ∃ i : Nat, s5 = .int .i64 (i : Int) ∧ i ≤ M ∧ Below bw w wr) (fun s5 _ => M - (intOf s5).toNat)
  case atStart => exact ⟨0, rfl, by omega, B00.out⟩
  case round =>
    obtain ⟨i, rfl, hi, hB⟩ := hrel
    have B : Hid (Below bw w wr) := hB
    clear hB B00
    by_cases e : i = M
    · have q1 : ¬ (i : Int) < (M : Int) := by omega
      clear e hi
      go_wp2
      go_ret
      exact ⟨rfl, B.out⟩
    · have q1 : (i : Int) < (M : Int) := by omega
      have HIM : Hid (i < M) := by unfold Hid; omega
      by_cases ex : i < xl
      · obtain ⟨y, hy⟩ : ∃ y, x[i]? = some y := ⟨x[i]'(by rw [HXL.out]; exact ex), List.getElem?_eq_getElem _⟩
        obtain ⟨g2, a2, eg, c2⟩ := (HB.out wr B.out).1.get hy
        subst eg
        have c1 : wr.cell? ⟨g, i, none⟩ = some (.int .u8 (y : Int)) := by rw [(HB.out wr B.out).2.cell]; exact marked_lo hy
        have q2 : (i : Int) < (xl : Int) := by omega
        have q3 : ¬ (i : Int) ≥ (xl : Int) := by omega
        clear e hi hy ex
        go_upto_region 4 with fail
        refine wp_region_held_drew (S := fun V' => V'.cell? ⟨g, i, none⟩ = some (.int .u8 (y : Int)) ∧ V'.cell? ⟨g2, a2 + i, none⟩ = some (.int .u8 (y : Int))) (by kernel_rfl) ⟨c1, c2⟩ (fun hHeld => ?_)
        have B0 : Hid (Below bw w wr.drew) := B.out.drew
        clear B
        generalize wr.drew = z0 at hHeld B0 ⊢
        refine wpAnyH_take (i := 0) (v := .int .i64 (i : Int)) ov0 (by kernel_rfl) (by kernel_rfl) (by kernel_rfl) (fun _ _ _ h => h) (Or.inl ⟨by rfl, fun V' hS => ?_⟩) hHeld ?_
        · go_simp
        simp only [Act.put, List.setIfInBounds_toArray, List.set_cons_zero, List.set_cons_succ]
        refine wpAnyH_take (i := 1) (v := .slice (some ⟨g2, a2, none⟩) xl cap) ov1 (by kernel_rfl) (by kernel_rfl) (by kernel_rfl) (fun _ _ _ h => h) (Or.inl ⟨by rfl, fun V' hS => ?_⟩) hHeld ?_
        · go_simp
        simp only [Act.put, List.setIfInBounds_toArray, List.set_cons_zero, List.set_cons_succ]
        refine wpAnyH_take (i := 2) (v := .int .i64 (xl : Int)) ov2 (by kernel_rfl) (by kernel_rfl) (by kernel_rfl) (fun _ _ _ h => h) (Or.inl ⟨by rfl, fun V' hS => ?_⟩) hHeld ?_
        · go_simp
        simp only [Act.put, List.setIfInBounds_toArray, List.set_cons_zero, List.set_cons_succ]
        refine wpAnyH_take (i := 3) (v := .bool true) ov3 (by kernel_rfl) (by kernel_rfl) (by kernel_rfl) (fun _ _ _ h => h) (Or.inl ⟨by rfl, fun V' hS => ?_⟩) hHeld ?_
        · go_simp
        simp only [Act.put, List.setIfInBounds_toArray, List.set_cons_zero, List.set_cons_succ]
        refine wpAnyH_take (i := 4) (v := .bool true) ov4 (by kernel_rfl) (by kernel_rfl) (by kernel_rfl) (fun _ _ _ h => h) (Or.inl ⟨by rfl, fun V' hS => ?_⟩) hHeld ?_
        · go_simp
        simp only [Act.put, List.setIfInBounds_toArray, List.set_cons_zero, List.set_cons_succ]
        refine wpAnyH_take (i := 5) (v := .slice (some ⟨g, 0, none⟩) M M) ov5 (by kernel_rfl) (by kernel_rfl) (by kernel_rfl) (fun _ _ _ h => h) (Or.inl ⟨by rfl, fun V' hS => ?_⟩) hHeld ?_
        · go_simp
        simp only [Act.put, List.setIfInBounds_toArray, List.set_cons_zero, List.set_cons_succ]
        refine wpAnyH_take (i := 6) (v := .int .i64 (i : Int)) ov6 (by kernel_rfl) (by kernel_rfl) (by kernel_rfl) (fun _ _ _ h => h) (Or.inl ⟨by rfl, fun V' hS => ?_⟩) hHeld ?_
        · go_simp
        simp only [Act.put, List.setIfInBounds_toArray, List.set_cons_zero, List.set_cons_succ]
        refine wpAnyH_take (i := 7) (v := .pointer (some ⟨g, i, none⟩)) ov7 (by kernel_rfl) (by kernel_rfl) (by kernel_rfl) (fun _ _ _ h => h) (Or.inl ⟨by rfl, fun V' hS => ?_⟩) hHeld ?_
        · go_simp
        simp only [Act.put, List.setIfInBounds_toArray, List.set_cons_zero, List.set_cons_succ]
        refine wpAnyH_take (i := 8) (v := .int .u8 (y : Int)) ov8 (by kernel_rfl) (by kernel_rfl) (by kernel_rfl) (fun _ _ _ h => h) (Or.inl ⟨by rfl, fun V' hS => ?_⟩) hHeld ?_
        · have c0 := hS.1
          go_simp
        simp only [Act.put, List.setIfInBounds_toArray, List.set_cons_zero, List.set_cons_succ]
        refine wpAnyH_take (i := 9) (v := .slice (some ⟨g2, a2, none⟩) xl cap) ov9 (by kernel_rfl) (by kernel_rfl) (by kernel_rfl) (fun _ _ _ h => h) (Or.inl ⟨by rfl, fun V' hS => ?_⟩) hHeld ?_
        · go_simp
        simp only [Act.put, List.setIfInBounds_toArray, List.set_cons_zero, List.set_cons_succ]
        refine wpAnyH_take (i := 10) (v := .int .i64 (i : Int)) ov10 (by kernel_rfl) (by kernel_rfl) (by kernel_rfl) (fun _ _ _ h => h) (Or.inl ⟨by rfl, fun V' hS => ?_⟩) hHeld ?_
        · go_simp
        simp only [Act.put, List.setIfInBounds_toArray, List.set_cons_zero, List.set_cons_succ]
        refine wpAnyH_take (i := 11) (v := .pointer (some ⟨g2, a2 + i, none⟩)) ov11 (by kernel_rfl) (by kernel_rfl) (by kernel_rfl) (fun _ _ _ h => h) (Or.inl ⟨by rfl, fun V' hS => ?_⟩) hHeld ?_
        · go_simp
        simp only [Act.put, List.setIfInBounds_toArray, List.set_cons_zero, List.set_cons_succ]
        refine wpAnyH_take (i := 12) (v := .int .u8 (y : Int)) ov12 (by kernel_rfl) (by kernel_rfl) (by kernel_rfl) (fun _ _ _ h => h) (Or.inl ⟨by rfl, fun V' hS => ?_⟩) hHeld ?_
        · have c0 := hS.2
          go_simp
        simp only [Act.put, List.setIfInBounds_toArray, List.set_cons_zero, List.set_cons_succ]
        refine wpAnyH_take (i := 13) (v := .bool false) ov13 (by kernel_rfl) (by kernel_rfl) (by kernel_rfl) (fun _ _ _ h => h) (Or.inl ⟨by rfl, fun V' hS => ?_⟩) hHeld ?_
        · go_simp
        simp only [Act.put, List.setIfInBounds_toArray, List.set_cons_zero, List.set_cons_succ]
        refine wpAnyH_take (i := 14) (v := .bool false) ov14 (by kernel_rfl) (by kernel_rfl) (by kernel_rfl) (fun _ _ _ h => h) (Or.inl ⟨by rfl, fun V' hS => ?_⟩) hHeld ?_
        · go_simp
        simp only [Act.put, List.setIfInBounds_toArray, List.set_cons_zero, List.set_cons_succ]
        refine wpAnyH_take (i := 15) (v := .bool false) ov15 (by kernel_rfl) (by kernel_rfl) (by kernel_rfl) (fun _ _ _ h => h) (Or.inl ⟨by rfl, fun V' hS => ?_⟩) hHeld ?_
        · go_simp
        simp only [Act.put, List.setIfInBounds_toArray, List.set_cons_zero, List.set_cons_succ]
        refine wpAnyH_take (i := 16) (v := .int .i64 (i : Int)) ov16 (by kernel_rfl) (by kernel_rfl) (by kernel_rfl) (fun _ _ _ h => h) (Or.inl ⟨by rfl, fun V' hS => ?_⟩) hHeld ?_
        · go_simp
        simp only [Act.put, List.setIfInBounds_toArray, List.set_cons_zero, List.set_cons_succ]
        refine wpAnyH_take (i := 17) (v := .slice (some ⟨g2, a2, none⟩) xl cap) ov17 (by kernel_rfl) (by kernel_rfl) (by kernel_rfl) (fun _ _ _ h => h) (Or.inl ⟨by rfl, fun V' hS => ?_⟩) hHeld ?_
        · go_simp
        simp only [Act.put, List.setIfInBounds_toArray, List.set_cons_zero, List.set_cons_succ]
        refine wpAnyH_take (i := 18) (v := .int .i64 (xl : Int)) ov18 (by kernel_rfl) (by kernel_rfl) (by kernel_rfl) (fun _ _ _ h => h) (Or.inl ⟨by rfl, fun V' hS => ?_⟩) hHeld ?_
        · go_simp
        simp only [Act.put, List.setIfInBounds_toArray, List.set_cons_zero, List.set_cons_succ]
        refine wpAnyH_take (i := 19) (v := .bool false) ov19 (by kernel_rfl) (by kernel_rfl) (by kernel_rfl) (fun _ _ _ h => h) (Or.inl ⟨by rfl, fun V' hS => ?_⟩) hHeld ?_
        · go_simp
        simp only [Act.put, List.setIfInBounds_toArray, List.set_cons_zero, List.set_cons_succ]
        refine wpAnyH_take (i := 20) (v := .bool false) ov20 (by kernel_rfl) (by kernel_rfl) (by kernel_rfl) (fun _ _ _ h => h) (Or.inl ⟨by rfl, fun V' hS => ?_⟩) hHeld ?_
        · go_simp
        simp only [Act.put, List.setIfInBounds_toArray, List.set_cons_zero, List.set_cons_succ]
        refine wpAnyH_take (i := 21) (v := undef) ov21 (by kernel_rfl) (by kernel_rfl) (by kernel_rfl) (fun _ _ _ h => h) (Or.inr ⟨by rfl, rfl⟩) hHeld ?_
        simp only [Act.put, List.setIfInBounds_toArray, List.set_cons_zero, List.set_cons_succ]
        refine wpAnyH_take (i := 22) (v := undef) ov22 (by kernel_rfl) (by kernel_rfl) (by kernel_rfl) (fun _ _ _ h => h) (Or.inr ⟨by rfl, rfl⟩) hHeld ?_
        simp only [Act.put, List.setIfInBounds_toArray, List.set_cons_zero, List.set_cons_succ]
        refine wpAnyH_take (i := 23) (v := undef) ov23 (by kernel_rfl) (by kernel_rfl) (by kernel_rfl) (fun _ _ _ h => h) (Or.inr ⟨by rfl, rfl⟩) hHeld ?_
        simp only [Act.put, List.setIfInBounds_toArray, List.set_cons_zero, List.set_cons_succ]
        refine wpAnyH_take (i := 24) (v := undef) ov24 (by kernel_rfl) (by kernel_rfl) (by kernel_rfl) (fun _ _ _ h => h) (Or.inr ⟨by rfl, rfl⟩) hHeld ?_
        simp only [Act.put, List.setIfInBounds_toArray, List.set_cons_zero, List.set_cons_succ]
        refine wpAnyH_take (i := 25) (v := undef) ov25 (by kernel_rfl) (by kernel_rfl) (by kernel_rfl) (fun _ _ _ h => h) (Or.inr ⟨by rfl, rfl⟩) hHeld ?_
        simp only [Act.put, List.setIfInBounds_toArray, List.set_cons_zero, List.set_cons_succ]
        refine wpAnyH_take (i := 26) (v := undef) ov26 (by kernel_rfl) (by kernel_rfl) (by kernel_rfl) (fun _ _ _ h => h) (Or.inr ⟨by rfl, rfl⟩) hHeld ?_
        simp only [Act.put, List.setIfInBounds_toArray, List.set_cons_zero, List.set_cons_succ]
        refine wpAnyH_take (i := 27) (v := undef) ov27 (by kernel_rfl) (by kernel_rfl) (by kernel_rfl) (fun _ _ _ h => h) (Or.inr ⟨by rfl, rfl⟩) hHeld ?_
        simp only [Act.put, List.setIfInBounds_toArray, List.set_cons_zero, List.set_cons_succ]
        refine wpAnyH_take (i := 28) (v := undef) ov28 (by kernel_rfl) (by kernel_rfl) (by kernel_rfl) (fun _ _ _ h => h) (Or.inr ⟨by rfl, rfl⟩) hHeld ?_
        simp only [Act.put, List.setIfInBounds_toArray, List.set_cons_zero, List.set_cons_succ]
        refine wpAnyH_take (i := 29) (v := undef) ov29 (by kernel_rfl) (by kernel_rfl) (by kernel_rfl) (fun _ _ _ h => h) (Or.inr ⟨by rfl, rfl⟩) hHeld ?_
        simp only [Act.put, List.setIfInBounds_toArray, List.set_cons_zero, List.set_cons_succ]
        refine wpAnyH_take (i := 30) (v := .bool false) ov30 (by kernel_rfl) (by kernel_rfl) (by kernel_rfl) (fun _ _ _ h => h) (Or.inl ⟨by rfl, fun V' hS => ?_⟩) hHeld ?_
        · go_simp
        simp only [Act.put, List.setIfInBounds_toArray, List.set_cons_zero, List.set_cons_succ]
        refine wpAnyH_take (i := 31) (v := .bool false) ov31 (by kernel_rfl) (by kernel_rfl) (by kernel_rfl) (fun _ _ _ h => h) (Or.inl ⟨by rfl, fun V' hS => ?_⟩) hHeld ?_
        · go_simp
        simp only [Act.put, List.setIfInBounds_toArray, List.set_cons_zero, List.set_cons_succ]
        refine wpAnyH_done (by kernel_rfl) ?_ _
        clear hHeld
        go_wp2
        go_roundw
        case rel => exact ⟨i + 1, by first | rfl | go_num, by have := HIM.out; omega, B0.out⟩
        case measure => simp [intOf]; omega
      · obtain ⟨j, hj⟩ : ∃ j, i = xl + j := ⟨i - xl, by omega⟩
        obtain ⟨mk, hmk⟩ : ∃ mk, mk = mark i := ⟨_, rfl⟩
        have c1 : wr.cell? ⟨g, i, none⟩ = some (.int .u8 (mk : Int)) := by
          rw [(HB.out wr B.out).2.cell, hmk, hj, ← HXL.out]
          exact marked_hi (by have := HM.out; have := HIM.out; have := HXL.out; omega)
        obtain ⟨i5, hi5⟩ : ∃ q, q = i * 5 := ⟨_, rfl⟩
        obtain ⟨i6, hi6⟩ : ∃ q, q = i5 + 1 := ⟨_, rfl⟩
        have r1 : (i : Int) * 5 = (i5 : Int) := by omega
        have r2 : (i5 : Int) + 1 = (i6 : Int) := by omega
        have w1 : IntKind.i64.wrap (i5 : Int) = (i5 : Int) := by rw [IntKind.wrap_i64]; have := HM.out; omega
        have w2 : IntKind.i64.wrap (i6 : Int) = (i6 : Int) := by rw [IntKind.wrap_i64]; have := HM.out; omega
        have w3 : IntKind.u8.wrap (i6 : Int) = (mk : Int) := by
          rw [IntKind.wrap_u8, hmk, hi6, hi5]; unfold mark; omega
        have q2 : ¬ (i : Int) < (xl : Int) := by omega
        have q3 : (i : Int) ≥ (xl : Int) := by omega
        have q4 : (xl : Int) ≤ (i : Int) := by omega
        clear e hi ex hj hmk hi5 hi6
        go_upto_region 4 with fail
        refine wp_region_held_drew (S := fun V' => V'.cell? ⟨g, i, none⟩ = some (.int .u8 (mk : Int))) (by kernel_rfl) c1 (fun hHeld => ?_)
        have B0 : Hid (Below bw w wr.drew) := B.out.drew
        clear B
        generalize wr.drew = z0 at hHeld B0 ⊢
        refine wpAnyH_take (i := 0) (v := .int .i64 (i : Int)) ov0 (by kernel_rfl) (by kernel_rfl) (by kernel_rfl) (fun _ _ _ h => h) (Or.inl ⟨by rfl, fun V' hS => ?_⟩) hHeld ?_
        · go_simp
        simp only [Act.put, List.setIfInBounds_toArray, List.set_cons_zero, List.set_cons_succ]
        refine wpAnyH_take (i := 1) (v := .slice ad xl cap) ov1 (by kernel_rfl) (by kernel_rfl) (by kernel_rfl) (fun _ _ _ h => h) (Or.inl ⟨by rfl, fun V' hS => ?_⟩) hHeld ?_
        · go_simp
        simp only [Act.put, List.setIfInBounds_toArray, List.set_cons_zero, List.set_cons_succ]
        refine wpAnyH_take (i := 2) (v := .int .i64 (xl : Int)) ov2 (by kernel_rfl) (by kernel_rfl) (by kernel_rfl) (fun _ _ _ h => h) (Or.inl ⟨by rfl, fun V' hS => ?_⟩) hHeld ?_
        · go_simp
        simp only [Act.put, List.setIfInBounds_toArray, List.set_cons_zero, List.set_cons_succ]
        refine wpAnyH_take (i := 3) (v := .bool false) ov3 (by kernel_rfl) (by kernel_rfl) (by kernel_rfl) (fun _ _ _ h => h) (Or.inl ⟨by rfl, fun V' hS => ?_⟩) hHeld ?_
        · go_simp
        simp only [Act.put, List.setIfInBounds_toArray, List.set_cons_zero, List.set_cons_succ]
        refine wpAnyH_take (i := 4) (v := .bool false) ov4 (by kernel_rfl) (by kernel_rfl) (by kernel_rfl) (fun _ _ _ h => h) (Or.inl ⟨by rfl, fun V' hS => ?_⟩) hHeld ?_
        · go_simp
        simp only [Act.put, List.setIfInBounds_toArray, List.set_cons_zero, List.set_cons_succ]
        refine wpAnyH_take (i := 5) (v := undef) ov5 (by kernel_rfl) (by kernel_rfl) (by kernel_rfl) (fun _ _ _ h => h) (Or.inr ⟨by rfl, rfl⟩) hHeld ?_
        simp only [Act.put, List.setIfInBounds_toArray, List.set_cons_zero, List.set_cons_succ]
        refine wpAnyH_take (i := 6) (v := undef) ov6 (by kernel_rfl) (by kernel_rfl) (by kernel_rfl) (fun _ _ _ h => h) (Or.inr ⟨by rfl, rfl⟩) hHeld ?_
        simp only [Act.put, List.setIfInBounds_toArray, List.set_cons_zero, List.set_cons_succ]
        refine wpAnyH_take (i := 7) (v := undef) ov7 (by kernel_rfl) (by kernel_rfl) (by kernel_rfl) (fun _ _ _ h => h) (Or.inr ⟨by rfl, rfl⟩) hHeld ?_
        simp only [Act.put, List.setIfInBounds_toArray, List.set_cons_zero, List.set_cons_succ]
        refine wpAnyH_take (i := 8) (v := undef) ov8 (by kernel_rfl) (by kernel_rfl) (by kernel_rfl) (fun _ _ _ h => h) (Or.inr ⟨by rfl, rfl⟩) hHeld ?_
        simp only [Act.put, List.setIfInBounds_toArray, List.set_cons_zero, List.set_cons_succ]
        refine wpAnyH_take (i := 9) (v := undef) ov9 (by kernel_rfl) (by kernel_rfl) (by kernel_rfl) (fun _ _ _ h => h) (Or.inr ⟨by rfl, rfl⟩) hHeld ?_
        simp only [Act.put, List.setIfInBounds_toArray, List.set_cons_zero, List.set_cons_succ]
        refine wpAnyH_take (i := 10) (v := undef) ov10 (by kernel_rfl) (by kernel_rfl) (by kernel_rfl) (fun _ _ _ h => h) (Or.inr ⟨by rfl, rfl⟩) hHeld ?_
        simp only [Act.put, List.setIfInBounds_toArray, List.set_cons_zero, List.set_cons_succ]
        refine wpAnyH_take (i := 11) (v := undef) ov11 (by kernel_rfl) (by kernel_rfl) (by kernel_rfl) (fun _ _ _ h => h) (Or.inr ⟨by rfl, rfl⟩) hHeld ?_
        simp only [Act.put, List.setIfInBounds_toArray, List.set_cons_zero, List.set_cons_succ]
        refine wpAnyH_take (i := 12) (v := undef) ov12 (by kernel_rfl) (by kernel_rfl) (by kernel_rfl) (fun _ _ _ h => h) (Or.inr ⟨by rfl, rfl⟩) hHeld ?_
        simp only [Act.put, List.setIfInBounds_toArray, List.set_cons_zero, List.set_cons_succ]
        refine wpAnyH_take (i := 13) (v := undef) ov13 (by kernel_rfl) (by kernel_rfl) (by kernel_rfl) (fun _ _ _ h => h) (Or.inr ⟨by rfl, rfl⟩) hHeld ?_
        simp only [Act.put, List.setIfInBounds_toArray, List.set_cons_zero, List.set_cons_succ]
        refine wpAnyH_take (i := 14) (v := .bool false) ov14 (by kernel_rfl) (by kernel_rfl) (by kernel_rfl) (fun _ _ _ h => h) (Or.inl ⟨by rfl, fun V' hS => ?_⟩) hHeld ?_
        · go_simp
        simp only [Act.put, List.setIfInBounds_toArray, List.set_cons_zero, List.set_cons_succ]
        refine wpAnyH_take (i := 15) (v := .bool false) ov15 (by kernel_rfl) (by kernel_rfl) (by kernel_rfl) (fun _ _ _ h => h) (Or.inl ⟨by rfl, fun V' hS => ?_⟩) hHeld ?_
        · go_simp
        simp only [Act.put, List.setIfInBounds_toArray, List.set_cons_zero, List.set_cons_succ]
        refine wpAnyH_take (i := 16) (v := .int .i64 (i : Int)) ov16 (by kernel_rfl) (by kernel_rfl) (by kernel_rfl) (fun _ _ _ h => h) (Or.inl ⟨by rfl, fun V' hS => ?_⟩) hHeld ?_
        · go_simp
        simp only [Act.put, List.setIfInBounds_toArray, List.set_cons_zero, List.set_cons_succ]
        refine wpAnyH_take (i := 17) (v := .slice ad xl cap) ov17 (by kernel_rfl) (by kernel_rfl) (by kernel_rfl) (fun _ _ _ h => h) (Or.inl ⟨by rfl, fun V' hS => ?_⟩) hHeld ?_
        · go_simp
        simp only [Act.put, List.setIfInBounds_toArray, List.set_cons_zero, List.set_cons_succ]
        refine wpAnyH_take (i := 18) (v := .int .i64 (xl : Int)) ov18 (by kernel_rfl) (by kernel_rfl) (by kernel_rfl) (fun _ _ _ h => h) (Or.inl ⟨by rfl, fun V' hS => ?_⟩) hHeld ?_
        · go_simp
        simp only [Act.put, List.setIfInBounds_toArray, List.set_cons_zero, List.set_cons_succ]
        refine wpAnyH_take (i := 19) (v := .bool true) ov19 (by kernel_rfl) (by kernel_rfl) (by kernel_rfl) (fun _ _ _ h => h) (Or.inl ⟨by rfl, fun V' hS => ?_⟩) hHeld ?_
        · go_simp
        simp only [Act.put, List.setIfInBounds_toArray, List.set_cons_zero, List.set_cons_succ]
        refine wpAnyH_take (i := 20) (v := .bool true) ov20 (by kernel_rfl) (by kernel_rfl) (by kernel_rfl) (fun _ _ _ h => h) (Or.inl ⟨by rfl, fun V' hS => ?_⟩) hHeld ?_
        · go_simp
        simp only [Act.put, List.setIfInBounds_toArray, List.set_cons_zero, List.set_cons_succ]
        refine wpAnyH_take (i := 21) (v := .slice (some ⟨g, 0, none⟩) M M) ov21 (by kernel_rfl) (by kernel_rfl) (by kernel_rfl) (fun _ _ _ h => h) (Or.inl ⟨by rfl, fun V' hS => ?_⟩) hHeld ?_
        · go_simp
        simp only [Act.put, List.setIfInBounds_toArray, List.set_cons_zero, List.set_cons_succ]
        refine wpAnyH_take (i := 22) (v := .int .i64 (i : Int)) ov22 (by kernel_rfl) (by kernel_rfl) (by kernel_rfl) (fun _ _ _ h => h) (Or.inl ⟨by rfl, fun V' hS => ?_⟩) hHeld ?_
        · go_simp
        simp only [Act.put, List.setIfInBounds_toArray, List.set_cons_zero, List.set_cons_succ]
        refine wpAnyH_take (i := 23) (v := .pointer (some ⟨g, i, none⟩)) ov23 (by kernel_rfl) (by kernel_rfl) (by kernel_rfl) (fun _ _ _ h => h) (Or.inl ⟨by rfl, fun V' hS => ?_⟩) hHeld ?_
        · go_simp
        simp only [Act.put, List.setIfInBounds_toArray, List.set_cons_zero, List.set_cons_succ]
        refine wpAnyH_take (i := 24) (v := .int .u8 (mk : Int)) ov24 (by kernel_rfl) (by kernel_rfl) (by kernel_rfl) (fun _ _ _ h => h) (Or.inl ⟨by rfl, fun V' hS => ?_⟩) hHeld ?_
        · have c0 := hS
          go_simp
        simp only [Act.put, List.setIfInBounds_toArray, List.set_cons_zero, List.set_cons_succ]
        refine wpAnyH_take (i := 25) (v := .int .i64 (i : Int)) ov25 (by kernel_rfl) (by kernel_rfl) (by kernel_rfl) (fun _ _ _ h => h) (Or.inl ⟨by rfl, fun V' hS => ?_⟩) hHeld ?_
        · go_simp
        simp only [Act.put, List.setIfInBounds_toArray, List.set_cons_zero, List.set_cons_succ]
        refine wpAnyH_take (i := 26) (v := .int .i64 (i5 : Int)) ov26 (by kernel_rfl) (by kernel_rfl) (by kernel_rfl) (fun _ _ _ h => h) (Or.inl ⟨by rfl, fun V' hS => ?_⟩) hHeld ?_
        · go_simp
        simp only [Act.put, List.setIfInBounds_toArray, List.set_cons_zero, List.set_cons_succ]
        refine wpAnyH_take (i := 27) (v := .int .i64 (i6 : Int)) ov27 (by kernel_rfl) (by kernel_rfl) (by kernel_rfl) (fun _ _ _ h => h) (Or.inl ⟨by rfl, fun V' hS => ?_⟩) hHeld ?_
        · go_simp
        simp only [Act.put, List.setIfInBounds_toArray, List.set_cons_zero, List.set_cons_succ]
        refine wpAnyH_take (i := 28) (v := .int .u8 (mk : Int)) ov28 (by kernel_rfl) (by kernel_rfl) (by kernel_rfl) (fun _ _ _ h => h) (Or.inl ⟨by rfl, fun V' hS => ?_⟩) hHeld ?_
        · go_simp
        simp only [Act.put, List.setIfInBounds_toArray, List.set_cons_zero, List.set_cons_succ]
        refine wpAnyH_take (i := 29) (v := .bool false) ov29 (by kernel_rfl) (by kernel_rfl) (by kernel_rfl) (fun _ _ _ h => h) (Or.inl ⟨by rfl, fun V' hS => ?_⟩) hHeld ?_
        · go_simp
        simp only [Act.put, List.setIfInBounds_toArray, List.set_cons_zero, List.set_cons_succ]
        refine wpAnyH_take (i := 30) (v := .bool false) ov30 (by kernel_rfl) (by kernel_rfl) (by kernel_rfl) (fun _ _ _ h => h) (Or.inl ⟨by rfl, fun V' hS => ?_⟩) hHeld ?_
        · go_simp
        simp only [Act.put, List.setIfInBounds_toArray, List.set_cons_zero, List.set_cons_succ]
        refine wpAnyH_take (i := 31) (v := .bool false) ov31 (by kernel_rfl) (by kernel_rfl) (by kernel_rfl) (fun _ _ _ h => h) (Or.inl ⟨by rfl, fun V' hS => ?_⟩) hHeld ?_
        · go_simp
        simp only [Act.put, List.setIfInBounds_toArray, List.set_cons_zero, List.set_cons_succ]
        refine wpAnyH_done (by kernel_rfl) ?_ _
        clear hHeld
        go_wp2
        go_roundw
        case rel => exact ⟨i + 1, by first | rfl | go_num, by have := HIM.out; omega, B0.out⟩
        case measure => simp [intOf]; omega
end Go.Proofs.Ytndhabhlajldeaa
/- What both Parses answer, in one form; bytes of one's own that are written over. -/
namespace Go.Proofs.Ytndhabhlajldeaa
open Go.RowKit
/-- the container that is told, the refusal that is told -/
def conOf : Except Er Con → Con
  | .ok c => c
  | .error _ => con0
def rjOf : Except Er Con → Int × Int
  | .ok _ => (0, 0)
  | .error (c, a) => (c, a)
theorem prs_fits {b : List Nat} (hb : Byt b) {opn : Bool} {c : Con} (g : prs b opn = .ok c) : c.ts.length ≤ 1024 ∧ c.cs.length ≤ 1024 ∧ c.ss.length ≤ 256 ∧ c.d.length ≤ 65535 ∧ (∀ x ∈ c.cs, x.length ≤ 65535) ∧ ∀ x ∈ c.ss, x.length ≤ 4294967295 := by
  have M := (prs_ok hb g).1
  have h1 := M.z1
  have h2 := M.z2
  exact ⟨by rw [M.nt]; exact M.n2, M.n2, M.ns, by omega, fun x hx => (chkP_ok _ _ M.pc x hx).2, fun x hx => (chkP_ok _ _ M.ps x hx).2⟩
theorem cw_form {P : Nat → Prop} {W : World} {v : Value} {c : Con} (h : CW P W v c) : ∃ ta tc ca cc sa sc da dc, v = .agg #[.slice ta c.ts.length tc, .slice ca c.cs.length cc, .slice sa c.ss.length sc, .slice da c.d.length dc, .int .i64 c.n] := by
  obtain ⟨tv, cv, sv, dv, rfl, h1, h2, h3, h4⟩ := h
  obtain ⟨ta, tc, rfl, _⟩ := h1.len
  obtain ⟨ca, cc, rfl, _⟩ := h2.len
  obtain ⟨sa, sc, rfl, _⟩ := h3.len
  obtain ⟨da, dc, rfl, _⟩ := h4.len
  exact ⟨ta, tc, ca, cc, sa, sc, da, dc, rfl⟩
/-- an answer, in one form -/
def Ans (B : Nat) (c : Con) (x y : Int) (e : Ending) (w' : World) : Prop := ∃ ta tc ca cc sa sc da dc, e = .returned (.tuple #[.agg #[.slice ta c.ts.length tc, .slice ca c.cs.length cc, .slice sa c.ss.length sc, .slice da c.d.length dc, .int .i64 c.n], .agg #[.int .i64 x, .slice none 0 0, .int .i64 0, .int .i64 y]]) ∧ CW (fun g => B ≤ g) w' (.agg #[.slice ta c.ts.length tc, .slice ca c.cs.length cc, .slice sa c.ss.length sc, .slice da c.d.length dc, .int .i64 c.n]) c
theorem PrD.ans {B : Nat} {r : Except Er Con} {e : Ending} {w' : World} (h : PrD B r e w') : Ans B (conOf r) (rjOf r).1 (rjOf r).2 e w' := by
  cases r with
  | ok c =>
    obtain ⟨v, e9, hw⟩ := h
    obtain ⟨ta, tc, ca, cc, sa, sc, da, dc, rfl⟩ := cw_form hw
    exact ⟨ta, tc, ca, cc, sa, sc, da, dc, e9, hw⟩
  | error er =>
    obtain ⟨ec, ea⟩ := er
    exact ⟨none, 0, none, 0, none, 0, none, 0, h, CW.zero _ _⟩
theorem PrA.ans {B : Nat} {b : List Nat} (hb : Byt b) {opn : Bool} {e : Ending} {w' : World} (h : PrA B (prs b opn) e w') : Ans B (conOf (prs b opn)) (rjOf (prs b opn)).1 (rjOf (prs b opn)).2 e w' := by
  refine PrD.ans ?_
  cases hr : prs b opn with
  | ok c =>
    rw [hr] at h
    obtain ⟨v, e9, hco⟩ := h
    obtain ⟨f1, f2, f3, f4, f5, f6⟩ := prs_fits hb hr
    exact ⟨v, e9, hco.cw (by omega) (by omega) (by omega) (by omega) (fun x hx => Nat.le_trans (f5 x hx) (by omega)) (fun x hx => Nat.le_trans (f6 x hx) (by omega))⟩
  | error er =>
    rw [hr] at h
    obtain ⟨ec, ea⟩ := er
    exact h
theorem parse_ans {P : Nat → Prop} (w : World) (v : Value) (b : List Nat) (opn : Bool) (h : BL P w v b) (hb : Byt b) (hl : b.length ≤ 16777216) :
    Calls Try.prog 31 #[v, .bool opn] w fun e w' => Ans w.heap.size (conOf (prs b opn)) (rjOf (prs b opn)).1 (rjOf (prs b opn)).2 e w' ∧ Below w.heap.size w w' :=
  (parse_is w v b opn h hb hl).mono fun _ _ q => ⟨PrA.ans hb q.1, q.2⟩
theorem rparse_ans {P : Nat → Prop} (w : World) (v : Value) (b : List Nat) (opn : Bool) (h : BL P w v b) (hb : Byt b) (hl : b.length ≤ 16777216) :
    Calls Try.prog 33 #[v, .bool opn] w fun e w' => Ans w.heap.size (conOf (prs b opn)) (rjOf (prs b opn)).1 (rjOf (prs b opn)).2 e w' ∧ Below w.heap.size w w' :=
  (rparse_is w v b opn h hb hl).mono fun _ _ q => ⟨q.1.ans, q.2⟩
/-- a beginning of a row in a block -/
theorem BL.head {W : World} {g M : Nat} {l : List Value} {x : List Nat} (h : CBox W g 5 l) (hx : ∀ (i : Nat) (c : Value), (bV x)[i]? = some c → l[i]? = some c) (hM : x.length ≤ M) (hl : x.length ≤ 1152921504606846976) : BL (fun k => k = g) W (.slice (some ⟨g, 0, none⟩) x.length M) x :=
  ⟨by rw [bV_len, Nat.mul_one], _, M, rfl, hM, hl, fun e => (by cases e), fun _ => ⟨g, 0, rfl, rfl, h.lt, fun i c hc => by rw [Nat.zero_add, h.cell]; exact hx i c hc⟩⟩
theorem slice_j (g n cap j : Nat) (hj : j ≤ cap) (W : World) : Sem.run Try.prog (Instr.slice 22 (.slice (some ⟨g, 0, none⟩) n cap) none (some (.int .i64 (j : Int))) none) W = .ok (.slice (some ⟨g, 0, none⟩) j cap) W := by
  simp [Instr.slice, Instr.sliceBounds, run_underlying Try.underlying22, run_sliceBound W .i64 (j : Int) cap _ (by omega) (by omega), Addr.add_mid]
theorem xor8 (x : Nat) : ∃ y : Nat, y < 256 ∧ bits .xor .u8 (x : Int) 3 = (y : Int) := by
  have h : bits .xor .u8 (x : Int) 3 = IntKind.u8.wrap (((BitVec.ofInt 8 (x : Int) ^^^ BitVec.ofInt 8 3).toNat : Nat) : Int) := rfl
  rw [h, IntKind.wrap_u8]
  exact ⟨((((BitVec.ofInt 8 (x : Int) ^^^ BitVec.ofInt 8 3).toNat : Nat) : Int) % 256).toNat, by omega, by omega⟩
end Go.Proofs.Ytndhabhlajldeaa
