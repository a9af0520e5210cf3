/- GasExps: the walk. -/
import Derived.Test.YtpgjchkfglkgcaaUk
namespace Go.Proofs.Ytpgjchkfglkgcaa
open Go.RowKit
theorem NB.ex (x0 x1 x2 x3 : Int) : ∀ i, ∃ n, NB x0 x1 x2 x3 n i
  | 0 => ⟨0, NB.zero _ _ _ _⟩
  | i + 1 => by
    obtain ⟨n, h⟩ := NB.ex x0 x1 x2 x3 i
    by_cases e : byt x0 x1 x2 x3 i = 0
    · exact ⟨n, h.no e⟩
    · exact ⟨i + 1, h.yes e⟩
theorem NB.uniq {x0 x1 x2 x3 : Int} {n m i : Nat} (h : NB x0 x1 x2 x3 n i) (k : NB x0 x1 x2 x3 m i) : n = m := by
  rcases Nat.lt_trichotomy n m with c | c | c
  · exact absurd (h.2.2 (m - 1) (by omega) (by have := k.1; omega)) (k.2.1 (by omega))
  · exact c
  · exact absurd (k.2.2 (n - 1) (by omega) (by have := h.1; omega)) (h.2.1 (by omega))
theorem nb256 : NB 256 0 0 0 2 32 := by
  refine ⟨by omega, fun _ => by decide, fun j a b => ?_⟩
  have h : ∀ k : Fin 32, 2 ≤ k.val → byt 256 0 0 0 k.val = 0 := by decide
  exact h ⟨j, b⟩ a
def w256 : W4 := ⟨256, 0, 0, 0⟩
structure Bw1 (w W : World) (b0 : Nat) (x : W4) : Prop where
  w0 : Wd W b0 0 x
  bel : Below w.heap.size w W
theorem Bw1.past {w W W' : World} {b0 : Nat} {x : W4} (h : Bw1 w W b0 x) (k : Below W.heap.size W W') : Bw1 w W' b0 x := ⟨h.w0.past k, h.bel.trans (k.mono h.bel.size)⟩
set_option maxHeartbeats 4000000 in
set_option maxRecDepth 100000 in
theorem gasExps_core (w : World) (x : W4) (A : Int) (M : Hid (∀ W, Calls Try.prog 24 #[x.v] W fun e w' => e = .returned (.int .u64 A) ∧ Below W.heap.size W w')) (R : Hid (∀ W, Calls Try.prog 25 #[x.v] W fun e w' => e = .returned (.int .u64 A) ∧ Below W.heap.size W w')) (L : Hid (∀ W, Calls Try.prog 24 #[w256.v] W fun e w' => e = .returned (.int .u64 100) ∧ Below W.heap.size W w')) : Calls Try.prog 4 #[x.v] w fun e w' => e = .returned (.bool true) ∧ Below w.heap.size w w' := by
  unfold W4.v
  go_enter Try.func4, Try.ntmps4
  go_upto_region 1 with fail
  obtain ⟨v, hv⟩ : ∃ v, v = w.alloc (.cells #[.int .u64 x.a, .int .u64 x.b, .int .u64 x.c, .int .u64 x.d] 27) := ⟨_, rfl⟩
  rw [← hv]
  have HB : Hid (Bw1 w v w.heap.size x) := by rw [hv]; exact ⟨Wd.new w 27 x, (Below.refl _ _).alloc (Nat.le_refl _) _⟩
  clear hv
  generalize hbx : w.heap.size = bx at HB ⊢
  clear hbx
  refine wp_region_lit ?_
  refine lst_val (v := .agg #[.int .u64 x.a, .int .u64 x.b, .int .u64 x.c, .int .u64 x.d]) (by rfl) ?_ ?_
  · obtain ⟨c0, c1, c2, c3, _⟩ := HB.out.w0
    go_simp
  simp only [Act.put, List.setIfInBounds_toArray, List.set_cons_zero, List.set_cons_succ]
  refine lst_call (by rfl) (by first | (go_simp; done) | (go_simp; first | exact rfl | exact ⟨rfl, rfl⟩ | exact ⟨rfl, rfl, rfl⟩)) (M.out _) ?_
  rintro e v1 ⟨rfl, hB⟩
  refine ⟨_, rfl, ?_⟩
  replace HB : Hid (Bw1 w v1 bx x) := HB.out.past hB
  clear hB
  clear v
  generalize v1 = v at HB ⊢
  clear v1
  simp only [Act.put, List.setIfInBounds_toArray, List.set_cons_zero, List.set_cons_succ]
  refine lst_val (v := .int .u64 A) (by rfl) ?_ ?_
  · go_simp
  simp only [Act.put, List.setIfInBounds_toArray, List.set_cons_zero, List.set_cons_succ]
  refine wpList_nil ?_
  go_upto_region 2 with fail
  refine wp_region_lit ?_
  refine lst_val (v := .agg #[.int .u64 256, .int .u64 0, .int .u64 0, .int .u64 0]) (by rfl) ?_ ?_
  · go_simp
  simp only [Act.put, List.setIfInBounds_toArray, List.set_cons_zero, List.set_cons_succ]
  refine lst_call (by rfl) (by first | (go_simp; done) | (go_simp; first | exact rfl | exact ⟨rfl, rfl⟩ | exact ⟨rfl, rfl, rfl⟩)) (L.out _) ?_
  rintro e v1 ⟨rfl, hB⟩
  refine ⟨_, rfl, ?_⟩
  replace HB : Hid (Bw1 w v1 bx x) := HB.out.past hB
  clear hB
  clear v
  generalize v1 = v at HB ⊢
  clear v1
  simp only [Act.put, List.setIfInBounds_toArray, List.set_cons_zero, List.set_cons_succ]
  refine lst_val (v := .int .u64 100) (by rfl) ?_ ?_
  · go_simp
  simp only [Act.put, List.setIfInBounds_toArray, List.set_cons_zero, List.set_cons_succ]
  refine wpList_nil ?_
  go_upto_region 3 with fail
  refine wp_region_lit ?_
  refine lst_val (v := .int .u64 A) (by rfl) ?_ ?_
  · go_simp
  simp only [Act.put, List.setIfInBounds_toArray, List.set_cons_zero, List.set_cons_succ]
  refine lst_val (v := .agg #[.int .u64 x.a, .int .u64 x.b, .int .u64 x.c, .int .u64 x.d]) (by rfl) ?_ ?_
  · obtain ⟨c0, c1, c2, c3, _⟩ := HB.out.w0
    go_simp
  simp only [Act.put, List.setIfInBounds_toArray, List.set_cons_zero, List.set_cons_succ]
  refine lst_call (by rfl) (by first | (go_simp; done) | (go_simp; first | exact rfl | exact ⟨rfl, rfl⟩ | exact ⟨rfl, rfl, rfl⟩)) (R.out _) ?_
  rintro e v1 ⟨rfl, hB⟩
  refine ⟨_, rfl, ?_⟩
  replace HB : Hid (Bw1 w v1 bx x) := HB.out.past hB
  clear hB
  clear v
  generalize v1 = v at HB ⊢
  clear v1
  simp only [Act.put, List.setIfInBounds_toArray, List.set_cons_zero, List.set_cons_succ]
  refine lst_val (v := .bool true) (by rfl) ?_ ?_
  · go_simp
  simp only [Act.put, List.setIfInBounds_toArray, List.set_cons_zero, List.set_cons_succ]
  refine lst_val (v := .bool true) (by rfl) ?_ ?_
  · go_simp
  simp only [Act.put, List.setIfInBounds_toArray, List.set_cons_zero, List.set_cons_succ]
  refine lst_val (v := .int .u64 100) (by rfl) ?_ ?_
  · go_simp
  simp only [Act.put, List.setIfInBounds_toArray, List.set_cons_zero, List.set_cons_succ]
  refine lst_val (v := .bool true) (by rfl) ?_ ?_
  · go_simp
  simp only [Act.put, List.setIfInBounds_toArray, List.set_cons_zero, List.set_cons_succ]
  refine lst_val (v := .bool true) (by rfl) ?_ ?_
  · go_simp
  simp only [Act.put, List.setIfInBounds_toArray, List.set_cons_zero, List.set_cons_succ]
  refine lst_val (v := .bool true) (by rfl) ?_ ?_
  · go_simp
  simp only [Act.put, List.setIfInBounds_toArray, List.set_cons_zero, List.set_cons_succ]
  refine wpList_nil ?_
  go_wp2
  go_ret
  exact ⟨rfl, HB.out.bel⟩
theorem gasExps_walk (w : World) (a0 a1 a2 a3 : Int) {x : Int} (h : IsW x a0 a1 a2 a3) : Calls Try.prog 4 #[.agg #[.int .u64 a0, .int .u64 a1, .int .u64 a2, .int .u64 a3]] w fun e w' => e = .returned (.bool true) ∧ Below w.heap.size w w' := by
  have hx := h.self
  obtain ⟨n, hn⟩ := NB.ex a0 a1 a2 a3 32
  refine gasExps_core w ⟨a0, a1, a2, a3⟩ (50 * (n : Int)) (fun W => exp_is a0 a1 a2 a3 W n hx hn) (fun W => (expR_is a0 a1 a2 a3 W hx).mono ?_) (fun W => exp_is 256 0 0 0 W 2 (isW_lit 256 (by omega) (by omega)).self nb256)
  rintro e w' ⟨m, rfl, hm, hB⟩
  rw [hn.uniq hm]
  exact ⟨rfl, hB⟩
end Go.Proofs.Ytpgjchkfglkgcaa
