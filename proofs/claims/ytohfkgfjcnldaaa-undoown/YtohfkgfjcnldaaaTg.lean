/- Package undo: insert, note, Mark, drop, remove. -/
import Derived.Test.YtohfkgfjcnldaaaTf
namespace Go.Proofs.Ytohfkgfjcnldaaa
open Go.RowKit
theorem Fresh.mono {w w2 : World} {ad ad' : Option Addr} (h : Fresh w2 ad ad') (k : w.heap.size ≤ w2.heap.size) : Fresh w ad ad' := by
  rcases h with rfl | ⟨g, rfl, hg⟩
  · exact Or.inl rfl
  · exact Or.inr ⟨g, rfl, by omega⟩
theorem cell_alloc {W : World} {o : Obj} {p : Addr} {v : Value} (h : W.cell? p = some v) : (W.alloc o).cell? p = some v := by
  rw [← h]
  exact World.cell?_of_block (w := W) (Below.heap_alloc W o p.block (World.block_lt_of_cell? W p h))
theorem cell_set {W : World} {a p : Addr} {u v : Value} (hn : p.block ≠ a.block) (h : W.cell? p = some v) : (W.setCell a u).cell? p = some v := by
  rw [← h]
  exact World.cell?_of_block (w := W) (Below.heap_setCell W a u p.block hn)
theorem mksD_snoc (M : List Nat) (x : Nat) : mksD (M ++ [x]) = mksD M ++ [.int .i64 (x : Int)] := by simp [mksD]
theorem mksD_take (M : List Nat) (k : Nat) : (mksD M).take k = mksD (M.take k) := by simp [mksD, List.map_take]
set_option maxHeartbeats 2000000 in
set_option maxRecDepth 100000 in
theorem insert_is (w : World) (b pm : Nat) (ra : Option Addr) (rc : Nat) (ba : Option Addr) (bc : Nat) (ma : Option Addr) (mc n : Nat) (m : Int → Option Nat) (L : List (Int × Int)) (U : List Value) (M : List Nat) (h : Tab0 w b pm ra rc ba bc ma mc n m L U M) (i : Nat) (p r : Int × Int) (hp : (L ++ [r])[i]? = some p) (kp : I64 p.1) (kr : I64 r.1) (hL : L.length < 549755813888) (hn : n < 1099511627776) :
    Calls Try.prog 70 #[.pointer (some ⟨b, 0, none⟩), .int .i64 (i : Int), .agg #[.int .i64 r.1, .int .i64 r.2]] w fun e w' => e = .returned (.tuple #[]) ∧ ∃ ra' rc', Tab0 w' b pm ra' rc' ba bc ma mc (stepN (stepN n m r.1) (upd m r.1 (some i)) p.1) (upd (upd m r.1 (some i)) p.1 (some L.length)) (swapL (L ++ [r]) i L.length p r) U M ∧ But (TS b pm ra ba ma) w w' ∧ Grown (TS b pm ra ba ma) (TS b pm ra' ba ma) w := by
  obtain ⟨w1, ew⟩ : ∃ w1, w.alloc (.cells #[.int .i64 r.1, .int .i64 r.2] 112) = w1 := ⟨_, rfl⟩
  have X1 : Hid (CBox w1 w.heap.size 112 [.int .i64 r.1, .int .i64 r.2]) := by rw [← ew]; exact CBox.new w _ _
  have H1 : Hid (Tab0 w1 b pm ra rc ba bc ma mc n m L U M) := by rw [← ew]; exact h.alloc _
  have Y1 : Hid (But (Own ra) w w1) := by rw [← ew]; exact (But.refl _ _).alloc _
  have H0 : Hid (Tab0 w b pm ra rc ba bc ma mc n m L U M) := h
  have HP : Hid ((L ++ [r])[i]? = some p ∧ I64 p.1 ∧ I64 r.1 ∧ L.length < 549755813888 ∧ n < 1099511627776) := ⟨hp, kp, kr, hL, hn⟩
  have c0 := H1.out.c0
  obtain ⟨nn, en⟩ : ∃ nn, L.length = nn := ⟨_, rfl⟩
  have EN : Hid (L.length = nn) := en
  have lX : (nn : Int) ≤ 549755813888 := by omega
  obtain ⟨bx, ex⟩ : ∃ bx, w.heap.size = bx := ⟨_, rfl⟩
  have EX : Hid (w.heap.size = bx) := ex
  rw [ex] at X1
  rw [en] at c0
  clear h hp kp kr hL hn
  go_enter Try.func70, Try.ntmps70
  go_upto_region 2 with fail
  clear ew en ex
  have HZ : Hid (Tab0 w1.drew b pm ra rc ba bc ma mc n m L U M) := H1.out.drew
  have HY : Hid (But (Own ra) w w1.drew) := Y1.out.drew
  have C0 : Hid (w1.drew.cell? ⟨b, 0, none⟩ = some (.slice ra nn rc)) := c0
  have hh : w1.drew.cell? ⟨bx, 0, none⟩ = some (.int .i64 r.1) ∧ w1.drew.cell? ⟨bx, 1, none⟩ = some (.int .i64 r.2) := ⟨X1.out.cell 0, X1.out.cell 1⟩
  have NX : Hid (¬ Own ra bx) := by
    rintro ⟨a, e, e2⟩
    have := row_own_lt H0.out.rows ⟨a, e, rfl⟩
    rw [EX.out, e2] at this
    omega
  have NB : Hid (bx ≠ b) := by
    have := H0.out.box.lt
    rw [EX.out] at this
    show bx ≠ b
    omega
  refine wp_region_held_drew (S := fun V' => V'.cell? ⟨bx, 0, none⟩ = some (.int .i64 r.1) ∧ V'.cell? ⟨bx, 1, none⟩ = some (.int .i64 r.2)) (by kernel_rfl) hh (fun hHeld => ?_)
  generalize w1.drew = z0 at hHeld HZ HY C0 ⊢
  clear hh c0
  refine wpAnyH_take (i := 0) (v := .pointer (some ⟨b, 0, none⟩)) ov0 (by kernel_rfl) (by kernel_rfl) (by kernel_rfl) (fun _ _ _ h => h) (Or.inl ⟨by rfl, fun V' hS => ?_⟩) hHeld ?_
  · go_simp
  simp only [Act.put, List.setIfInBounds_toArray, List.set_cons_zero, List.set_cons_succ]
  refine wpAnyH_take (i := 1) (v := .pointer (some ⟨b, 0, none⟩)) ov1 (by kernel_rfl) (by kernel_rfl) (by kernel_rfl) (fun _ _ _ h => h) (Or.inl ⟨by rfl, fun V' hS => ?_⟩) hHeld ?_
  · go_simp
  simp only [Act.put, List.setIfInBounds_toArray, List.set_cons_zero, List.set_cons_succ]
  refine wpAnyH_take (i := 2) (v := .pointer (some ⟨b, 0, none⟩)) ov2 (by kernel_rfl) (by kernel_rfl) (by kernel_rfl) (fun _ _ _ h => h) (Or.inl ⟨by rfl, fun V' hS => ?_⟩) hHeld ?_
  · go_simp
  simp only [Act.put, List.setIfInBounds_toArray, List.set_cons_zero, List.set_cons_succ]
  refine wpAnyH_take (i := 3) (v := .pointer (some ⟨b, 0, none⟩)) ov3 (by kernel_rfl) (by kernel_rfl) (by kernel_rfl) (fun _ _ _ h => h) (Or.inl ⟨by rfl, fun V' hS => ?_⟩) hHeld ?_
  · go_simp
  simp only [Act.put, List.setIfInBounds_toArray, List.set_cons_zero, List.set_cons_succ]
  refine wpAnyH_take (i := 5) (v := .agg #[.int .i64 r.1, .int .i64 r.2]) ov5 (by kernel_rfl) (by kernel_rfl) (by kernel_rfl) (fun _ _ _ h => h) (Or.inl ⟨by rfl, fun V' hS => ?_⟩) hHeld ?_
  · obtain ⟨s1, s2⟩ := hS
    go_simp
  simp only [Act.put, List.setIfInBounds_toArray, List.set_cons_zero, List.set_cons_succ]
  refine wpAnyH_ready (rs := [4, 6]) (by kernel_rfl) (by simp) ?_
  refine AllReadyH.cons ov4 (fun K hK => ?_) (AllReadyH.cons ov6 (fun K hK => ?_) AllReadyH.nil)
  · rw [if_pos (by rfl)]
    first | (have k0 := C2.out; go_simp; clear k0) | (have k0 := C0.out; go_simp; clear k0)
    refine hK.out _ _ hHeld (fun _ => ?_)
    clear hK K
    (try simp only [Act.put, List.setIfInBounds_toArray, List.set_cons_zero, List.set_cons_succ])
    refine wpAnyH_ready (rs := [6]) (by kernel_rfl) (by simp) ?_
    refine AllReadyH.cons ov6 (fun K hK => ?_) AllReadyH.nil
    rw [if_pos (by rfl)]
    go_simp
    have HZ2 : Hid (Tab0 (z0.alloc (.cells #[.int .i64 r.1, .int .i64 r.2] 112)) b pm ra rc ba bc ma mc n m L U M) := HZ.out.alloc _
    have C2 : Hid ((z0.alloc (.cells #[.int .i64 r.1, .int .i64 r.2] 112)).cell? ⟨b, 0, none⟩ = some (.slice ra nn rc)) := by have := HZ2.out.c0; rw [EN.out] at this; exact this
    have HC : Hid (CBox (z0.alloc (.cells #[.int .i64 r.1, .int .i64 r.2] 112)) z0.heap.size 112 [.int .i64 r.1, .int .i64 r.2]) := CBox.new z0 _ _
    have HY2 : Hid (But (Own ra) w (z0.alloc (.cells #[.int .i64 r.1, .int .i64 r.2] 112))) := HY.out.alloc _
    have hH2 : (z0.alloc (.cells #[.int .i64 r.1, .int .i64 r.2] 112)).cell? ⟨bx, 0, none⟩ = some (.int .i64 r.1) ∧ (z0.alloc (.cells #[.int .i64 r.1, .int .i64 r.2] 112)).cell? ⟨bx, 1, none⟩ = some (.int .i64 r.2) := ⟨(cell_alloc hHeld.1), (cell_alloc hHeld.2)⟩
    refine hK.out _ _ hH2 (fun _ => ?_)
    clear hK K
    (try simp only [Act.put, List.setIfInBounds_toArray, List.set_cons_zero, List.set_cons_succ])
    refine wpAnyH_ready (rs := [7]) (by kernel_rfl) (by simp) ?_
    refine AllReadyH.cons ov7 (fun K hK => ?_) AllReadyH.nil
    rw [if_pos (by rfl)]
    refine wp_app _ _ 107 112 rfl (.agg #[.int .i64 0, .int .i64 0]) 2 16 und_rows info_row rfl (by decide) (by decide) ra nn rc (rowsD L) rfl (by have := HZ2.out.rows; rw [EN.out] at this; exact this) z0.heap.size 1 [.int .i64 r.1, .int .i64 r.2] rfl HC.out rfl (by simp [Value.oneCell']) (by omega) ?_
    intro ra' rc' w2 h1 h2 h3
    have HR : Hid (w2.ownsRow 0 112 2 (.slice ra' (nn + 1) rc') (nn + 1) (rowsD (L ++ [r])) ∧ But (Own ra) w w2 ∧ Fresh w ra ra') := ⟨by rw [rowsD_snoc]; exact h1, HY2.out.trans h2, h3.mono HY2.out.size⟩
    have hH3 : w2.cell? ⟨bx, 0, none⟩ = some (.int .i64 r.1) ∧ w2.cell? ⟨bx, 1, none⟩ = some (.int .i64 r.2) := ⟨(h2.cell (p := ⟨bx, 0, none⟩) (World.block_lt_of_cell? _ _ hH2.1) NX.out).trans hH2.1, (h2.cell (p := ⟨bx, 1, none⟩) (World.block_lt_of_cell? _ _ hH2.2) NX.out).trans hH2.2⟩
    have C3 : Hid (w2.cell? ⟨b, 0, none⟩ = some (.slice ra nn rc) ∧ w2.frozen? ⟨b, 0, none⟩ = false) := ⟨(h2.cell (p := ⟨b, 0, none⟩) HZ2.out.box.lt (fun e => row_box HZ2.out.rows HZ2.out.box (by decide) e rfl)).trans C2.out, (h2.frozen (p := ⟨b, 0, none⟩) HZ2.out.box.lt (fun e => row_box HZ2.out.rows HZ2.out.box (by decide) e rfl)).trans (HZ2.out.fr 0)⟩
    clear h1 h2 h3 HC C2
    refine hK.out _ _ hH3 (fun _ => ?_)
    clear hK K
    (try simp only [Act.put, List.setIfInBounds_toArray, List.set_cons_zero, List.set_cons_succ])
    refine wpAnyH_take (i := 8) (v := .pointer (some ⟨b, 0, none⟩)) ov8 (by kernel_rfl) (by kernel_rfl) (by kernel_rfl) (fun _ _ _ h => h) (Or.inl ⟨by rfl, fun V' hS => ?_⟩) hH3 ?_
    · go_simp
    simp only [Act.put, List.setIfInBounds_toArray, List.set_cons_zero, List.set_cons_succ]
    refine wpAnyH_take (i := 9) (v := .pointer (some ⟨b, 0, none⟩)) ov9 (by kernel_rfl) (by kernel_rfl) (by kernel_rfl) (fun _ _ _ h => h) (Or.inl ⟨by rfl, fun V' hS => ?_⟩) hH3 ?_
    · go_simp
    simp only [Act.put, List.setIfInBounds_toArray, List.set_cons_zero, List.set_cons_succ]
    refine wpAnyH_ready (rs := [10]) (by kernel_rfl) (by simp) ?_
    refine AllReadyH.cons ov10 (fun K hK => ?_) AllReadyH.nil
    rw [if_pos (by rfl)]
    obtain ⟨k0, k1⟩ := C3.out
    go_simp
    clear k0 k1
    have HQ : Hid (Tab0 (w2.setCell ⟨b, 0, none⟩ (.slice ra' (nn + 1) rc')) b pm ra' rc' ba bc ma mc n m (L ++ [r]) U M ∧ But (TS b pm ra ba ma) w (w2.setCell ⟨b, 0, none⟩ (.slice ra' (nn + 1) rc')) ∧ Grown (TS b pm ra ba ma) (TS b pm ra' ba ma) w) := by
      have el : (L ++ [r]).length = nn + 1 := by simp [EN.out]
      have := H0.out.upRows (ra' := ra') (rc' := rc') (L' := L ++ [r]) HR.out.2.1 (by rw [el]; exact HR.out.1) HR.out.2.2
      rw [el] at this
      exact this
    have hH4 : (w2.setCell ⟨b, 0, none⟩ (.slice ra' (nn + 1) rc')).cell? ⟨bx, 0, none⟩ = some (.int .i64 r.1) ∧ (w2.setCell ⟨b, 0, none⟩ (.slice ra' (nn + 1) rc')).cell? ⟨bx, 1, none⟩ = some (.int .i64 r.2) := ⟨(cell_set (by exact NB.out) hH3.1), (cell_set (by exact NB.out) hH3.2)⟩
    refine hK.out _ (w2.setCell ⟨b, 0, none⟩ (.slice ra' (nn + 1) rc')) hH4 (fun _ => ?_)
    clear hK K
    (try simp only [Act.put, List.setIfInBounds_toArray, List.set_cons_zero, List.set_cons_succ])
    generalize w2.setCell ⟨b, 0, none⟩ (.slice ra' (nn + 1) rc') = w4 at HQ hH4 ⊢
    refine wpAnyH_done (by kernel_rfl) ?_ _
    clear hHeld hH2 hH3 hH4 C3 HR HZ2 HY2 HZ HY NX NB H1 Y1 X1
    have SW : Hid (Calls Try.prog 88 #[.pointer (some ⟨b, 0, none⟩), .int .i64 (i : Int), .int .i64 (nn : Int)] w4 fun e w' => e = .returned (.tuple #[]) ∧ Tab0 w' b pm ra' rc' ba bc ma mc (stepN (stepN n m r.1) (upd m r.1 (some i)) p.1) (upd (upd m r.1 (some i)) p.1 (some nn)) (swapL (L ++ [r]) i nn p r) U M ∧ But (TS b pm ra' ba ma) w4 w') := swap_is w4 b pm ra' rc' ba bc ma mc n m (L ++ [r]) U M HQ.out.1 i nn p r HP.out.1 (by rw [← EN.out]; simp) HP.out.2.1 HP.out.2.2.1 (by have := HP.out.2.2.2.1; simp; omega) HP.out.2.2.2.2
    go_wp2_with (go_at_call 88; refine (SW.out).mono ?_; rintro e v9 ⟨rfl, h1, h2⟩)
    go_end0
    rw [EN.out]
    exact ⟨rfl, ra', rc', h1, HQ.out.2.1.then HQ.out.2.2 h2, HQ.out.2.2⟩
  · rw [if_pos (by rfl)]
    go_simp
    have HZ2 : Hid (Tab0 (z0.alloc (.cells #[.int .i64 r.1, .int .i64 r.2] 112)) b pm ra rc ba bc ma mc n m L U M) := HZ.out.alloc _
    have C2 : Hid ((z0.alloc (.cells #[.int .i64 r.1, .int .i64 r.2] 112)).cell? ⟨b, 0, none⟩ = some (.slice ra nn rc)) := by have := HZ2.out.c0; rw [EN.out] at this; exact this
    have HC : Hid (CBox (z0.alloc (.cells #[.int .i64 r.1, .int .i64 r.2] 112)) z0.heap.size 112 [.int .i64 r.1, .int .i64 r.2]) := CBox.new z0 _ _
    have HY2 : Hid (But (Own ra) w (z0.alloc (.cells #[.int .i64 r.1, .int .i64 r.2] 112))) := HY.out.alloc _
    have hH2 : (z0.alloc (.cells #[.int .i64 r.1, .int .i64 r.2] 112)).cell? ⟨bx, 0, none⟩ = some (.int .i64 r.1) ∧ (z0.alloc (.cells #[.int .i64 r.1, .int .i64 r.2] 112)).cell? ⟨bx, 1, none⟩ = some (.int .i64 r.2) := ⟨(cell_alloc hHeld.1), (cell_alloc hHeld.2)⟩
    refine hK.out _ _ hH2 (fun _ => ?_)
    clear hK K
    (try simp only [Act.put, List.setIfInBounds_toArray, List.set_cons_zero, List.set_cons_succ])
    refine wpAnyH_ready (rs := [4]) (by kernel_rfl) (by simp) ?_
    refine AllReadyH.cons ov4 (fun K hK => ?_) AllReadyH.nil
    rw [if_pos (by rfl)]
    first | (have k0 := C2.out; go_simp; clear k0) | (have k0 := C0.out; go_simp; clear k0)
    refine hK.out _ _ hH2 (fun _ => ?_)
    clear hK K
    (try simp only [Act.put, List.setIfInBounds_toArray, List.set_cons_zero, List.set_cons_succ])
    refine wpAnyH_ready (rs := [7]) (by kernel_rfl) (by simp) ?_
    refine AllReadyH.cons ov7 (fun K hK => ?_) AllReadyH.nil
    rw [if_pos (by rfl)]
    refine wp_app _ _ 107 112 rfl (.agg #[.int .i64 0, .int .i64 0]) 2 16 und_rows info_row rfl (by decide) (by decide) ra nn rc (rowsD L) rfl (by have := HZ2.out.rows; rw [EN.out] at this; exact this) z0.heap.size 1 [.int .i64 r.1, .int .i64 r.2] rfl HC.out rfl (by simp [Value.oneCell']) (by omega) ?_
    intro ra' rc' w2 h1 h2 h3
    have HR : Hid (w2.ownsRow 0 112 2 (.slice ra' (nn + 1) rc') (nn + 1) (rowsD (L ++ [r])) ∧ But (Own ra) w w2 ∧ Fresh w ra ra') := ⟨by rw [rowsD_snoc]; exact h1, HY2.out.trans h2, h3.mono HY2.out.size⟩
    have hH3 : w2.cell? ⟨bx, 0, none⟩ = some (.int .i64 r.1) ∧ w2.cell? ⟨bx, 1, none⟩ = some (.int .i64 r.2) := ⟨(h2.cell (p := ⟨bx, 0, none⟩) (World.block_lt_of_cell? _ _ hH2.1) NX.out).trans hH2.1, (h2.cell (p := ⟨bx, 1, none⟩) (World.block_lt_of_cell? _ _ hH2.2) NX.out).trans hH2.2⟩
    have C3 : Hid (w2.cell? ⟨b, 0, none⟩ = some (.slice ra nn rc) ∧ w2.frozen? ⟨b, 0, none⟩ = false) := ⟨(h2.cell (p := ⟨b, 0, none⟩) HZ2.out.box.lt (fun e => row_box HZ2.out.rows HZ2.out.box (by decide) e rfl)).trans C2.out, (h2.frozen (p := ⟨b, 0, none⟩) HZ2.out.box.lt (fun e => row_box HZ2.out.rows HZ2.out.box (by decide) e rfl)).trans (HZ2.out.fr 0)⟩
    clear h1 h2 h3 HC C2
    refine hK.out _ _ hH3 (fun _ => ?_)
    clear hK K
    (try simp only [Act.put, List.setIfInBounds_toArray, List.set_cons_zero, List.set_cons_succ])
    refine wpAnyH_take (i := 8) (v := .pointer (some ⟨b, 0, none⟩)) ov8 (by kernel_rfl) (by kernel_rfl) (by kernel_rfl) (fun _ _ _ h => h) (Or.inl ⟨by rfl, fun V' hS => ?_⟩) hH3 ?_
    · go_simp
    simp only [Act.put, List.setIfInBounds_toArray, List.set_cons_zero, List.set_cons_succ]
    refine wpAnyH_take (i := 9) (v := .pointer (some ⟨b, 0, none⟩)) ov9 (by kernel_rfl) (by kernel_rfl) (by kernel_rfl) (fun _ _ _ h => h) (Or.inl ⟨by rfl, fun V' hS => ?_⟩) hH3 ?_
    · go_simp
    simp only [Act.put, List.setIfInBounds_toArray, List.set_cons_zero, List.set_cons_succ]
    refine wpAnyH_ready (rs := [10]) (by kernel_rfl) (by simp) ?_
    refine AllReadyH.cons ov10 (fun K hK => ?_) AllReadyH.nil
    rw [if_pos (by rfl)]
    obtain ⟨k0, k1⟩ := C3.out
    go_simp
    clear k0 k1
    have HQ : Hid (Tab0 (w2.setCell ⟨b, 0, none⟩ (.slice ra' (nn + 1) rc')) b pm ra' rc' ba bc ma mc n m (L ++ [r]) U M ∧ But (TS b pm ra ba ma) w (w2.setCell ⟨b, 0, none⟩ (.slice ra' (nn + 1) rc')) ∧ Grown (TS b pm ra ba ma) (TS b pm ra' ba ma) w) := by
      have el : (L ++ [r]).length = nn + 1 := by simp [EN.out]
      have := H0.out.upRows (ra' := ra') (rc' := rc') (L' := L ++ [r]) HR.out.2.1 (by rw [el]; exact HR.out.1) HR.out.2.2
      rw [el] at this
      exact this
    have hH4 : (w2.setCell ⟨b, 0, none⟩ (.slice ra' (nn + 1) rc')).cell? ⟨bx, 0, none⟩ = some (.int .i64 r.1) ∧ (w2.setCell ⟨b, 0, none⟩ (.slice ra' (nn + 1) rc')).cell? ⟨bx, 1, none⟩ = some (.int .i64 r.2) := ⟨(cell_set (by exact NB.out) hH3.1), (cell_set (by exact NB.out) hH3.2)⟩
    refine hK.out _ (w2.setCell ⟨b, 0, none⟩ (.slice ra' (nn + 1) rc')) hH4 (fun _ => ?_)
    clear hK K
    (try simp only [Act.put, List.setIfInBounds_toArray, List.set_cons_zero, List.set_cons_succ])
    generalize w2.setCell ⟨b, 0, none⟩ (.slice ra' (nn + 1) rc') = w4 at HQ hH4 ⊢
    refine wpAnyH_done (by kernel_rfl) ?_ _
    clear hHeld hH2 hH3 hH4 C3 HR HZ2 HY2 HZ HY NX NB H1 Y1 X1
    have SW : Hid (Calls Try.prog 88 #[.pointer (some ⟨b, 0, none⟩), .int .i64 (i : Int), .int .i64 (nn : Int)] w4 fun e w' => e = .returned (.tuple #[]) ∧ Tab0 w' b pm ra' rc' ba bc ma mc (stepN (stepN n m r.1) (upd m r.1 (some i)) p.1) (upd (upd m r.1 (some i)) p.1 (some nn)) (swapL (L ++ [r]) i nn p r) U M ∧ But (TS b pm ra' ba ma) w4 w') := swap_is w4 b pm ra' rc' ba bc ma mc n m (L ++ [r]) U M HQ.out.1 i nn p r HP.out.1 (by rw [← EN.out]; simp) HP.out.2.1 HP.out.2.2.1 (by have := HP.out.2.2.2.1; simp; omega) HP.out.2.2.2.2
    go_wp2_with (go_at_call 88; refine (SW.out).mono ?_; rintro e v9 ⟨rfl, h1, h2⟩)
    go_end0
    rw [EN.out]
    exact ⟨rfl, ra', rc', h1, HQ.out.2.1.then HQ.out.2.2 h2, HQ.out.2.2⟩
end Go.Proofs.Ytohfkgfjcnldaaa
