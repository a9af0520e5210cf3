/- word.Uint; Row of both kinds. -/
import Derived.Test.YtlemnjhdnciddaaGmp
import Derived.Laws.CopyOwn
import Derived.Laws.MakeOwn
namespace Go.Proofs.Ytlemnjhdnciddaa
open Go.RowKit
set_option maxHeartbeats 1000000 in
theorem fromUint_is (w : World) (x : Int) : Calls Try.prog 67 #[.int .u64 x] w fun e w' => e = .returned (.agg #[.int .u64 x, .int .u64 0, .int .u64 0, .int .u64 0]) ∧ Below w.heap.size w w' := by
  have B0 : Hid (Below w.heap.size w (w.alloc (.cells #[.int .u64 x, .int .u64 0, .int .u64 0, .int .u64 0] 30))) := (Below.refl _ _).alloc (Nat.le_refl _) _
  go_enter Try.func67, Try.ntmps67
  go_wp2
  exact bodyPost_ret (v := .agg #[.int .u64 x, .int .u64 0, .int .u64 0, .int .u64 0]) (by simp [results, Try.results67, go_sem]) rfl ⟨rfl, B0.out⟩
theorem smW_eqw (a0 a1 a2 a3 : Int) : eqw a0 a1 a2 a3 a0 0 0 0 = smW a1 a2 a3 := by
  unfold smW; rw [Bool.eq_iff_iff, eqw_iff]; simp
set_option maxHeartbeats 1000000 in
set_option maxRecDepth 100000 in
theorem uint_is (a0 a1 a2 a3 : Int) (w : World) : Calls Try.prog 45 #[.agg #[.int .u64 a0, .int .u64 a1, .int .u64 a2, .int .u64 a3]] w fun e w' => e = .returned (.tuple #[.int .u64 (loW a0 a1 a2 a3), .bool (smW a1 a2 a3)]) ∧ Below w.heap.size w w' := by
  have E1 : ∀ W : World, Sem.run Try.prog (Op.equalIn 10000 30 (.agg #[.int .u64 a0, .int .u64 a1, .int .u64 a2, .int .u64 a3]) (.agg #[.int .u64 a0, .int .u64 0, .int .u64 0, .int .u64 0])) W = .ok (smW a1 a2 a3) W := fun W => by rw [eqw_run, smW_eqw]
  have K0 : Hid (Bz w a0 a1 a2 a3 w.heap.size (w.alloc (.cells #[.int .u64 a0, .int .u64 a1, .int .u64 a2, .int .u64 a3] 30))) := Bz.new w a0 a1 a2 a3
  have hl : loW a0 a1 a2 a3 = if smW a1 a2 a3 then a0 else 0 := by unfold loW smW; by_cases h : (a1 = 0 ∧ a2 = 0 ∧ a3 = 0) <;> simp [h]
  generalize smW a1 a2 a3 = sm at *
  rw [hl]
  clear hl
  go_enter Try.func45, Try.ntmps45
  go_upto_region 1 with fail
  generalize (w.alloc (.cells #[.int .u64 a0, .int .u64 a1, .int .u64 a2, .int .u64 a3] 30)) = W0 at K0 ⊢
  generalize hbx : w.heap.size = bx at K0 ⊢
  have K0 : Hid (Bz w a0 a1 a2 a3 bx W0) := hbx ▸ K0
  clear hbx
  cases sm
  · refine wp_region_held_drew (S := fun V' => Bz w a0 a1 a2 a3 bx V') (by kernel_rfl) K0.out.drew (fun hHeld => ?_)
    generalize W0.drew = z0 at hHeld ⊢
    refine wpAnyH_take (i := 0) (v := .agg #[.int .u64 a0, .int .u64 a1, .int .u64 a2, .int .u64 a3]) ov0 (by kernel_rfl) (by kernel_rfl) (by kernel_rfl) (fun _ _ _ h => h) (Or.inl ⟨by rfl, fun V' hS => ?_⟩) hHeld ?_
    · obtain ⟨c0, c1, c2, c3, _⟩ := hS.cells
      go_simp
    simp only [Act.put, List.setIfInBounds_toArray, List.set_cons_zero, List.set_cons_succ]
    refine wpAnyH_take (i := 1) (v := .pointer (some ⟨bx, 0, none⟩)) ov1 (by kernel_rfl) (by kernel_rfl) (by kernel_rfl) (fun _ _ _ h => h) (Or.inl ⟨by rfl, fun V' hS => ?_⟩) hHeld ?_
    · go_simp
    simp only [Act.put, List.setIfInBounds_toArray, List.set_cons_zero, List.set_cons_succ]
    refine wpAnyH_take (i := 2) (v := .int .u64 a0) ov2 (by kernel_rfl) (by kernel_rfl) (by kernel_rfl) (fun _ _ _ h => h) (Or.inl ⟨by rfl, fun V' hS => ?_⟩) hHeld ?_
    · obtain ⟨c0, c1, c2, c3, _⟩ := hS.cells
      go_simp
    simp only [Act.put, List.setIfInBounds_toArray, List.set_cons_zero, List.set_cons_succ]
    refine wpAnyH_ready (rs := [3]) (by kernel_rfl) (by simp) ?_
    refine AllReadyH.cons ov3 (fun K hK => ?_) AllReadyH.nil
    rw [if_pos (by rfl)]
    go_simp
    refine (fromUint_is _ a0).mono ?_
    rintro e z1 ⟨rfl, hB1⟩
    have hH1 : Bz w a0 a1 a2 a3 bx z1 := hHeld.past hB1
    (try go_wp2_with fail)
    refine hK.out _ _ hH1 (fun _ => ?_)
    clear hK K
    (try simp only [Act.put, List.setIfInBounds_toArray, List.set_cons_zero, List.set_cons_succ])
    refine wpAnyH_take (i := 4) (v := .bool true) ov4 (by kernel_rfl) (by kernel_rfl) (by kernel_rfl) (fun _ _ _ h => h) (Or.inl ⟨by rfl, fun V' hS => ?_⟩) hH1 ?_
    · go_simp
    simp only [Act.put, List.setIfInBounds_toArray, List.set_cons_zero, List.set_cons_succ]
    refine wpAnyH_done (by kernel_rfl) ?_ _
    have HB : Hid (Below w.heap.size w z1) := hH1.bel
    obtain ⟨c0, c1, c2, c3, _⟩ := hH1.cells
    clear hH1 hHeld hB1
    go_wp2
    go_ret2
    exact ⟨rfl, HB.out⟩
  · refine wp_region_held_drew (S := fun V' => Bz w a0 a1 a2 a3 bx V') (by kernel_rfl) K0.out.drew (fun hHeld => ?_)
    generalize W0.drew = z0 at hHeld ⊢
    refine wpAnyH_take (i := 0) (v := .agg #[.int .u64 a0, .int .u64 a1, .int .u64 a2, .int .u64 a3]) ov0 (by kernel_rfl) (by kernel_rfl) (by kernel_rfl) (fun _ _ _ h => h) (Or.inl ⟨by rfl, fun V' hS => ?_⟩) hHeld ?_
    · obtain ⟨c0, c1, c2, c3, _⟩ := hS.cells
      go_simp
    simp only [Act.put, List.setIfInBounds_toArray, List.set_cons_zero, List.set_cons_succ]
    refine wpAnyH_take (i := 1) (v := .pointer (some ⟨bx, 0, none⟩)) ov1 (by kernel_rfl) (by kernel_rfl) (by kernel_rfl) (fun _ _ _ h => h) (Or.inl ⟨by rfl, fun V' hS => ?_⟩) hHeld ?_
    · go_simp
    simp only [Act.put, List.setIfInBounds_toArray, List.set_cons_zero, List.set_cons_succ]
    refine wpAnyH_take (i := 2) (v := .int .u64 a0) ov2 (by kernel_rfl) (by kernel_rfl) (by kernel_rfl) (fun _ _ _ h => h) (Or.inl ⟨by rfl, fun V' hS => ?_⟩) hHeld ?_
    · obtain ⟨c0, c1, c2, c3, _⟩ := hS.cells
      go_simp
    simp only [Act.put, List.setIfInBounds_toArray, List.set_cons_zero, List.set_cons_succ]
    refine wpAnyH_ready (rs := [3]) (by kernel_rfl) (by simp) ?_
    refine AllReadyH.cons ov3 (fun K hK => ?_) AllReadyH.nil
    rw [if_pos (by rfl)]
    go_simp
    refine (fromUint_is _ a0).mono ?_
    rintro e z1 ⟨rfl, hB1⟩
    have hH1 : Bz w a0 a1 a2 a3 bx z1 := hHeld.past hB1
    (try go_wp2_with fail)
    refine hK.out _ _ hH1 (fun _ => ?_)
    clear hK K
    (try simp only [Act.put, List.setIfInBounds_toArray, List.set_cons_zero, List.set_cons_succ])
    refine wpAnyH_take (i := 4) (v := .bool false) ov4 (by kernel_rfl) (by kernel_rfl) (by kernel_rfl) (fun _ _ _ h => h) (Or.inl ⟨by rfl, fun V' hS => ?_⟩) hH1 ?_
    · go_simp
    simp only [Act.put, List.setIfInBounds_toArray, List.set_cons_zero, List.set_cons_succ]
    refine wpAnyH_done (by kernel_rfl) ?_ _
    have HB : Hid (Below w.heap.size w z1) := hH1.bel
    obtain ⟨c0, c1, c2, c3, _⟩ := hH1.cells
    clear hH1 hHeld hB1
    go_wp2
    go_ret2
    exact ⟨rfl, HB.out⟩
/-- a block that holds just these cells -/
def CB (W : World) (B : Nat) (l : List Value) : Prop := W.heap[B]? = some (.cells l.toArray 5 (0, 0))
theorem CB.lt {W : World} {B : Nat} {l : List Value} (h : CB W B l) : B < W.heap.size := (Array.getElem?_eq_some_iff.1 h).1
theorem CB.cell {W : World} {B : Nat} {l : List Value} (h : CB W B l) (j : Nat) : W.cell? ⟨B, j, none⟩ = l[j]? := by simp [World.cell?, show W.heap[B]? = _ from h]
theorem CB.frozen {W : World} {B : Nat} {l : List Value} (h : CB W B l) (j : Nat) : W.frozen? ⟨B, j, none⟩ = false := by simp [World.frozen?, show W.heap[B]? = _ from h]
theorem CB.past {W W' : World} {B : Nat} {l : List Value} (h : CB W B l) (hB : Below W.heap.size W W') : CB W' B l := (hB.block B h.lt).trans h
theorem CB.set {W : World} {B : Nat} {l : List Value} (h : CB W B l) (j : Nat) (u : Value) : CB (W.setCell ⟨B, j, none⟩ u) B (l.set j u) := by
  have h' : W.heap[B]? = _ := h
  unfold CB
  simp [World.setCell, Array.getElem?_modify, h']
theorem CB.byC {W : World} {B n : Nat} {u : Nat → Nat} (h : CB W B (bD u n)) : ByC W B 0 n u := fun i hi => by rw [Nat.zero_add, h.cell, bD_at u n i hi]
theorem bD_set (u : Nat → Nat) (n j x : Nat) (hj : j < n) : (bD u n).set j (.int .u8 (x : Int)) = bD (fun i => if i = j then x else u i) n := by
  apply List.ext_getElem?
  intro i
  by_cases hi : i < n
  · rw [bD_at _ _ _ hi]
    by_cases e : i = j
    · subst e; rw [List.getElem?_set_self (by rw [bD_len]; exact hi)]; simp
    · rw [List.getElem?_set_ne (Ne.symm e), bD_at _ _ _ hi]; simp [e]
  · rw [List.getElem?_eq_none (by simp [bD_len]; omega), List.getElem?_eq_none (by simp [bD_len]; omega)]
theorem heap_new (W : World) (o : Obj) : (W.alloc o).heap[W.heap.size]? = some o := by
  show (W.heap.push _)[W.heap.size]? = _
  simp
theorem make_is (W : World) (M : Nat) (hM : M ≤ 4194304) : ∃ W1, Sem.run Try.prog (Instr.makeSlice 31 (.int .i64 (M : Int)) (.int .i64 (M : Int))) W = .ok (.slice (some ⟨W.heap.size, 0, none⟩) M M) W1 ∧ CB W1 W.heap.size (bD (fun _ => 0) M) ∧ Below W.heap.size W W1 := by
  obtain ⟨i0, hi, hz0, hz1, hz2⟩ := info_partsB Try.info8
  have h := run_makeSlice (P := Try.prog) W 31 5 i0 (.int .u8 0) Try.underlying31 hi hz0 .i64 .i64 (M : Int) (M : Int) (by omega) (Int.le_refl _) (by rw [hz1]; simp; omega) (by rw [hz2]; omega) (by omega)
  simp only [Int.toNat_natCast, hz1, Nat.mul_one] at h
  have hA : madeCells (Value.int .u8 0).cells M = (bD (fun _ => 0) M).toArray := by
    apply Array.ext'
    simp [madeCells, Value.cells, bD, Array.toList_range]
    intro a _
    rw [Nat.mod_one]; rfl
  rw [hA] at h
  exact ⟨_, h, heap_new W _, (Below.refl _ W).alloc (Nat.le_refl _) _⟩
/-- what a row tells: the bytes from k on, 0 behind the end -/
def rowF (u : Nat → Nat) (L : Nat) (x : Int) (sm : Bool) (i : Nat) : Nat := if sm = true ∧ x.toNat + i < L then u (x.toNat + i) else 0
/-- what Row answers -/
def RowRes (w w' : World) (m : Int) (f : Nat → Nat) (e : Ending) : Prop := Below w.heap.size w w' ∧ (((m < 0 ∨ 4194304 < m) ∧ e = .returned (.tuple #[.slice none 0 0, .int .i64 1])) ∨ ((0 ≤ m ∧ m ≤ 4194304) ∧ ∃ g, w.heap.size ≤ g ∧ e = .returned (.tuple #[.slice (some ⟨g, 0, none⟩) m.toNat m.toNat, .int .i64 0]) ∧ CB w' g (bD f m.toNat)))
theorem slice_fromU (ad : Option Addr) (n cap q : Nat) (hq : q ≤ n) (W : World) : Sem.run Try.prog (Instr.slice 31 (.slice ad n cap) (some (.int .u64 (q : Int))) none none) W = .ok (.slice (if cap = q then ad else ad.map (·.add q)) (n - q) (cap - q)) W := by
  simp [Instr.slice, Instr.sliceBounds, run_underlying Try.underlying31, run_sliceBound W .u64 (q : Int) n _ (by omega) (by omega)]
theorem splice_row (u : Nat → Nat) (L k M c : Nat) (hc : c = Nat.min (L - k) M) : splice (bD (fun _ => 0) M) 0 (bD (fun i => u (k + i)) c) = bD (fun i => if k + i < L then u (k + i) else 0) M := by
  have hcM : c ≤ M := by rw [hc]; exact Nat.min_le_right _ _
  have hm : Nat.min (L - k) M = min (L - k) M := rfl
  rw [hm] at hc
  apply List.ext_getElem?
  intro i
  unfold splice
  rw [List.take_zero, List.nil_append, bD_len, Nat.zero_add]
  by_cases h1 : i < c
  · rw [List.getElem?_append_left (by rw [bD_len]; exact h1), bD_at _ _ _ h1, bD_at _ _ _ (by omega), if_pos (by omega)]
  · rw [List.getElem?_append_right (by rw [bD_len]; omega), bD_len, List.getElem?_drop, show c + (i - c) = i by omega]
    by_cases h2 : i < M
    · rw [bD_at _ _ _ h2, bD_at _ _ _ h2, if_neg (by omega)]
    · rw [List.getElem?_eq_none (by simp [bD_len]; omega), List.getElem?_eq_none (by simp [bD_len]; omega)]
theorem copy_run (W w0 : World) (B g M : Nat) (f : Nat → Nat) (hcb : CB W g (bD f M)) (ad : Addr) (sLen sCap : Nat) (cs : List Value) (hn : cs.length = Nat.min sLen M) (hsrc : ∀ j v, cs[j]? = some v → W.cell? (ad.add j) = some v) (h1 : ∀ v ∈ cs, v.oneCell' = true) (hb : Below B w0 W) (hBg : B ≤ g) :
    ∃ W2, (∀ ty : TypeId, (Builtin.copy_ #[31, 31] ty #[.slice (some ⟨g, 0, none⟩) M M, .slice (some ad) sLen sCap]).run Try.prog W = .ok (goInt cs.length) W2) ∧ CB W2 g (splice (bD f M) 0 cs) ∧ Below B w0 W2 := by
  have hinfo : (Try.prog.info? 5).map (·.size) = some 1 := by obtain ⟨i0, hi, _, hz1, _⟩ := info_partsB Try.info8; rw [hi]; simp [hz1]
  by_cases h0 : cs.length = 0
  · obtain rfl : cs = [] := List.eq_nil_of_length_eq_zero h0
    exact ⟨W, fun ty => run_copy_none (P := Try.prog) W 31 31 ty 5 _ _ M M sLen sCap Try.underlying31 hinfo (by simpa using hn.symm), by simpa [splice] using hcb, hb⟩
  · exact ⟨_, fun ty => run_copy_row (P := Try.prog) W 31 31 ty 5 g 0 M M ad sLen sCap (bD f M).toArray 5 cs Try.underlying31 hinfo hcb hn hsrc (by rw [Nat.zero_add, hn]; simpa [bD_len] using Nat.min_le_right sLen M) h1, (show _ = _ by simpa [splice] using setRow_heap W g _ _ 5 _ hcb), below_setRow hb hBg _⟩
set_option maxHeartbeats 2000000 in
set_option maxRecDepth 100000 in
theorem row_is (w : World) (v : Value) (L : Nat) (u : Nat → Nat) (a0 a1 a2 a3 : Int) (m : Int) (hb : By w v L u) (ha : IsW (V a0 a1 a2 a3) a0 a1 a2 a3) (hm : -9223372036854775808 ≤ m ∧ m ≤ 9223372036854775807) : Calls Try.prog 16 #[v, .agg #[.int .u64 a0, .int .u64 a1, .int .u64 a2, .int .u64 a3], .int .i64 m] w fun e w' => RowRes w w' m (rowF u L (loW a0 a1 a2 a3) (smW a1 a2 a3)) e := by
  obtain ⟨ad, cap, rfl, hc0, hc1, hh⟩ := hb
  have HH : Hid (0 < L → ∃ g a, ad = some ⟨g, a, none⟩ ∧ ByC w g a L u) := hh
  have UI : Hid (∀ W, Calls Try.prog 45 #[.agg #[.int .u64 a0, .int .u64 a1, .int .u64 a2, .int .u64 a3]] W fun e w' => e = .returned (.tuple #[.int .u64 (loW a0 a1 a2 a3), .bool (smW a1 a2 a3)]) ∧ Below W.heap.size W w') := fun W => uint_is a0 a1 a2 a3 W
  have x0 : 0 ≤ loW a0 a1 a2 a3 ∧ loW a0 a1 a2 a3 ≤ 18446744073709551615 := by have := ha.u0; unfold loW U64 Bd at *; split <;> omega
  have K0 : Hid (Bz w a0 a1 a2 a3 w.heap.size (w.alloc (.cells #[.int .u64 a0, .int .u64 a1, .int .u64 a2, .int .u64 a3] 30))) := Bz.new w a0 a1 a2 a3
  have LI : (L : Int) ≤ 1152921504606846976 := by omega
  have HC : Hid (L ≤ cap ∧ L ≤ 1152921504606846976) := ⟨hc0, hc1⟩
  clear ha hh hc0 hc1
  generalize loW a0 a1 a2 a3 = x at *
  generalize smW a1 a2 a3 = sm at *
  obtain ⟨m0, m1⟩ := hm
  by_cases c0 : m < 0
  · have HF : Hid (Below w.heap.size w (w.alloc (.cells #[.int .u64 a0, .int .u64 a1, .int .u64 a2, .int .u64 a3] 30))) := K0.out.bel
    clear UI K0
    go_enter Try.func16, Try.ntmps16
    go_wp2
    go_ret2
    exact ⟨HF.out, Or.inl ⟨Or.inl c0, rfl⟩⟩
  by_cases c1 : 4194304 < m
  · have HF : Hid (Below w.heap.size w (w.alloc (.cells #[.int .u64 a0, .int .u64 a1, .int .u64 a2, .int .u64 a3] 30))) := K0.out.bel
    clear UI K0
    go_enter Try.func16, Try.ntmps16
    go_wp2
    go_ret2
    exact ⟨HF.out, Or.inl ⟨Or.inr c1, rfl⟩⟩
  obtain ⟨M, eM⟩ : ∃ M : Nat, m = (M : Int) := ⟨m.toNat, by omega⟩
  subst eM
  have hM : M ≤ 4194304 := by omega
  have MI : (M : Int) ≤ 4194304 := by omega
  clear c0 c1 m0 m1
  go_enter Try.func16, Try.ntmps16
  go_upto_region 3 with fail
  generalize (w.alloc (.cells #[.int .u64 a0, .int .u64 a1, .int .u64 a2, .int .u64 a3] 30)) = W0 at K0 ⊢
  generalize hbx : w.heap.size = bx at K0 ⊢
  have K0 : Hid (Bz w a0 a1 a2 a3 bx W0) := hbx ▸ K0
  clear hbx
  obtain ⟨W1, hmk, hcb, hB1⟩ := make_is W0 M hM
  go_upto_region 4 with fail
  have K1 : Hid (Bz w a0 a1 a2 a3 bx W1) := K0.out.past hB1
  have hge : w.heap.size ≤ W0.heap.size := K0.out.bel.size
  have HG : Hid (w.heap.size ≤ W0.heap.size) := hge
  have CC : Hid (CB W1 W0.heap.size (bD (fun _ => 0) M)) := hcb
  clear hmk hcb hB1 K0 hge hM
  generalize W0.heap.size = g at CC HG ⊢
  obtain ⟨d0, d1, d2, d3, _⟩ := K1.out.cells
  go_upto_region 5 with (go_at_call 45; refine (UI.out _).mono ?_; rintro e v1 ⟨rfl, hB⟩)
  have CD : Hid (CB v1 g (bD (fun _ => 0) M) ∧ Below w.heap.size w v1) := ⟨CC.out.past hB, K1.out.bel.trans (hB.mono K1.out.bel.size)⟩
  clear hB UI CC K1 d0 d1 d2 d3
  have fin0 : Hid (¬ (sm = true ∧ x < (L : Int)) → CB v1 g (bD (rowF u L x sm) M)) := fun h => by
    have h9 := CD.out.1
    rw [show bD (fun _ => 0) M = bD (rowF u L x sm) M from bD_ext fun i _ => by unfold rowF; rw [if_neg (by intro h8; exact h ⟨h8.1, by omega⟩)]] at h9
    exact h9
  cases sm
  · have HF : Hid (CB v1 g (bD (rowF u L x false) M)) := fin0.out (by simp)
    clear fin0
    go_wp2
    go_ret2
    exact ⟨CD.out.2, Or.inr ⟨by omega, g, HG.out, by rw [Int.toNat_natCast]; rfl, by rw [Int.toNat_natCast]; exact HF.out⟩⟩
  by_cases hx : x < (L : Int)
  · clear fin0
    obtain ⟨k, ek⟩ : ∃ k : Nat, x = (k : Int) := ⟨x.toNat, by omega⟩
    subst ek
    have kL : k < L := by omega
    obtain ⟨gb, ob, rfl, hcs⟩ := HH.out (by omega)
    have HCS : Hid (ByC w gb ob L u) := hcs
    have hsl := slice_fromU (some ⟨gb, ob, none⟩) L cap k (by omega)
    have ESP : (if cap = k then (some ⟨gb, ob, none⟩ : Option Addr) else (some ⟨gb, ob, none⟩ : Option Addr).map (·.add k)) = some ⟨gb, ob + k, none⟩ := by rw [if_neg (by have := HC.out; omega)]; simp [Addr.add]
    rw [ESP] at hsl
    obtain ⟨cs, ecs⟩ : ∃ cs, cs = bD (fun i => u (k + i)) (Nat.min (L - k) M) := ⟨_, rfl⟩
    obtain ⟨v2, hcp, hcb2, hB2⟩ := copy_run v1 w w.heap.size g M (fun _ => 0) CD.out.1 ⟨gb, ob + k, none⟩ (L - k) (cap - k) cs (by rw [ecs, bD_len]) (fun j y hy => by
      rw [ecs] at hy
      have hj : j < Nat.min (L - k) M := by have h9 := (List.getElem?_eq_some_iff.1 hy).1; rwa [bD_len] at h9
      rw [bD_at _ _ _ hj] at hy
      obtain rfl := Option.some.inj hy
      have hj2 : j < L - k := Nat.lt_of_lt_of_le hj (Nat.min_le_left _ _)
      have h8 := HCS.out (k + j) (by omega)
      rw [Addr.add_mid, Nat.add_assoc]
      exact (CD.out.2.cell (p := ⟨gb, ob + (k + j), none⟩) (World.block_lt_of_cell? w _ h8)).trans h8) (fun y hy => by
      rw [ecs] at hy
      obtain ⟨i, _, rfl⟩ := List.mem_map.1 hy
      rfl) CD.out.2 HG.out
    have HCB : Hid (CB v2 g (splice (bD (fun _ => 0) M) 0 cs)) := hcb2
    have ECS : Hid (cs = bD (fun i => u (k + i)) (Nat.min (L - k) M)) := ecs
    have HB2 : Hid (Below w.heap.size w v2) := hB2
    generalize cs.length = nc at hcp
    have wx : IntKind.u64.wrap (L : Int) = (L : Int) := by rw [IntKind.wrap_u64]; omega
    clear ecs hcs HH kL ESP hcb2 hB2
    go_wp2
    have HF : Hid (CB v2 g (bD (rowF u L (k : Int) true) M) ∧ Below w.heap.size w v2) := by
      refine ⟨?_, HB2.out⟩
      have h9 := HCB.out
      rw [ECS.out, splice_row u L k M _ rfl] at h9
      rw [show bD (rowF u L (k : Int) true) M = bD (fun i => if k + i < L then u (k + i) else 0) M from bD_ext fun i _ => by unfold rowF; simp]
      exact h9
    clear HCB HB2 CD
    go_ret2
    exact ⟨HF.out.2, Or.inr ⟨by omega, g, HG.out, by rw [Int.toNat_natCast]; rfl, by rw [Int.toNat_natCast]; exact HF.out.1⟩⟩
  · have HF : Hid (CB v1 g (bD (rowF u L x true) M)) := fin0.out (by simp; omega)
    have wx : IntKind.u64.wrap (L : Int) = (L : Int) := by rw [IntKind.wrap_u64]; omega
    clear fin0
    go_wp2
    go_ret2
    exact ⟨CD.out.2, Or.inr ⟨by omega, g, HG.out, by rw [Int.toNat_natCast]; rfl, by rw [Int.toNat_natCast]; exact HF.out⟩⟩
end Go.Proofs.Ytlemnjhdnciddaa
