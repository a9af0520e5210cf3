/- The law's own helpers: whole, wipe. -/
import Derived.Test.YteggikojfkmbkaaDoorVp
import Derived.Test.YteggikojfkmbkaaDoorVo
import Derived.Test.YteggikojfkmbkaaDoorVm
import Derived.BigRegion
namespace Go.Proofs.YteggikojfkmbkaaDoor
open Go.RowKit
theorem getD_app_l (l m : List Nat) (i : Nat) (h : i < l.length) : (l ++ m).getD i 0 = l.getD i 0 := by
  simp [List.getD_eq_getElem?_getD, List.getElem?_append_left h]
theorem getD_app_r (l m : List Nat) (i : Nat) : (l ++ m).getD (l.length + i) 0 = m.getD i 0 := by
  simp [List.getD_eq_getElem?_getD, List.getElem?_append_right (show l.length ≤ l.length + i by omega)]
set_option maxHeartbeats 2000000 in
set_option maxRecDepth 100000 in
theorem whole_is (w : World) (v b0 : Value) (g c : Nat) (l : List Nat) (m : Nat) (hseg : Seg w v l) (hn : l.length ≤ 100000000) (hb : BytesAt w ⟨g, 0, none⟩ (l ++ mkL m 40)) :
    Calls Tryd.prog 18 #[.agg #[b0, .slice (some ⟨g, 0, none⟩) (l.length + 40) c], v, .int .u8 (m : Int)] w fun e w' => e = .returned (.bool true) ∧ Below w.heap.size w w' := by
  obtain ⟨ad, cap, rfl, hcap, hcm, had, hnil⟩ := hseg
  obtain ⟨n, en⟩ : ∃ n, l.length = n := ⟨_, rfl⟩
  have EN : Hid (l.length = n) := en
  have HAD : Hid (l ≠ [] → ∃ sb so, ad = some ⟨sb, so, none⟩ ∧ BytesAt w ⟨sb, so, none⟩ l) := had
  have HBB : Hid (∀ i, i < n + 40 → w.cell? ⟨g, i, none⟩ = some (.int .u8 ((l ++ mkL m 40).getD i 0 : Nat))) := fun i hi => by
    have := hb i (by rw [List.length_append, mkL_len, en]; exact hi)
    rw [Nat.zero_add] at this; exact this
  rw [en] at hn ⊢
  obtain ⟨N, eN⟩ : ∃ N, n + 40 = N := ⟨_, rfl⟩
  rw [eN] at HBB ⊢
  have nI : (n : Int) ≤ 100000000 := by omega
  have nN : (n : Int) + 40 = (N : Int) := by omega
  have wN : IntKind.i64.wrap (N : Int) = (N : Int) := by rw [IntKind.wrap_i64]; omega
  have hg0 : g < w.heap.size := World.block_lt_of_cell? w _ (HBB.out 0 (by omega))
  have EN2 : Hid (n + 40 = N) := eN
  clear had hb en hcap hcm hnil eN
  go_enter Tryd.func18, Tryd.ntmps18
  go_upto_region 1 with fail
  have S0 : Hid (Below w.heap.size w (w.alloc (.cells #[b0, .slice (some ⟨g, 0, none⟩) N c] 31)) ∧ (w.alloc (.cells #[b0, .slice (some ⟨g, 0, none⟩) N c] 31)).cell? ⟨w.heap.size, 1, none⟩ = some (.slice (some ⟨g, 0, none⟩) N c)) := ⟨(Below.refl _ _).alloc (Nat.le_refl _) _, by simp⟩
  generalize w.alloc (.cells #[b0, .slice (some ⟨g, 0, none⟩) N c] 31) = W0 at S0 ⊢
  go_wp2
  go_loopw [7] (fun s wr => ∃ i : Nat, i ≤ n ∧ s = .int .i64 (i : Int) ∧ Below w.heap.size w wr ∧ wr.cell? ⟨w.heap.size, 1, none⟩ = some (.slice (some ⟨g, 0, none⟩) N c)) (fun s _ => n - (intOf s).toNat)
  case atStart => exact ⟨0, Nat.zero_le _, rfl, S0.out.1, S0.out.2⟩
  case round =>
    clear S0
    obtain ⟨i, hi, rfl, hB, c1⟩ := hrel
    by_cases hi5 : i < n
    · have iI : (i : Int) < (n : Int) := by omega
      have iN : (i : Int) < (N : Int) := by omega
      have iL : i < l.length := by rw [EN.out]; exact hi5
      obtain ⟨sb, so, e, hby⟩ := HAD.out (by intro e; rw [e] at iL; simp at iL)
      subst e
      have cy := (hB.cell (p := ⟨sb, so + i, none⟩) (World.block_lt_of_cell? w _ (hby i iL))).trans (hby i iL)
      have cx := (hB.cell (p := ⟨g, i, none⟩) hg0).trans (HBB.out i (by omega))
      rw [getD_app_l _ _ _ iL] at cx
      generalize l.getD i 0 = x at cx cy
      have HB : Hid (Below w.heap.size w wr) := hB
      clear hby hB iL
      go_upto_region 4 with fail
      refine wp_region_held_drew (S := fun V' => V'.cell? ⟨w.heap.size, 1, none⟩ = some (.slice (some ⟨g, 0, none⟩) N c) ∧ V'.cell? ⟨g, i, none⟩ = some (.int .u8 (x : Int)) ∧ V'.cell? ⟨sb, so + i, none⟩ = some (.int .u8 (x : Int))) (by kernel_rfl) ⟨c1, cx, cy⟩ (fun hHeld => ?_)
      have BZ : Hid (Below w.heap.size w wr.drew) := HB.out.drew
      generalize wr.drew = z0 at hHeld BZ ⊢
      refine wpAnyH_take (i := 0) (v := .pointer (some ⟨w.heap.size, 1, none⟩)) ov0 (by kernel_rfl) (by kernel_rfl) (by kernel_rfl) (fun _ _ _ h => h) (Or.inl ⟨by rfl, fun V' hS => ?_⟩) hHeld ?_
      · go_simp
      simp only [Act.put, List.setIfInBounds_toArray, List.set_cons_zero, List.set_cons_succ]
      refine wpAnyH_take (i := 1) (v := .slice (some ⟨g, 0, none⟩) N c) ov1 (by kernel_rfl) (by kernel_rfl) (by kernel_rfl) (fun _ _ _ h => h) (Or.inl ⟨by rfl, fun V' hS => ?_⟩) hHeld ?_
      · have k1 := hS.1
        go_simp
      simp only [Act.put, List.setIfInBounds_toArray, List.set_cons_zero, List.set_cons_succ]
      refine wpAnyH_take (i := 2) (v := .int .i64 (i : Int)) ov2 (by kernel_rfl) (by kernel_rfl) (by kernel_rfl) (fun _ _ _ h => h) (Or.inl ⟨by rfl, fun V' hS => ?_⟩) hHeld ?_
      · go_simp
      simp only [Act.put, List.setIfInBounds_toArray, List.set_cons_zero, List.set_cons_succ]
      refine wpAnyH_take (i := 3) (v := .pointer (some ⟨g, i, none⟩)) ov3 (by kernel_rfl) (by kernel_rfl) (by kernel_rfl) (fun _ _ _ h => h) (Or.inl ⟨by rfl, fun V' hS => ?_⟩) hHeld ?_
      · go_simp
      simp only [Act.put, List.setIfInBounds_toArray, List.set_cons_zero, List.set_cons_succ]
      refine wpAnyH_take (i := 4) (v := .int .u8 (x : Int)) ov4 (by kernel_rfl) (by kernel_rfl) (by kernel_rfl) (fun _ _ _ h => h) (Or.inl ⟨by rfl, fun V' hS => ?_⟩) hHeld ?_
      · have k1 := hS.2.1
        go_simp
      simp only [Act.put, List.setIfInBounds_toArray, List.set_cons_zero, List.set_cons_succ]
      refine wpAnyH_take (i := 5) (v := .slice (some ⟨sb, so, none⟩) n cap) ov5 (by kernel_rfl) (by kernel_rfl) (by kernel_rfl) (fun _ _ _ h => h) (Or.inl ⟨by rfl, fun V' hS => ?_⟩) hHeld ?_
      · go_simp
      simp only [Act.put, List.setIfInBounds_toArray, List.set_cons_zero, List.set_cons_succ]
      refine wpAnyH_take (i := 6) (v := .int .i64 (i : Int)) ov6 (by kernel_rfl) (by kernel_rfl) (by kernel_rfl) (fun _ _ _ h => h) (Or.inl ⟨by rfl, fun V' hS => ?_⟩) hHeld ?_
      · go_simp
      simp only [Act.put, List.setIfInBounds_toArray, List.set_cons_zero, List.set_cons_succ]
      refine wpAnyH_take (i := 7) (v := .pointer (some ⟨sb, so + i, none⟩)) ov7 (by kernel_rfl) (by kernel_rfl) (by kernel_rfl) (fun _ _ _ h => h) (Or.inl ⟨by rfl, fun V' hS => ?_⟩) hHeld ?_
      · go_simp
      simp only [Act.put, List.setIfInBounds_toArray, List.set_cons_zero, List.set_cons_succ]
      refine wpAnyH_take (i := 8) (v := .int .u8 (x : Int)) ov8 (by kernel_rfl) (by kernel_rfl) (by kernel_rfl) (fun _ _ _ h => h) (Or.inl ⟨by rfl, fun V' hS => ?_⟩) hHeld ?_
      · have k1 := hS.2.2
        go_simp
      simp only [Act.put, List.setIfInBounds_toArray, List.set_cons_zero, List.set_cons_succ]
      refine wpAnyH_take (i := 9) (v := .bool false) ov9 (by kernel_rfl) (by kernel_rfl) (by kernel_rfl) (fun _ _ _ h => h) (Or.inl ⟨by rfl, fun V' hS => ?_⟩) hHeld ?_
      · go_simp
      simp only [Act.put, List.setIfInBounds_toArray, List.set_cons_zero, List.set_cons_succ]
      refine wpAnyH_done (by kernel_rfl) ?_ _
      have C1 : Hid (z0.cell? ⟨w.heap.size, 1, none⟩ = some (.slice (some ⟨g, 0, none⟩) N c)) := hHeld.1
      have B1 : Hid (Below w.heap.size w z0) := BZ.out
      clear hHeld HB
      go_wp2
      go_roundw
      case rel => exact ⟨i + 1, by omega, by go_num, B1.out, C1.out⟩
      case measure => simp [intOf]; omega
    · obtain rfl : i = n := by omega
      have iI : ¬ ((i : Int) < (i : Int)) := by omega
      have HB : Hid (Below w.heap.size w wr) := hB
      have C1 : Hid (wr.cell? ⟨w.heap.size, 1, none⟩ = some (.slice (some ⟨g, 0, none⟩) N c)) := c1
      clear hB c1
      go_wp2
      go_loopw [8] (fun s wr => ∃ k : Nat, k ≤ 40 ∧ s = .int .i64 (k : Int) ∧ Below w.heap.size w wr ∧ wr.cell? ⟨w.heap.size, 1, none⟩ = some (.slice (some ⟨g, 0, none⟩) N c)) (fun s _ => 40 - (intOf s).toNat)
      case atStart => exact ⟨0, Nat.zero_le _, rfl, HB.out, C1.out⟩
      case round =>
        clear HB C1
        obtain ⟨k, hk, rfl, hB, c1⟩ := hrel
        by_cases hk5 : k < 40
        · have kI : (k : Int) < 40 := by omega
          obtain ⟨k3, e3⟩ : ∃ x : Nat, x = 3 * k := ⟨_, rfl⟩
          obtain ⟨x, ex⟩ : ∃ x : Nat, x = (m + k3) % 256 := ⟨_, rfl⟩
          obtain ⟨r, er⟩ : ∃ x : Nat, x = i + k := ⟨_, rfl⟩
          have s1 : (3 : Int) * (k : Int) = (k3 : Int) := by omega
          have s2 : (i : Int) + (k : Int) = (r : Int) := by omega
          have w1 : IntKind.i64.wrap (k3 : Int) = (k3 : Int) := by rw [IntKind.wrap_i64]; omega
          have w2 : IntKind.u8.wrap (k3 : Int) = (k3 : Int) := by rw [IntKind.wrap_u8]; omega
          have w3 : IntKind.u8.wrap ((m : Int) + (k3 : Int)) = (x : Int) := by rw [IntKind.wrap_u8]; omega
          have w4 : IntKind.i64.wrap (r : Int) = (r : Int) := by rw [IntKind.wrap_i64]; omega
          have rI : (r : Int) < (N : Int) := by omega
          have cx := (hB.cell (p := ⟨g, r, none⟩) hg0).trans (HBB.out r (by have := EN2.out; omega))
          rw [er, ← EN.out, getD_app_r, mkL_get _ _ _ hk5, ← e3, ← ex, EN.out, ← er] at cx
          have HB : Hid (Below w.heap.size w wr) := hB
          have C1 : Hid (wr.cell? ⟨w.heap.size, 1, none⟩ = some (.slice (some ⟨g, 0, none⟩) N c)) := c1
          clear hB hk e3 ex er
          go_wp2
          go_roundw
          case rel => exact ⟨k + 1, by omega, by go_num, HB.out, C1.out⟩
          case measure => simp [intOf]; omega
        · obtain rfl : k = 40 := by omega
          have HB : Hid (Below w.heap.size w wr) := hB
          clear hB
          go_wp2
          go_ret
          exact ⟨rfl, HB.out⟩
/-- the first i bytes written over -/
def wpU (L : List Nat) (i : Nat) : List Nat := L.mapIdx fun j x => if j < i then (x + 91) % 256 else x
theorem wpU_len (L : List Nat) (i : Nat) : (wpU L i).length = L.length := by simp [wpU]
theorem wpU_zero (L : List Nat) : wpU L 0 = L := by
  apply List.ext_getElem?; intro j; simp [wpU]
theorem wpU_get (L : List Nat) (i j : Nat) (hj : j < L.length) : (wpU L i).getD j 0 = if j < i then (L.getD j 0 + 91) % 256 else L.getD j 0 := by
  simp [wpU, List.getD_eq_getElem?_getD, List.getElem?_mapIdx, List.getElem?_eq_getElem hj]
theorem wpU_set (L : List Nat) (i : Nat) (hi : i < L.length) : (wpU L i).set i ((L.getD i 0 + 91) % 256) = wpU L (i + 1) := by
  apply List.ext_getElem?
  intro j
  by_cases e : i = j
  · subst e
    rw [List.getElem?_set_self (by rw [wpU_len]; exact hi)]
    simp [wpU, List.getElem?_mapIdx, List.getElem?_eq_getElem hi, List.getD_eq_getElem?_getD]
  · rw [List.getElem?_set_ne e]
    simp only [wpU, List.getElem?_mapIdx]
    cases L[j]? with
    | none => rfl
    | some x =>
      simp only [Option.map_some]
      by_cases h : j < i
      · rw [if_pos h, if_pos (by omega)]
      · rw [if_neg h, if_neg (by omega)]
set_option maxHeartbeats 2000000 in
set_option maxRecDepth 100000 in
theorem wipe_is (w : World) (b0 : Value) (g c N B : Nat) (L : List Nat) (hN : N ≤ 200000000) (hL : N = L.length) (ho : w.ownsRow B 5 1 (.slice (some ⟨g, 0, none⟩) N c) N (bytesL L)) :
    Calls Tryd.prog 19 #[.agg #[b0, .slice (some ⟨g, 0, none⟩) N c]] w fun e w' => e = .returned (.tuple #[]) ∧ w'.ownsRow B 5 1 (.slice (some ⟨g, 0, none⟩) N c) N (bytesL (wpU L N)) ∧ Only g w w' := by
  have hg0 : g < w.heap.size := (ho.lt g rfl).2
  have HL : Hid (N = L.length) := hL
  have NI : (N : Int) ≤ 200000000 := by omega
  have HO : Hid (w.ownsRow B 5 1 (.slice (some ⟨g, 0, none⟩) N c) N (bytesL L)) := ho
  clear ho hL
  go_enter Tryd.func19, Tryd.ntmps19
  go_upto_region 1 with fail
  have S0 : Hid (Only g w (w.alloc (.cells #[b0, .slice (some ⟨g, 0, none⟩) N c] 31)) ∧ (w.alloc (.cells #[b0, .slice (some ⟨g, 0, none⟩) N c] 31)).ownsRow B 5 1 (.slice (some ⟨g, 0, none⟩) N c) N (bytesL (wpU L 0)) ∧ (w.alloc (.cells #[b0, .slice (some ⟨g, 0, none⟩) N c] 31)).cell? ⟨w.heap.size, 1, none⟩ = some (.slice (some ⟨g, 0, none⟩) N c)) := ⟨Below.only ((Below.refl _ _).alloc (Nat.le_refl _) _) g, by rw [wpU_zero]; exact HO.out.alloc _, by simp⟩
  generalize w.alloc (.cells #[b0, .slice (some ⟨g, 0, none⟩) N c] 31) = W0 at S0 ⊢
  clear HO
  go_wp2
  go_loopw [2] (fun s wr => ∃ i : Nat, i ≤ N ∧ s = .int .i64 (i : Int) ∧ Only g w wr ∧ wr.ownsRow B 5 1 (.slice (some ⟨g, 0, none⟩) N c) N (bytesL (wpU L i)) ∧ wr.cell? ⟨w.heap.size, 1, none⟩ = some (.slice (some ⟨g, 0, none⟩) N c)) (fun s _ => N - (intOf s).toNat)
  case atStart => exact ⟨0, Nat.zero_le _, rfl, S0.out.1, S0.out.2.1, S0.out.2.2⟩
  case round =>
    clear S0
    obtain ⟨i, hi, rfl, hB, hown, c1⟩ := hrel
    by_cases hi5 : i < N
    · have iI : (i : Int) < (N : Int) := by omega
      have iL : i < L.length := by rw [← HL.out]; exact hi5
      have cx : wr.cell? ⟨g, i, none⟩ = some (.int .u8 (L.getD i 0 : Nat)) := by
        rw [hown.cellAt i (by omega)]
        have hlt : i < (wpU L i).length := by rw [wpU_len]; exact iL
        have := wpU_get L i i iL
        rw [if_neg (by omega)] at this
        rw [← this]
        simp [bytesL, List.getElem?_eq_getElem hlt, List.getD_eq_getElem?_getD]
      have fx := hown.frozenAt i
      have hset := wpU_set L i iL
      generalize L.getD i 0 = x at cx hset
      obtain ⟨y, ey⟩ : ∃ y : Nat, y = (x + 91) % 256 := ⟨_, rfl⟩
      rw [← ey] at hset
      have w1 : IntKind.u8.wrap ((x : Int) + 91) = (y : Int) := by rw [IntKind.wrap_u8]; omega
      have hgw : g ≠ w.heap.size := by omega
      have R : Hid (Only g w (wr.setCell ⟨g, i, none⟩ (.int .u8 (y : Int))).drew ∧ (wr.setCell ⟨g, i, none⟩ (.int .u8 (y : Int))).drew.ownsRow B 5 1 (.slice (some ⟨g, 0, none⟩) N c) N (bytesL (wpU L (i + 1))) ∧ (wr.setCell ⟨g, i, none⟩ (.int .u8 (y : Int))).drew.cell? ⟨w.heap.size, 1, none⟩ = some (.slice (some ⟨g, 0, none⟩) N c)) := by
        refine ⟨(hB.set i _).drew, ?_, ?_⟩
        · have h1 := (hown.stored i (.int .u8 (y : Int))).1
          rw [bytesL_set, hset] at h1
          exact h1.drew
        · show (wr.setCell ⟨g, i, none⟩ (.int .u8 (y : Int))).cell? ⟨w.heap.size, 1, none⟩ = _
          rw [World.cell?_setCell_other _ _ _ _ (by intro e; injection e with e _ _; exact hgw e)]; exact c1
      clear hB hown hset ey iL hi
      go_wp2
      go_region
      all_goals go_wp2
      all_goals go_roundw
      all_goals first
        | (case rel => exact ⟨i + 1, by omega, by go_num, R.out.1, R.out.2.1, R.out.2.2⟩)
        | (simp [intOf]; omega)
    · obtain rfl : i = N := by omega
      have iI : ¬ ((i : Int) < (i : Int)) := by omega
      have R : Hid (wr.ownsRow B 5 1 (.slice (some ⟨g, 0, none⟩) i c) i (bytesL (wpU L i)) ∧ Only g w wr) := ⟨hown, hB⟩
      clear hown hB
      go_wp2
      go_end0
      exact ⟨rfl, R.out⟩
end Go.Proofs.YteggikojfkmbkaaDoor
