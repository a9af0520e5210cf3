/- The law's 'cut': the bytes in pieces. -/
import Derived.Test.YteggikojfkmbkaaDoorKca
import Derived.OwnWalk
import Derived.LoopTactic
namespace Go.Proofs.YteggikojfkmbkaaDoor
open Go.RowKit
theorem Tryd.info29 : (Tryd.prog.info? 29).map (fun i => (i.zero, i.size, i.bytes)) = some (some (.slice none 0 0), 1, 24) := by kernel_rfl
/-- k pieces are cut off, the rest is s0, the list of the pieces s5 -/
def CutInv (w0 w : World) (l : List Nat) (k : Nat) (s0 s5 : Value) (W : World) : Prop :=
  ∃ (o : Nat) (Ls : List (List Nat)) (pvs : List Value), o ≤ l.length ∧ Seg w0 s0 (l.drop o) ∧ pvs.length = k ∧ Ls.length = k ∧ (∀ i, i < k → Seg w0 (pvs.getD i .nilFunc) (Ls.getD i [])) ∧ Ls.flatten = l.take o ∧
    W.ownsRow w.heap.size 29 1 s5 k pvs ∧ Below w.heap.size w W
theorem getD_snoc {α : Type} (l : List α) (x d : α) (k : Nat) (hk : l.length = k) (i : Nat) (hi : i < k + 1) : (l ++ [x]).getD i d = if i < k then l.getD i d else x := by
  by_cases h : i < k
  · rw [if_pos h, List.getD_eq_getElem?_getD, List.getElem?_append_left (by omega), ← List.getD_eq_getElem?_getD]
  · obtain rfl : i = k := by omega
    rw [if_neg h, List.getD_eq_getElem?_getD, List.getElem?_append_right (by omega), hk]; simp
theorem cut_step {w0 w wr w1 : World} {l r : List Nat} {k o n q cap : Nat} {Ls : List (List Nat)} {pvs : List Value} {ad : Option Addr} {s5 v' : Value} {ob : Obj} (ho : o ≤ l.length) (er : r = l.drop o) (en : n = r.length) (hr : Seg w0 (.slice ad r.length cap) r) (hq : q ≤ n)
    (hp : pvs.length = k) (hL : Ls.length = k) (hS : ∀ i, i < k → Seg w0 (pvs.getD i .nilFunc) (Ls.getD i [])) (hfl : Ls.flatten = l.take o) (hown : wr.ownsRow w.heap.size 29 1 s5 k pvs) (hB : Below w.heap.size w wr)
    (hown' : w1.ownsRow w.heap.size 29 1 v' (k + 1) (pvs ++ [.slice ad q cap])) (hg : (wr.alloc ob).grownBy w1 s5.ownBlock) : CutInv w0 w l (k + 1) (.slice (dropA ad cap q) (n - q) (cap - q)) v' w1 := by
  have hnl : r.length = l.length - o := by rw [er, List.length_drop]
  refine ⟨o + q, Ls ++ [r.take q], pvs ++ [.slice ad q cap], by omega, ?_, by simp [hp], by simp [hL], fun i hi => ?_, ?_, hown', Below.grown (hB.alloc hB.size ob) hg (by have := hB.size; simp; omega) (fun x h => (hown.lt x h).1)⟩
  · rw [← List.drop_drop, ← er, en]; exact hr.drop q (by omega)
  · rw [getD_snoc pvs _ _ k hp i hi, getD_snoc Ls _ _ k hL i hi]
    by_cases h : i < k
    · rw [if_pos h, if_pos h]; exact hS i h
    · rw [if_neg h, if_neg h]; exact hr.take q (by omega)
  · rw [List.flatten_append, hfl, List.take_add, er]; simp
theorem cut_end {w0 w wr w1 : World} {l : List Nat} {k o : Nat} {Ls : List (List Nat)} {pvs : List Value} {s0 s5 v' : Value} {ob : Obj} (hseg : Seg w0 s0 (l.drop o))
    (hp : pvs.length = k) (hL : Ls.length = k) (hS : ∀ i, i < k → Seg w0 (pvs.getD i .nilFunc) (Ls.getD i [])) (hfl : Ls.flatten = l.take o) (hown : wr.ownsRow w.heap.size 29 1 s5 k pvs) (hB : Below w.heap.size w wr)
    (hown' : w1.ownsRow w.heap.size 29 1 v' (k + 1) (pvs ++ [s0])) (hg : (wr.alloc ob).grownBy w1 s5.ownBlock) :
    ∃ (Ls : List (List Nat)) (pvs : List Value), w1.ownsRow w.heap.size 29 1 v' (k + 1) pvs ∧ pvs.length = k + 1 ∧ Ls.length = k + 1 ∧ (∀ i, i < k + 1 → Seg w0 (pvs.getD i .nilFunc) (Ls.getD i [])) ∧ Ls.flatten = l ∧ Below w.heap.size w w1 := by
  refine ⟨Ls ++ [l.drop o], pvs ++ [s0], hown', by simp [hp], by simp [hL], fun i hi => ?_, ?_, Below.grown (hB.alloc hB.size ob) hg (by have := hB.size; simp; omega) (fun x h => (hown.lt x h).1)⟩
  · rw [getD_snoc pvs _ _ k hp i hi, getD_snoc Ls _ _ k hL i hi]
    by_cases h : i < k
    · rw [if_pos h, if_pos h]; exact hS i h
    · rw [if_neg h, if_neg h]; exact hseg
  · rw [List.flatten_append, hfl]; simp
set_option maxHeartbeats 4000000 in
set_option maxRecDepth 100000 in
theorem cut_is (w0 w : World) (v0 : Value) (l : List Nat) (hv : Seg w0 v0 l) (hn : l.length ≤ 16777216) (la : Option Addr) (lc m : Nat) (zs : List Int) (hm : m ≤ 4096)
    (hc : m ≠ 0 → ∃ pb po, la = some ⟨pb, po, none⟩ ∧ ∀ i, i < m → w.cell? ⟨pb, po + i, none⟩ = some (.int .i64 (zs.getD i 0))) :
    Calls Tryd.prog 27 #[v0, .slice la m lc] w fun e w' => ∃ v, e = .returned v ∧ ∃ (Ls : List (List Nat)) (pvs : List Value), w'.ownsRow w.heap.size 29 1 v (m + 1) pvs ∧ pvs.length = m + 1 ∧ Ls.length = m + 1 ∧ (∀ i, i < m + 1 → Seg w0 (pvs.getD i .nilFunc) (Ls.getD i [])) ∧ Ls.flatten = l ∧ Below w.heap.size w w' := by
  have HC : Hid _ := hc
  have HV : Hid (Seg w0 v0 l) := hv
  obtain ⟨i0, hi, hz0, hz1, hz2⟩ := info_parts Tryd.info29
  have mI : (m : Int) ≤ 4096 := by omega
  clear hc hv
  go_enter Tryd.func27, Tryd.ntmps27
  go_wp2
  go_loopw [0, 5, 6] (fun s0 s5 i wr => ∃ k : Nat, k ≤ m ∧ i = .int .i64 k ∧ CutInv w0 w l k s0 s5 wr) (fun _ _ i _ => m - (intOf i).toNat)
  case atStart => exact ⟨0, Nat.zero_le _, rfl, 0, [], [], by omega, HV.out, rfl, rfl, fun i hi => absurd hi (by omega), rfl, World.ownsRow_nil _ _ _ _, Below.refl _ _⟩
  case round =>
    obtain ⟨k, hk, rfl, o, Ls, pvs, ho, hseg, hp, hL, hS, hfl, hown, hB⟩ := hrel
    have b1 := hB.size
    by_cases hk5 : k < m
    · have kI : ((k : Int) < (m : Int)) := by omega
      obtain ⟨pb, po, rfl, hcl⟩ := HC.out (by omega)
      have ck0 := hcl k hk5
      have ck := (hB.cell (p := ⟨pb, po + k, none⟩) (World.block_lt_of_cell? w _ ck0)).trans ck0
      generalize zs.getD k 0 = z at ck
      obtain ⟨ad, cap, rfl, h2, h3, h4, h5⟩ := hseg
      obtain ⟨r, er⟩ : ∃ r, r = l.drop o := ⟨_, rfl⟩
      rw [← er] at h2 h4 ⊢
      obtain ⟨n, en⟩ : ∃ n, n = r.length := ⟨_, rfl⟩
      have hr : Seg w0 (.slice ad r.length cap) r := ⟨ad, cap, rfl, h2, h3, h4, h5⟩
      rw [← en] at h2 ⊢
      obtain ⟨t, et⟩ : ∃ t, Int.tmod z 301 = t := ⟨_, rfl⟩
      have tb : -301 < t ∧ t < 301 := by
        have h1 := Int.tmod_lt_of_pos z (show (0 : Int) < 301 by omega)
        have h2 := Int.lt_tmod_of_pos z (show (0 : Int) < 301 by omega)
        omega
      have q1 : IntKind.i64.wrap t = t := by rw [IntKind.wrap_i64]; omega
      have q2 : IntKind.i64.wrap (-t) = -t := by rw [IntKind.wrap_i64]; omega
      have nI : (n : Int) ≤ 16777216 := by
        have : r.length ≤ l.length := by rw [er, List.length_drop]; omega
        omega
      obtain ⟨q0, eq0⟩ : ∃ q0 : Nat, q0 = t.natAbs := ⟨_, rfl⟩
      have STEP : Hid (∀ q, q ≤ n → ∀ {w1 : World} {v' : Value} {ob : Obj}, w1.ownsRow w.heap.size 29 1 v' (k + 1) (pvs ++ [.slice ad q cap]) → (wr.alloc ob).grownBy w1 u5.ownBlock → CutInv w0 w l (k + 1) (.slice (dropA ad cap q) (n - q) (cap - q)) v' w1) := fun q hq _ _ _ h1 h2 => cut_step ho er en hr hq hp hL hS hfl hown hB h1 h2
      have HOW : Hid (wr.ownsRow w.heap.size 29 1 u5 k pvs) := hown
      by_cases ht : t < 0
      · have r1 : -t = (q0 : Int) := by omega
        by_cases hq : (n : Int) < (q0 : Int)
        · have s1 := slice_to ad n cap n (by omega)
          have s2 := slice_from ad n cap n (by omega)
          have qn : n ≤ n := by omega
          clear ck0 hcl hr er en eq0 h4 h5 hS ho hp hL hfl hown hB HC HV
          go_wp2_with (at_builtin; refine wpList_append_own _ rfl _ _ 26 rfl w.heap.size 29 i0 (.slice none 0 0) 1 24 Tryd.underlying26 hi hz0 hz1 hz2 rfl (by decide) _ _ _ rfl (World.ownsRow.alloc HOW.out _) ⟨wr.heap.size, 0, none⟩ 1 1 [.slice ad n cap] rfl rfl (fun j u hj => (by have hj0 : j = 0 := (by have := (List.getElem?_eq_some_iff.1 hj).1; simpa using this); subst hj0; simp at hj; subst hj; simp [Addr.add])) (fun u hu => (by rw [List.mem_singleton.1 hu]; exact rfl)) (by unfold maxLen; omega) (by omega) (by simp; omega) ?_; intro v' w1 hown' hgrow _)
          have R : Hid _ := STEP.out n qn hown' hgrow
          clear hown' hgrow
          go_wp2
          go_roundw
          case rel => exact ⟨k + 1, by omega, by go_num, by have h := R.out; rw [Nat.sub_self] at h; exact h⟩
          case measure => simp [intOf]; omega
        · have s1 := slice_to ad n cap q0 (by omega)
          have s2 := slice_from ad n cap q0 (by omega)
          have qn : q0 ≤ n := by omega
          clear ck0 hcl hr er en eq0 h4 h5 hS ho hp hL hfl hown hB HC HV
          go_wp2_with (at_builtin; refine wpList_append_own _ rfl _ _ 26 rfl w.heap.size 29 i0 (.slice none 0 0) 1 24 Tryd.underlying26 hi hz0 hz1 hz2 rfl (by decide) _ _ _ rfl (World.ownsRow.alloc HOW.out _) ⟨wr.heap.size, 0, none⟩ 1 1 [.slice ad q0 cap] rfl rfl (fun j u hj => (by have hj0 : j = 0 := (by have := (List.getElem?_eq_some_iff.1 hj).1; simpa using this); subst hj0; simp at hj; subst hj; simp [Addr.add])) (fun u hu => (by rw [List.mem_singleton.1 hu]; exact rfl)) (by unfold maxLen; omega) (by omega) (by simp; omega) ?_; intro v' w1 hown' hgrow _)
          have R : Hid _ := STEP.out q0 qn hown' hgrow
          clear hown' hgrow
          go_wp2
          go_roundw
          case rel => exact ⟨k + 1, by omega, by go_num, R.out⟩
          case measure => simp [intOf]; omega
      · have r1 : t = (q0 : Int) := by omega
        rw [r1] at et q1 ht
        by_cases hq : (n : Int) < (q0 : Int)
        · have s1 := slice_to ad n cap n (by omega)
          have s2 := slice_from ad n cap n (by omega)
          have qn : n ≤ n := by omega
          clear ck0 hcl hr er en eq0 h4 h5 hS ho hp hL hfl hown hB HC HV
          go_wp2_with (at_builtin; refine wpList_append_own _ rfl _ _ 26 rfl w.heap.size 29 i0 (.slice none 0 0) 1 24 Tryd.underlying26 hi hz0 hz1 hz2 rfl (by decide) _ _ _ rfl (World.ownsRow.alloc HOW.out _) ⟨wr.heap.size, 0, none⟩ 1 1 [.slice ad n cap] rfl rfl (fun j u hj => (by have hj0 : j = 0 := (by have := (List.getElem?_eq_some_iff.1 hj).1; simpa using this); subst hj0; simp at hj; subst hj; simp [Addr.add])) (fun u hu => (by rw [List.mem_singleton.1 hu]; exact rfl)) (by unfold maxLen; omega) (by omega) (by simp; omega) ?_; intro v' w1 hown' hgrow _)
          have R : Hid _ := STEP.out n qn hown' hgrow
          clear hown' hgrow
          go_wp2
          go_roundw
          case rel => exact ⟨k + 1, by omega, by go_num, by have h := R.out; rw [Nat.sub_self] at h; exact h⟩
          case measure => simp [intOf]; omega
        · have s1 := slice_to ad n cap q0 (by omega)
          have s2 := slice_from ad n cap q0 (by omega)
          have qn : q0 ≤ n := by omega
          clear ck0 hcl hr er en eq0 h4 h5 hS ho hp hL hfl hown hB HC HV
          go_wp2_with (at_builtin; refine wpList_append_own _ rfl _ _ 26 rfl w.heap.size 29 i0 (.slice none 0 0) 1 24 Tryd.underlying26 hi hz0 hz1 hz2 rfl (by decide) _ _ _ rfl (World.ownsRow.alloc HOW.out _) ⟨wr.heap.size, 0, none⟩ 1 1 [.slice ad q0 cap] rfl rfl (fun j u hj => (by have hj0 : j = 0 := (by have := (List.getElem?_eq_some_iff.1 hj).1; simpa using this); subst hj0; simp at hj; subst hj; simp [Addr.add])) (fun u hu => (by rw [List.mem_singleton.1 hu]; exact rfl)) (by unfold maxLen; omega) (by omega) (by simp; omega) ?_; intro v' w1 hown' hgrow _)
          have R : Hid _ := STEP.out q0 qn hown' hgrow
          clear hown' hgrow
          go_wp2
          go_roundw
          case rel => exact ⟨k + 1, by omega, by go_num, R.out⟩
          case measure => simp [intOf]; omega
    · obtain rfl : k = m := by omega
      have HOW : Hid (wr.ownsRow w.heap.size 29 1 u5 k pvs) := hown
      have FIN : Hid (∀ {w1 : World} {v' : Value} {ob : Obj}, w1.ownsRow w.heap.size 29 1 v' (k + 1) (pvs ++ [u0]) → (wr.alloc ob).grownBy w1 u5.ownBlock → ∃ (Ls : List (List Nat)) (pvs : List Value), w1.ownsRow w.heap.size 29 1 v' (k + 1) pvs ∧ pvs.length = k + 1 ∧ Ls.length = k + 1 ∧ (∀ i, i < k + 1 → Seg w0 (pvs.getD i .nilFunc) (Ls.getD i [])) ∧ Ls.flatten = l ∧ Below w.heap.size w w1) := fun h1 h2 => cut_end hseg hp hL hS hfl hown hB h1 h2
      obtain ⟨ad, cap, rfl, h2, h3, h4, h5⟩ := hseg
      generalize (l.drop o).length = n at FIN ⊢
      clear hp hL hS hfl hown hB HC HV h2 h3 h4 h5 ho
      go_wp2_with (at_builtin; refine wpList_append_own _ rfl _ _ 26 rfl w.heap.size 29 i0 (.slice none 0 0) 1 24 Tryd.underlying26 hi hz0 hz1 hz2 rfl (by decide) _ _ _ rfl (World.ownsRow.alloc HOW.out _) ⟨wr.heap.size, 0, none⟩ 1 1 [.slice ad n cap] rfl rfl (fun j u hj => (by have hj0 : j = 0 := (by have := (List.getElem?_eq_some_iff.1 hj).1; simpa using this); subst hj0; simp at hj; subst hj; simp [Addr.add])) (fun u hu => (by rw [List.mem_singleton.1 hu]; exact rfl)) (by unfold maxLen; omega) (by omega) (by simp; omega) ?_; intro v' w1 hown' hgrow _)
      have R : Hid _ := FIN.out hown' hgrow
      clear hown' hgrow
      go_wp2
      go_ret
      exact ⟨_, rfl, R.out⟩
end Go.Proofs.YteggikojfkmbkaaDoor
