/- OpNeeds: both tables answer the same of every instruction with immediate bytes, and leave the bytes as they were. -/
import Derived.Test.YtipdaiacapjfnaaDoorNeb
import Derived.Test.YtipdaiacapjfnaaDoorRgn
namespace Go.Proofs.YtipdaiacapjfnaaDoor
open Go.RowKit
theorem op17 {q0 q1 q2 q3 q4 q5 q6 q7 q8 q9 q10 q11 q12 q13 q14 q15 q16 x : Oper} {r : List Oper} : (q0 :: q1 :: q2 :: q3 :: q4 :: q5 :: q6 :: q7 :: q8 :: q9 :: q10 :: q11 :: q12 :: q13 :: q14 :: q15 :: q16 :: x :: r).toArray[17]? = some x := rfl
/-- the cells of a list of what is asked -/
def AskAt (W : World) (la : Option Addr) (n : Nat) (C : Nat → Int) (V : Nat → Value) : Prop := n ≠ 0 → ∃ g o, la = some ⟨g, o, none⟩ ∧ ∀ i, i < n → W.cell? ⟨g, o + i * 2, none⟩ = some (.int .i64 (C i)) ∧ W.cell? ⟨g, o + i * 2 + 1, none⟩ = some (V i)
set_option maxHeartbeats 4000000 in
set_option maxRecDepth 100000 in
theorem opNeeds_walk (w : World) (hn0 : Nms w) (la : Option Addr) (n cap : Nat) (C : Nat → Int) (V : Nat → Value) (m : Nat → Nat) (b : Nat → Nat → Nat) (hn : n ≤ 9223372036854775807) (hc : AskAt w la n C V)
    (hv : ∀ i, i < n → BytesOf w (V i) (m i) (b i)) (hm : ∀ i, i < n → m i ≤ 140737488355328) :
    Calls Tryd.prog 6 #[.slice la n cap] w fun e w' => e = .returned (.bool true) ∧ Below w.heap.size w w' := by
  have HC : Hid (AskAt w la n C V) := hc
  have HV : Hid (∀ i, i < n → BytesOf w (V i) (m i) (b i)) := hv
  have HM : Hid (∀ i, i < n → m i ≤ 140737488355328) := hm
  have HN : Hid (Nms w) := hn0
  clear hc hn0 hv hm
  have nL : (n : Int) ≤ 9223372036854775807 := by omega
  obtain ⟨i0, hi0, hz0, hz1, hz2⟩ := info_parts infoU8
  go_enter Tryd.func6, Tryd.ntmps6
  go_wp2
  go_loopw [3, 4] (fun s3 s4 wx => ∃ (N i : Nat), i ≤ n ∧ N ≤ 40000 ∧ s3 = .int .i64 (N : Int) ∧ s4 = .int .i64 (i : Int) ∧ wx = w ∧ ∀ j, j < i → m j ≤ 40000) (fun _ s4 _ => n - (intOf s4).toNat)
  case atStart => exact ⟨0, 0, by omega, by omega, rfl, rfl, rfl, fun j hj => absurd hj (by omega)⟩
  case round =>
    obtain ⟨N, i, hin, hN4, rfl, rfl, hw, hmj⟩ := hrel
    obtain rfl : w = wr := hw.symm
    have MJ : Hid (∀ j, j < i → m j ≤ 40000) := hmj
    clear hmj
    by_cases hi : i < n
    · have iI : (i : Int) < (n : Int) := by omega
      obtain ⟨g, o, rfl, hcl⟩ := HC.out (by omega)
      have hci := (hcl i hi).2
      obtain ⟨ad, cp, eV, _⟩ := HV.out i hi
      have hM := HM.out i hi
      rw [eV] at hci
      obtain ⟨mm, em⟩ : ∃ mm, mm = m i := ⟨_, rfl⟩
      have EM : Hid (mm = m i) := em
      rw [← em] at hci hM
      clear hcl em eV
      have mI : (mm : Int) ≤ 140737488355328 := by omega
      have NI : (N : Int) ≤ 40000 := by omega
      by_cases h5 : (40000 : Int) < (N : Int) + ((mm : Int) + 1)
      · go_wp2
        go_ret
        exact ⟨rfl, Below.refl _ _⟩
      · go_wp2
        go_roundw
        case rel => exact ⟨N + (mm + 1), i + 1, by omega, by omega, by go_num, by go_num, by first | trivial | rfl, fun j hj => by
          by_cases e : j = i
          · rw [e, ← EM.out]; omega
          · exact MJ.out j (by omega)⟩
        case measure => first | go_num | (show _ < _; simp [intOf]; omega)
    · obtain rfl : n = i := by omega
      clear hin hi hN4
      go_wp2
      go_loopw [5] (fun si wx => ∃ i : Nat, i ≤ n ∧ si = .int .i64 (i : Int) ∧ Below w.heap.size w wx) (fun si _ => n - (intOf si).toNat)
      case atStart => exact ⟨0, by omega, rfl, Below.refl _ _⟩
      case round =>
        obtain ⟨i, hin, rfl, hB⟩ := hrel
        have BB : Hid (Below w.heap.size w wr) := hB
        clear hB
        by_cases hi : i < n
        · have iI : (i : Int) < (n : Int) := by omega
          obtain ⟨g, o, rfl, hcl⟩ := HC.out (by omega)
          have hci := hcl i hi
          have hV := HV.out i hi
          have hmm := MJ.out i hi
          generalize C i = ci at hci
          generalize V i = vi at hci hV
          generalize m i = mm at hV hmm
          generalize b i = bi at hV
          have hV' := hV
          obtain ⟨ad, cp, rfl, hb, hnil, hby⟩ := hV'
          have gl := World.block_lt_of_cell? w _ hci.1
          have CC : Hid (w.cell? ⟨g, o + i * 2, none⟩ = some (.int .i64 ci) ∧ w.cell? ⟨g, o + i * 2 + 1, none⟩ = some (.slice ad mm cp)) := hci
          have BY : Hid (BytesOf w (.slice ad mm cp) mm bi) := hV
          have HBI : Hid (∀ j, bi j < 256) := hb
          have HNIL : Hid (ad = none → cp = 0 ∧ mm = 0) := hnil
          have HBY : Hid _ := hby
          have mI : (mm : Int) ≤ 40000 := by omega
          clear hcl hci hb hnil hby hV
          obtain ⟨a1, a2, ak, hNV⟩ := nv_parts ci mm (bi 0)
          have R1 : Hid (∀ W : World, BytesOf W (.slice ad mm cp) mm bi → Calls Tryd.prog 16 #[.int .i64 ci, .slice ad mm cp] W fun e w' => e = .returned (.tuple #[.int .i64 a1, .int .i64 a2, .bool ak]) ∧ Below W.heap.size W w') := fun W h => by have := rneeds_is ci _ mm (bi 0) W (h.hd (by omega)); rw [hNV] at this; exact this
          have R2 : Hid (∀ (W : World) (v : Value), Nms W → BytesOf W v mm bi → Calls Tryd.prog 17 #[.int .i64 ci, v] W fun e w' => e = .returned (.tuple #[.int .i64 a1, .int .i64 a2, .bool ak]) ∧ Below W.heap.size W w') := fun W v hN h => by have := needs_is ci v mm (bi 0) W hN (h.hd (by omega)); rw [hNV] at this; exact this
          clear hNV
          go_upto_region 11 with fail
          refine wp_region_held_drew (S := fun V' => Below w.heap.size w V') (by kernel_rfl) BB.out.drew (fun hHeld => ?_)
          generalize wr.drew = z0 at hHeld ⊢
          refine wpAnyH_take (i := 0) (v := .slice (some ⟨g, o, none⟩) n cap) op0 (by kernel_rfl) (by kernel_rfl) (by kernel_rfl) (fun _ _ _ h => h) (Or.inl ⟨by rfl, fun V' hS => ?_⟩) hHeld ?_
          · go_simp
          simp only [Act.put, List.setIfInBounds_toArray, List.set_cons_zero, List.set_cons_succ]
          refine wpAnyH_take (i := 1) (v := .int .i64 (i : Int)) op1 (by kernel_rfl) (by kernel_rfl) (by kernel_rfl) (fun _ _ _ h => h) (Or.inl ⟨by rfl, fun V' hS => ?_⟩) hHeld ?_
          · go_simp
          simp only [Act.put, List.setIfInBounds_toArray, List.set_cons_zero, List.set_cons_succ]
          refine wpAnyH_take (i := 2) (v := .pointer (some ⟨g, o + i * 2, none⟩)) op2 (by kernel_rfl) (by kernel_rfl) (by kernel_rfl) (fun _ _ _ h => h) (Or.inl ⟨by rfl, fun V' hS => ?_⟩) hHeld ?_
          · go_simp
          simp only [Act.put, List.setIfInBounds_toArray, List.set_cons_zero, List.set_cons_succ]
          refine wpAnyH_take (i := 3) (v := .pointer (some ⟨g, o + i * 2, none⟩)) op3 (by kernel_rfl) (by kernel_rfl) (by kernel_rfl) (fun _ _ _ h => h) (Or.inl ⟨by rfl, fun V' hS => ?_⟩) hHeld ?_
          · go_simp
          simp only [Act.put, List.setIfInBounds_toArray, List.set_cons_zero, List.set_cons_succ]
          refine wpAnyH_take (i := 4) (v := .int .i64 ci) op4 (by kernel_rfl) (by kernel_rfl) (by kernel_rfl) (fun _ _ _ h => h) (Or.inl ⟨by rfl, fun V' hS => ?_⟩) hHeld ?_
          · have kc : V'.cell? ⟨g, o + i * 2, none⟩ = some (.int .i64 ci) := (hS.cell (p := ⟨g, o + i * 2, none⟩) gl).trans CC.out.1
            go_simp
          simp only [Act.put, List.setIfInBounds_toArray, List.set_cons_zero, List.set_cons_succ]
          refine wpAnyH_take (i := 5) (v := .slice (some ⟨g, o, none⟩) n cap) op5 (by kernel_rfl) (by kernel_rfl) (by kernel_rfl) (fun _ _ _ h => h) (Or.inl ⟨by rfl, fun V' hS => ?_⟩) hHeld ?_
          · go_simp
          simp only [Act.put, List.setIfInBounds_toArray, List.set_cons_zero, List.set_cons_succ]
          refine wpAnyH_take (i := 6) (v := .int .i64 (i : Int)) op6 (by kernel_rfl) (by kernel_rfl) (by kernel_rfl) (fun _ _ _ h => h) (Or.inl ⟨by rfl, fun V' hS => ?_⟩) hHeld ?_
          · go_simp
          simp only [Act.put, List.setIfInBounds_toArray, List.set_cons_zero, List.set_cons_succ]
          refine wpAnyH_take (i := 7) (v := .pointer (some ⟨g, o + i * 2, none⟩)) op7 (by kernel_rfl) (by kernel_rfl) (by kernel_rfl) (fun _ _ _ h => h) (Or.inl ⟨by rfl, fun V' hS => ?_⟩) hHeld ?_
          · go_simp
          simp only [Act.put, List.setIfInBounds_toArray, List.set_cons_zero, List.set_cons_succ]
          refine wpAnyH_take (i := 8) (v := .pointer (some ⟨g, o + i * 2 + 1, none⟩)) op8 (by kernel_rfl) (by kernel_rfl) (by kernel_rfl) (fun _ _ _ h => h) (Or.inl ⟨by rfl, fun V' hS => ?_⟩) hHeld ?_
          · go_simp
          simp only [Act.put, List.setIfInBounds_toArray, List.set_cons_zero, List.set_cons_succ]
          refine wpAnyH_take (i := 9) (v := .slice ad mm cp) op9 (by kernel_rfl) (by kernel_rfl) (by kernel_rfl) (fun _ _ _ h => h) (Or.inl ⟨by rfl, fun V' hS => ?_⟩) hHeld ?_
          · have kv : V'.cell? ⟨g, o + i * 2 + 1, none⟩ = some (.slice ad mm cp) := (hS.cell (p := ⟨g, o + i * 2 + 1, none⟩) gl).trans CC.out.2
            go_simp
          simp only [Act.put, List.setIfInBounds_toArray, List.set_cons_zero, List.set_cons_succ]
          refine wpAnyH_ready (rs := [10]) (by kernel_rfl) (by simp) ?_
          refine AllReadyH.cons op10 (fun K hK => ?_) AllReadyH.nil
          rw [if_pos (by rfl)]
          go_simp
          refine (R1.out _ (BY.out.below rfl hHeld)).mono ?_
          rintro e z1 ⟨rfl, hB⟩
          have B1 : Below w.heap.size w z1 := hHeld.trans (hB.mono hHeld.size)
          clear hB hHeld BB
          (try go_wp2_with fail)
          refine hK.out _ _ B1 (fun _ => ?_)
          clear hK K
          (try simp only [Act.put, List.setIfInBounds_toArray, List.set_cons_zero, List.set_cons_succ])
          refine wpAnyH_take (i := 11) (v := .tuple #[.int .i64 a1, .int .i64 a2, .bool ak]) op11 (by kernel_rfl) (by kernel_rfl) (by kernel_rfl) (fun _ _ _ h => h) (Or.inl ⟨by rfl, fun V' hS => ?_⟩) B1 ?_
          · go_simp
          simp only [Act.put, List.setIfInBounds_toArray, List.set_cons_zero, List.set_cons_succ]
          refine wpAnyH_take (i := 12) (v := .int .i64 a1) op12 (by kernel_rfl) (by kernel_rfl) (by kernel_rfl) (fun _ _ _ h => h) (Or.inl ⟨by rfl, fun V' hS => ?_⟩) B1 ?_
          · go_simp
          simp only [Act.put, List.setIfInBounds_toArray, List.set_cons_zero, List.set_cons_succ]
          refine wpAnyH_take (i := 13) (v := .int .i64 a2) op13 (by kernel_rfl) (by kernel_rfl) (by kernel_rfl) (fun _ _ _ h => h) (Or.inl ⟨by rfl, fun V' hS => ?_⟩) B1 ?_
          · go_simp
          simp only [Act.put, List.setIfInBounds_toArray, List.set_cons_zero, List.set_cons_succ]
          refine wpAnyH_take (i := 14) (v := .bool ak) op14 (by kernel_rfl) (by kernel_rfl) (by kernel_rfl) (fun _ _ _ h => h) (Or.inl ⟨by rfl, fun V' hS => ?_⟩) B1 ?_
          · go_simp
          simp only [Act.put, List.setIfInBounds_toArray, List.set_cons_zero, List.set_cons_succ]
          refine wpAnyH_take (i := 15) (v := .int .i64 a1) op15 (by kernel_rfl) (by kernel_rfl) (by kernel_rfl) (fun _ _ _ h => h) (Or.inl ⟨by rfl, fun V' hS => ?_⟩) B1 ?_
          · go_simp
          simp only [Act.put, List.setIfInBounds_toArray, List.set_cons_zero, List.set_cons_succ]
          refine wpAnyH_take (i := 16) (v := .int .i64 a2) op16 (by kernel_rfl) (by kernel_rfl) (by kernel_rfl) (fun _ _ _ h => h) (Or.inl ⟨by rfl, fun V' hS => ?_⟩) B1 ?_
          · go_simp
          simp only [Act.put, List.setIfInBounds_toArray, List.set_cons_zero, List.set_cons_succ]
          refine wpAnyH_take (i := 17) (v := .bool ak) op17 (by kernel_rfl) (by kernel_rfl) (by kernel_rfl) (fun _ _ _ h => h) (Or.inl ⟨by rfl, fun V' hS => ?_⟩) B1 ?_
          · go_simp
          simp only [Act.put, List.setIfInBounds_toArray, List.set_cons_zero, List.set_cons_succ]
          refine wpAnyH_done (by kernel_rfl) ?_ _
          have B2 : Hid (Below w.heap.size w z1) := B1
          clear B1
          go_upto_region 12 with fail
          go_cut [9] (fun s9 wx => Whole w mm bi s9 wx)
          case first =>
            have b1 := B2.out.size
            have BA : Hid (Below w.heap.size w (z1.alloc (.cells #[] 5))) := B2.out.alloc b1 _
            have OA : Hid ((z1.alloc (.cells #[] 5)).ownsRow w.heap.size 5 1 (.slice (some ⟨z1.heap.size, 0, none⟩) 0 0) 0 []) := World.ownsRow_made z1 #[] 0 b1 (by unfold maxLen; omega) rfl
            have kv : (z1.alloc (.cells #[] 5)).cell? ⟨g, o + i * 2 + 1, none⟩ = some (.slice ad mm cp) := (BA.out.cell (p := ⟨g, o + i * 2 + 1, none⟩) gl).trans CC.out.2
            rcases ad with _ | a
            · obtain ⟨rfl, rfl⟩ := HNIL.out rfl
              go_wp2_with (first
                | (at_builtin; refine wpList_append_own_none rfl _ _ 39 rfl w.heap.size 5 i0 1 Tryd.underlying39 hi0 _ 0 [] rfl OA.out rfl ?_)
                | (at_builtin; refine wpList_append_own _ rfl _ _ 39 rfl w.heap.size 5 i0 (.int .u8 0) 1 1 Tryd.underlying39 hi0 hz0 hz1 hz2 rfl (by decide) _ _ _ rfl (World.ownsRow.alloc OA.out _) _ 3 3 marks rfl rfl (fun j u hj => (by have hj0 : j = 0 ∨ j = 1 ∨ j = 2 := (by have := (List.getElem?_eq_some_iff.1 hj).1; simp [marks] at this; omega); rcases hj0 with rfl | rfl | rfl <;> (simp [marks] at hj; subst hj; simp [Addr.add]))) (fun u hu => (by simp [marks] at hu; rcases hu with rfl | rfl | rfl <;> rfl)) (by unfold maxLen; omega) (by omega) (by simp; omega) ?_; intro v' w1 hown' hgrow _))
              have R : Hid (Whole w 0 bi v' w1) := ⟨by simpa [bsL] using hown', Below.grown (BA.out.alloc BA.out.size _) hgrow (by have := BA.out.size; simp at this ⊢; omega) (fun q h => (OA.out.lt q h).1)⟩
              clear hown' hgrow
              go_wp2
              go_meet
              case rel => exact R.out
            · have HN1 : Hid (∀ j u, (bsL mm bi)[j]? = some u → (z1.alloc (.cells #[] 5)).cell? (a.add j) = some u) := by
                intro j u hj
                obtain ⟨hj', rfl⟩ := bsL_at hj
                obtain ⟨sb, so, ha, hby⟩ := HBY.out (by omega)
                obtain rfl := Option.some.inj ha
                rw [Addr.add_mid]
                exact (Below.cell BA.out (p := ⟨sb, so + j, none⟩) (World.block_lt_of_cell? w _ (hby j hj'))).trans (hby j hj')
              go_wp2_with (first
                | (at_builtin; refine wpList_append_own _ rfl _ _ 39 rfl w.heap.size 5 i0 (.int .u8 0) 1 1 Tryd.underlying39 hi0 hz0 hz1 hz2 rfl (by decide) _ _ _ rfl OA.out a mm cp (bsL mm bi) rfl (by rw [bsL_len]; omega) HN1.out (bsL_one mm bi) (by unfold maxLen; omega) (by omega) (by simp; omega) ?_; intro v' w1 hown' hgrow _; (have OB : Hid (w1.ownsRow w.heap.size 5 1 v' mm (bsL mm bi)) := by unfold Hid; simpa using hown'); (have BC : Hid (Below w.heap.size w w1) := Below.grown BA.out hgrow (by have := BA.out.size; simpa using this) (fun q h => (OA.out.lt q h).1)); clear hown' hgrow HN1 OA BA B2 kv; (have sz := BC.out.size))
                | (at_builtin; refine wpList_append_own _ rfl _ _ 39 rfl w.heap.size 5 i0 (.int .u8 0) 1 1 Tryd.underlying39 hi0 hz0 hz1 hz2 rfl (by decide) _ _ _ rfl (World.ownsRow.alloc OB.out _) _ 3 3 marks rfl rfl (fun j u hj => (by have hj0 : j = 0 ∨ j = 1 ∨ j = 2 := (by have := (List.getElem?_eq_some_iff.1 hj).1; simp [marks] at this; omega); rcases hj0 with rfl | rfl | rfl <;> (simp [marks] at hj; subst hj; simp [Addr.add]))) (fun u hu => (by simp [marks] at hu; rcases hu with rfl | rfl | rfl <;> rfl)) (by unfold maxLen; omega) (by omega) (by simp; omega) ?_; intro v2 w2 hown' hgrow _))
              have R : Hid (Whole w mm bi v2 w2) := ⟨hown', Below.grown (BC.out.alloc BC.out.size _) hgrow (by simp; omega) (fun q h => (OB.out.lt q h).1)⟩
              clear hown' hgrow
              go_wp2
              go_meet
              case rel => exact R.out
          case rest =>
            have B3 : Hid (Below w.heap.size w wc) := hcut.2
            obtain ⟨g9, o9, M, cap9, hg9, hlt9, eM, hMc, rfl, hMk, hOw⟩ := Whole.parts HBI.out hcut
            have K3 : Hid (Marked wc g9 o9 mm bi) := hMk
            have O3 : Hid (OwnB wc g9 o9 mm bi) := hOw
            have G9 : Hid (w.heap.size ≤ g9) := hg9
            have HMQ : Hid (mm ≤ 40000 ∧ mm + 3 ≤ M ∧ M ≤ 50000) := ⟨by omega, by omega, by omega⟩
            have mc : mm ≤ cap9 := by omega
            have st := fun W => slice_toB (some ⟨g9, o9, none⟩) M cap9 mm mc W
            have kv : wc.cell? ⟨g, o + i * 2 + 1, none⟩ = some (.slice ad mm cp) := (B3.out.cell (p := ⟨g, o + i * 2 + 1, none⟩) gl).trans CC.out.2
            clear hcut eM hMk hOw hg9 B2 hmm hlt9
            go_wp2
            clear kv st
            go_loopw [11] (fun sk wx => ∃ k : Nat, k ≤ 2 ∧ sk = .int .i64 (k : Int) ∧ Below w.heap.size w wx ∧ Marked wx g9 o9 mm bi ∧ OwnB wx g9 o9 mm bi) (fun sk _ => 2 - (intOf sk).toNat)
            case atStart => exact ⟨0, by omega, rfl, B3.out, K3.out, O3.out⟩
            case round =>
              obtain ⟨k, hk, rfl, hB, hMk, hOw⟩ := hrel
              clear B3 K3 O3
              have B4 : Hid (Below w.heap.size w wr) := hB
              have K4 : Hid (Marked wr g9 o9 mm bi) := hMk
              have O4 : Hid (OwnB wr g9 o9 mm bi) := hOw
              clear hB hMk hOw
              by_cases hk2 : k < 2
              · have kI : (k : Int) < 2 := by omega
                have kc : wr.cell? ⟨g, o + i * 2, none⟩ = some (.int .i64 ci) := (B4.out.cell (p := ⟨g, o + i * 2, none⟩) gl).trans CC.out.1
                go_upto_region 18 with (go_at_call 17; refine (R2.out _ _ (HN.out.past B4.out) (O4.out.bytes cap9)).mono ?_; rintro e w3 ⟨rfl, hB⟩; (have B5 : Hid (Below w.heap.size w w3) := B4.out.trans (hB.mono B4.out.size)); (have K5 : Hid (Marked w3 g9 o9 mm bi) := K4.out.past hB); (have O5 : Hid (OwnB w3 g9 o9 mm bi) := O4.out.past hB); clear hB kc B4 K4 O4)
                have kv : w3.cell? ⟨g, o + i * 2 + 1, none⟩ = some (.slice ad mm cp) := (B5.out.cell (p := ⟨g, o + i * 2 + 1, none⟩) gl).trans CC.out.2
                go_wp2_with (go_at_call 18; refine (kept_is w3 g9 o9 M cap9 mm _ bi HMQ.out.1 HMQ.out.2 (BY.out.below rfl B5.out) K5.out).mono ?_; rintro e w4 ⟨rfl, hB⟩; (have B6 : Hid (Below w.heap.size w w4) := B5.out.trans (hB.mono B5.out.size)); (have K6 : Hid (Marked w4 g9 o9 mm bi) := K5.out.past hB); (have O6 : Hid (OwnB w4 g9 o9 mm bi) := O5.out.past hB); clear hB kv B5 K5 O5)
                go_roundw
                case rel => exact ⟨k + 1, by omega, by go_num, B6.out, K6.out, O6.out⟩
                case measure => first | go_num | (show _ < _; simp [intOf]; omega)
              · obtain rfl : k = 2 := by omega
                clear hk hk2
                go_wp2
                go_loopw [15] (fun sk wx => ∃ k : Nat, k ≤ mm ∧ sk = .int .i64 (k : Int) ∧ Below w.heap.size w wx ∧ ∃ c, OwnB wx g9 o9 mm c) (fun sk _ => mm - (intOf sk).toNat)
                case atStart => exact ⟨0, by omega, rfl, B4.out, _, O4.out⟩
                case round =>
                  obtain ⟨k, hk, rfl, hB, c, hOw⟩ := hrel
                  clear B4 K4 O4
                  have B8 : Hid (Below w.heap.size w wr) := hB
                  have O8 : Hid (OwnB wr g9 o9 mm c) := hOw
                  clear hB hOw
                  by_cases hkm : k < mm
                  · have kI : (k : Int) < (mm : Int) := by omega
                    obtain ⟨d0, f0⟩ := O8.out.2 k hkm
                    have hx := O8.out.1 k
                    obtain ⟨x, ex⟩ : ∃ x, x = c k := ⟨_, rfl⟩
                    rw [← ex] at d0 hx
                    clear ex
                    have e8 : IntKind.u8.wrap ((x : Int) + 85) = (((x + 85) % 256 : Nat) : Int) := by rw [IntKind.wrap_u8]; omega
                    have r8 : (x + 85) % 256 < 256 := by omega
                    generalize (x + 85) % 256 = r at e8 r8
                    go_wp2
                    have B9 : Hid (Below w.heap.size w (wr.setCell ⟨g9, o9 + k, none⟩ (.int .u8 (r : Int)))) := B8.out.setCell G9.out _
                    have O9 : Hid (∃ c, OwnB (wr.setCell ⟨g9, o9 + k, none⟩ (.int .u8 (r : Int))) g9 o9 mm c) := ⟨_, O8.out.set k r hkm r8⟩
                    go_roundw
                    case rel => exact ⟨k + 1, by omega, by go_num, B9.out, O9.out⟩
                    case measure => first | go_num | (show _ < _; simp [intOf]; omega)
                  · obtain rfl : mm = k := by omega
                    clear hk hkm
                    obtain ⟨e1, e2, ek, hNV2⟩ := nv_parts ci mm (c 0)
                    have R3 : Hid (∀ (W : World) (v : Value), BytesOf W v mm c → Calls Tryd.prog 16 #[.int .i64 ci, v] W fun e w' => e = .returned (.tuple #[.int .i64 e1, .int .i64 e2, .bool ek]) ∧ Below W.heap.size W w') := fun W v h => by have := rneeds_is ci v mm (c 0) W (h.hd (by omega)); rw [hNV2] at this; exact this
                    have R4 : Hid (∀ (W : World) (v : Value), Nms W → BytesOf W v mm c → Calls Tryd.prog 17 #[.int .i64 ci, v] W fun e w' => e = .returned (.tuple #[.int .i64 e1, .int .i64 e2, .bool ek]) ∧ Below W.heap.size W w') := fun W v hN h => by have := needs_is ci v mm (c 0) W hN (h.hd (by omega)); rw [hNV2] at this; exact this
                    clear hNV2 R1 R2
                    go_upto_region 24 with fail
                    refine wp_region_held_drew (S := fun V' => Below w.heap.size w V' ∧ OwnB V' g9 o9 mm c) (by kernel_rfl) ⟨B8.out.drew, O8.out.past ((Below.refl _ _).drew)⟩ (fun hHeld => ?_)
                    generalize wr.drew = z3 at hHeld ⊢
                    clear B8 O8
                    refine wpAnyH_take (i := 0) (v := .slice (some ⟨g, o, none⟩) n cap) op0 (by kernel_rfl) (by kernel_rfl) (by kernel_rfl) (fun _ _ _ h => h) (Or.inl ⟨by rfl, fun V' hS => ?_⟩) hHeld ?_
                    · go_simp
                    simp only [Act.put, List.setIfInBounds_toArray, List.set_cons_zero, List.set_cons_succ]
                    refine wpAnyH_take (i := 1) (v := .int .i64 (i : Int)) op1 (by kernel_rfl) (by kernel_rfl) (by kernel_rfl) (fun _ _ _ h => h) (Or.inl ⟨by rfl, fun V' hS => ?_⟩) hHeld ?_
                    · go_simp
                    simp only [Act.put, List.setIfInBounds_toArray, List.set_cons_zero, List.set_cons_succ]
                    refine wpAnyH_take (i := 2) (v := .pointer (some ⟨g, o + i * 2, none⟩)) op2 (by kernel_rfl) (by kernel_rfl) (by kernel_rfl) (fun _ _ _ h => h) (Or.inl ⟨by rfl, fun V' hS => ?_⟩) hHeld ?_
                    · go_simp
                    simp only [Act.put, List.setIfInBounds_toArray, List.set_cons_zero, List.set_cons_succ]
                    refine wpAnyH_take (i := 3) (v := .pointer (some ⟨g, o + i * 2, none⟩)) op3 (by kernel_rfl) (by kernel_rfl) (by kernel_rfl) (fun _ _ _ h => h) (Or.inl ⟨by rfl, fun V' hS => ?_⟩) hHeld ?_
                    · go_simp
                    simp only [Act.put, List.setIfInBounds_toArray, List.set_cons_zero, List.set_cons_succ]
                    refine wpAnyH_take (i := 4) (v := .int .i64 ci) op4 (by kernel_rfl) (by kernel_rfl) (by kernel_rfl) (fun _ _ _ h => h) (Or.inl ⟨by rfl, fun V' hS => ?_⟩) hHeld ?_
                    · have kc : V'.cell? ⟨g, o + i * 2, none⟩ = some (.int .i64 ci) := (hS.1.cell (p := ⟨g, o + i * 2, none⟩) gl).trans CC.out.1
                      go_simp
                    simp only [Act.put, List.setIfInBounds_toArray, List.set_cons_zero, List.set_cons_succ]
                    refine wpAnyH_take (i := 6) (v := .slice (some ⟨g9, o9, none⟩) mm cap9) op6 (by kernel_rfl) (by kernel_rfl) (by kernel_rfl) (fun _ _ _ h => h) (Or.inl ⟨by rfl, fun V' hS => ?_⟩) hHeld ?_
                    · go_simp
                    simp only [Act.put, List.setIfInBounds_toArray, List.set_cons_zero, List.set_cons_succ]
                    refine wpAnyH_ready (rs := [5]) (by kernel_rfl) (by simp) ?_
                    refine AllReadyH.cons op5 (fun K hK => ?_) AllReadyH.nil
                    rw [if_pos (by rfl)]
                    go_simp
                    have OA : Hid ((z3.alloc (.cells #[] 5)).ownsRow z3.heap.size 5 1 (.slice (some ⟨z3.heap.size, 0, none⟩) 0 0) 0 []) := World.ownsRow_made z3 #[] 0 (Nat.le_refl _) (by unfold maxLen; omega) rfl
                    have BA : Hid (Below z3.heap.size z3 (z3.alloc (.cells #[] 5))) := (Below.refl _ _).alloc (Nat.le_refl _) _
                    refine hK.out _ _ ⟨hHeld.1.trans (BA.out.mono hHeld.1.size), hHeld.2.past BA.out⟩ (fun _ => ?_)
                    clear hK K
                    (try simp only [Act.put, List.setIfInBounds_toArray, List.set_cons_zero, List.set_cons_succ])
                    refine wpAnyH_ready (rs := [7]) (by kernel_rfl) (by simp) ?_
                    refine AllReadyH.cons op7 (fun K hK => ?_) AllReadyH.nil
                    rw [if_pos (by rfl)]
                    refine wp_append_own _ _ _ 39 rfl z3.heap.size 5 i0 (.int .u8 0) 1 1 Tryd.underlying39 hi0 hz0 hz1 hz2 rfl (by decide) _ _ _ rfl OA.out ⟨g9, o9, none⟩ mm cap9 (bsL mm c) rfl (by rw [bsL_len]; omega) (fun j u hj => by obtain ⟨hj', rfl⟩ := bsL_at hj; rw [Addr.add_mid]; exact ((hHeld.2.past BA.out).2 j hj').1) (bsL_one mm c) (by unfold maxLen; omega) (by omega) (by simp) ?_
                    intro v' w1 hown' hgrow _
                    have OC : Hid (w1.ownsRow z3.heap.size 5 1 v' mm (bsL mm c)) := by unfold Hid; simpa using hown'
                    have BC : Hid (Below z3.heap.size z3 w1) := Below.grown BA.out hgrow (by simp) (fun q h => (OA.out.lt q h).1)
                    clear hown' hgrow
                    refine hK.out _ _ ⟨hHeld.1.trans (BC.out.mono hHeld.1.size), hHeld.2.past BC.out⟩ (fun _ => ?_)
                    clear hK K OA BA
                    (try simp only [Act.put, List.setIfInBounds_toArray, List.set_cons_zero, List.set_cons_succ])
                    refine wpAnyH_ready (rs := [8]) (by kernel_rfl) (by simp) ?_
                    refine AllReadyH.cons op8 (fun K hK => ?_) AllReadyH.nil
                    rw [if_pos (by rfl)]
                    go_simp
                    refine (R3.out _ _ (owns_bytes OC.out hHeld.2.1)).mono ?_
                    rintro e z5 ⟨rfl, hB⟩
                    have hF : Below w.heap.size w z5 ∧ OwnB z5 g9 o9 mm c := ⟨(hHeld.1.trans (BC.out.mono hHeld.1.size)).trans (hB.mono (Nat.le_trans hHeld.1.size BC.out.size)), (hHeld.2.past BC.out).past hB⟩
                    clear hB hHeld OC BC
                    (try go_wp2_with fail)
                    refine hK.out _ _ hF (fun _ => ?_)
                    clear hK K
                    (try simp only [Act.put, List.setIfInBounds_toArray, List.set_cons_zero, List.set_cons_succ])
                    refine wpAnyH_take (i := 9) (v := .tuple #[.int .i64 e1, .int .i64 e2, .bool ek]) op9 (by kernel_rfl) (by kernel_rfl) (by kernel_rfl) (fun _ _ _ h => h) (Or.inl ⟨by rfl, fun V' hS => ?_⟩) hF ?_
                    · go_simp
                    simp only [Act.put, List.setIfInBounds_toArray, List.set_cons_zero, List.set_cons_succ]
                    refine wpAnyH_take (i := 10) (v := .int .i64 e1) op10 (by kernel_rfl) (by kernel_rfl) (by kernel_rfl) (fun _ _ _ h => h) (Or.inl ⟨by rfl, fun V' hS => ?_⟩) hF ?_
                    · go_simp
                    simp only [Act.put, List.setIfInBounds_toArray, List.set_cons_zero, List.set_cons_succ]
                    refine wpAnyH_take (i := 11) (v := .int .i64 e2) op11 (by kernel_rfl) (by kernel_rfl) (by kernel_rfl) (fun _ _ _ h => h) (Or.inl ⟨by rfl, fun V' hS => ?_⟩) hF ?_
                    · go_simp
                    simp only [Act.put, List.setIfInBounds_toArray, List.set_cons_zero, List.set_cons_succ]
                    refine wpAnyH_take (i := 12) (v := .bool ek) op12 (by kernel_rfl) (by kernel_rfl) (by kernel_rfl) (fun _ _ _ h => h) (Or.inl ⟨by rfl, fun V' hS => ?_⟩) hF ?_
                    · go_simp
                    simp only [Act.put, List.setIfInBounds_toArray, List.set_cons_zero, List.set_cons_succ]
                    refine wpAnyH_take (i := 13) (v := .int .i64 e1) op13 (by kernel_rfl) (by kernel_rfl) (by kernel_rfl) (fun _ _ _ h => h) (Or.inl ⟨by rfl, fun V' hS => ?_⟩) hF ?_
                    · go_simp
                    simp only [Act.put, List.setIfInBounds_toArray, List.set_cons_zero, List.set_cons_succ]
                    refine wpAnyH_take (i := 14) (v := .int .i64 e2) op14 (by kernel_rfl) (by kernel_rfl) (by kernel_rfl) (fun _ _ _ h => h) (Or.inl ⟨by rfl, fun V' hS => ?_⟩) hF ?_
                    · go_simp
                    simp only [Act.put, List.setIfInBounds_toArray, List.set_cons_zero, List.set_cons_succ]
                    refine wpAnyH_take (i := 15) (v := .bool ek) op15 (by kernel_rfl) (by kernel_rfl) (by kernel_rfl) (fun _ _ _ h => h) (Or.inl ⟨by rfl, fun V' hS => ?_⟩) hF ?_
                    · go_simp
                    simp only [Act.put, List.setIfInBounds_toArray, List.set_cons_zero, List.set_cons_succ]
                    refine wpAnyH_done (by kernel_rfl) ?_ _
                    have BD : Hid (Below w.heap.size w z5) := hF.1
                    have OD : Hid (OwnB z5 g9 o9 mm c) := hF.2
                    have kc : z5.cell? ⟨g, o + i * 2, none⟩ = some (.int .i64 ci) := (hF.1.cell (p := ⟨g, o + i * 2, none⟩) gl).trans CC.out.1
                    clear hF R3
                    go_upto_region 26 with (go_at_call 17; refine (R4.out _ _ (HN.out.past BD.out) (OD.out.bytes cap9)).mono ?_; rintro e w3 ⟨rfl, hB⟩; (have BE : Hid (Below w.heap.size w w3) := BD.out.trans (hB.mono BD.out.size)); clear hB kc BD OD)
                    go_wp2
                    go_roundw
                    case rel => exact ⟨i + 1, by omega, by go_num, BE.out⟩
                    case measure => first | go_num | (show _ < _; simp [intOf]; omega)
        · obtain rfl : i = n := by omega
          go_wp2_with (go_at_call 11; refine (awake4_any _ (HN.out.past BB.out)).mono ?_; rintro e w5 ⟨rfl, hB⟩; (have B6 : Hid (Below w.heap.size w w5) := BB.out.trans (hB.mono BB.out.size)); clear hB)
          go_ret
          exact ⟨rfl, B6.out⟩
end Go.Proofs.YtipdaiacapjfnaaDoor
