/- The document's containers: number. -/
import Derived.Test.YtndhabhlajldeaaBrb
namespace Go.Proofs.Ytndhabhlajldeaa
open Go.RowKit
set_option maxHeartbeats 4000000 in
set_option maxRecDepth 100000 in
theorem numberR_is (w : World) (B : Nat) (hB : B ≤ w.heap.size) (v : Value) (l : List Nat) (hv : w.ownsRow B 5 1 v l.length (bV l)) (wd z : Nat) (hw : wd ≤ 8) (hz : z < 4611686018427387904) (hl : l.length ≤ 1099511627776) :
    Calls Try.prog 80 #[v, .int .i64 (z : Int), .int .i64 (wd : Int)] w fun e w' => ∃ v', e = .returned v' ∧ App B 5 1 w w' v v' (l ++ dig wd z).length (bV (l ++ dig wd z)) := by
  have HV : Hid (w.ownsRow B 5 1 v l.length (bV l)) := hv
  have HL : Hid (l.length ≤ 1099511627776 ∧ z < 4611686018427387904 ∧ wd ≤ 8 ∧ B ≤ w.heap.size) := ⟨hl, hz, hw, hB⟩
  obtain ⟨q0, hq0⟩ : ∃ q0 : Int, q0 = (wd : Int) - 1 := ⟨_, rfl⟩
  have r0 : (wd : Int) - 1 = q0 := hq0.symm
  have w0 : IntKind.i64.wrap q0 = q0 := by rw [IntKind.wrap_i64]; omega
  have HQ0 : Hid (q0 = (wd : Int) - 1) := hq0
  have zI : (z : Int) < 4611686018427387904 := by omega
  have wI : (wd : Int) ≤ 8 := by omega
  clear hv hl hB hw hz hq0
  go_enter Try.func80, Try.ntmps80
  go_wp2
  clear r0 w0
  go_loopw [0, 7] (fun s0 s7 wr => ∃ (i : Nat) (q : Int), s7 = .int .i64 q ∧ q = (wd : Int) - 1 - (i : Int) ∧ i ≤ wd ∧ App B 5 1 w wr v s0 (l ++ (dig wd z).take i).length (bV (l ++ (dig wd z).take i))) (fun _ s7 _ => (intOf s7 + 1).toNat)
  case atStart => exact ⟨0, q0, rfl, by have := HQ0.out; omega, by omega, by simpa using App.refl HV.out⟩
  case round =>
    obtain ⟨i, q, rfl, hq, hi, hA⟩ := hrel
    have HA : Hid (App B 5 1 w wr v u0 (l ++ (dig wd z).take i).length (bV (l ++ (dig wd z).take i))) := hA
    have HQ : Hid (q = (wd : Int) - 1 - (i : Int)) := hq
    clear hA hq
    by_cases e : i = wd
    · subst e
      have c0 : ¬ (0 : Int) ≤ q := by have := HQ.out; omega
      have E0 : Hid (App B 5 1 w wr v u0 (l ++ dig i z).length (bV (l ++ dig i z))) := by have := HA.out; rwa [List.take_of_length_le (by rw [dig_len]; omega)] at this
      go_wp2
      go_ret
      refine ⟨_, rfl, ?_⟩
      have h9 := E0.out
      rw [List.length_append] at h9
      exact h9
    · obtain ⟨c, hc⟩ : ∃ c : Nat, q = (c : Int) := ⟨q.toNat, by have := HQ.out; omega⟩
      subst hc
      have HC : Hid (c = wd - 1 - i ∧ i < wd) := by unfold Hid; have := HQ.out; omega
      have c0 : (0 : Int) ≤ (c : Int) := by omega
      have cI : (c : Int) ≤ 8 := by have := HC.out; omega
      clear HQ
      go_wp2
      go_loopw [8, 9] (fun s8 s9 wq => ∃ j : Nat, s9 = .int .i64 (j : Int) ∧ j ≤ c ∧ s8 = .int .i64 ((z / 256 ^ j : Nat) : Int) ∧ wq = wr) (fun _ s9 _ => c - (intOf s9).toNat)
      case atStart => exact ⟨0, rfl, by omega, by simp, rfl⟩
      case round =>
        rename_i wr0
        obtain ⟨j, rfl, hj, rfl, hwq⟩ := hrel
        subst hwq
        by_cases e2 : j = c
        · subst e2
          obtain ⟨y, hy⟩ : ∃ y : Nat, y = z / 256 ^ j := ⟨_, rfl⟩
          obtain ⟨x, hx⟩ : ∃ x : Nat, x = y % 256 := ⟨_, rfl⟩
          have HX : Hid ((dig wd z)[i]? = some x) := by unfold Hid; rw [dig_get wd z i HC.out.2, hx, hy, HC.out.1]
          rw [← hy]
          have t1 : Int.tmod (y : Int) 256 = (x : Int) := by rw [Int.tmod_eq_emod_of_nonneg (by omega)]; omega
          have t2 : (y : Int) % 256 = (x : Int) := by omega
          have w1 : IntKind.i64.wrap (x : Int) = (x : Int) := by rw [IntKind.wrap_i64]; omega
          have w2 : IntKind.u8.wrap (x : Int) = (x : Int) := by rw [IntKind.wrap_u8]; omega
          obtain ⟨q2, hq2⟩ : ∃ q2 : Int, q2 = (j : Int) - 1 := ⟨_, rfl⟩
          have r3 : (j : Int) - 1 = q2 := hq2.symm
          have w3 : IntKind.i64.wrap q2 = q2 := by rw [IntKind.wrap_i64]; omega
          have HQ2 : Hid (q2 = (wd : Int) - 1 - ((i + 1 : Nat) : Int)) := by unfold Hid; have := HC.out; omega
          have BX : Hid (BL (fun k => k = wr.heap.size) (wr.alloc (.cells #[.int .u8 (x : Int)] 5)) (.slice (some ⟨wr.heap.size, 0, none⟩) 1 1) [x]) := BL.new wr [x] (by simp)
          have PX : Hid (Below wr.heap.size wr (wr.alloc (.cells #[.int .u8 (x : Int)] 5))) := below_alloc _ _
          have HLe : Hid ((l ++ (dig wd z).take i).length + [x].length ≤ 2199023255552) := by unfold Hid; have := HL.out; rw [List.length_append, List.length_take, dig_len]; simp; omega
          clear hy hx hq2
          go_wp2_with (at_builtin; refine wpList_appB rfl _ _ rfl B (Nat.le_trans (Nat.le_trans HL.out.2.2.2 HA.out.but.size) PX.out.size) u0 (l ++ (dig wd z).take i) rfl (owns_past HA.out.row PX.out) (.slice (some ⟨wr.heap.size, 0, none⟩) 1 1) [x] rfl BX.out HLe.out ?_; intro v' w' hA2)
          have HR : Hid (App B 5 1 w w' v v' (l ++ (dig wd z).take (i + 1)).length (bV (l ++ (dig wd z).take (i + 1)))) := by
            have h9 := (HA.out.then PX.out).trans hA2
            rw [List.append_assoc, ← take_snoc HX.out] at h9
            exact h9
          have HI1 : Hid (i + 1 ≤ wd ∧ (q2 + 1).toNat < ((j : Int) + 1).toNat) := by unfold Hid; have h1 := HC.out; have h2 := HQ2.out; omega
          clear hA2 BX PX HA
          go_roundw
          case rel => exact ⟨i + 1, q2, by first | rfl | go_num, HQ2.out, HI1.out.1, HR.out⟩
          case measure => have := HI1.out.2; simpa [intOf] using this
        · have jc : (j : Int) < (c : Int) := by omega
          obtain ⟨y, hy⟩ : ∃ y : Nat, y = z / 256 ^ j := ⟨_, rfl⟩
          obtain ⟨y2, hy2⟩ : ∃ y2 : Nat, y2 = y / 256 := ⟨_, rfl⟩
          have HY : Hid (z / 256 ^ (j + 1) = y2) := by unfold Hid; rw [hy2, hy, Nat.div_div_eq_div_mul, Nat.pow_succ]
          have yl : y ≤ z := by rw [hy]; exact Nat.div_le_self _ _
          rw [← hy]
          have t1 : Int.tdiv (y : Int) 256 = (y2 : Int) := by rw [Int.tdiv_eq_ediv_of_nonneg (by omega)]; omega
          have t2 : (y : Int) / 256 = (y2 : Int) := by omega
          have w1 : IntKind.i64.wrap (y2 : Int) = (y2 : Int) := by rw [IntKind.wrap_i64]; omega
          clear hy hy2 yl e2
          go_wp2
          go_roundw
          case rel => exact ⟨j + 1, by first | rfl | go_num, by omega, by rw [HY.out], by first | rfl | trivial⟩
          case measure => simp [intOf]; omega
end Go.Proofs.Ytndhabhlajldeaa
