/- The document's cut: pieces out of bytes. -/
import Derived.Test.YtndhabhlajldeaaBrk
namespace Go.Proofs.Ytndhabhlajldeaa
open Go.RowKit
set_option maxHeartbeats 4000000 in
set_option maxRecDepth 100000 in
theorem cut_is {P : Nat → Prop} {C : Nat} (w : World) (v : Value) (b : List Nat) (k : Nat) (lv : Value) (ls : List Nat) (h : BL P w v b) (hi : InO C w lv ls) (hk : k + sumL ls ≤ b.length) (hb : b.length ≤ 1073741824) (hn : ls.length ≤ 16777216) : Calls Try.prog 71 #[v, .int .i64 (k : Int), lv] w fun e w' => ∃ v', e = .returned v' ∧ PO w.heap.size w' v' (cuts b k ls) ∧ Below w.heap.size w w' := by
  obtain ⟨ad, cap, rfl, _, _⟩ := h.len
  obtain ⟨la, lc, rfl⟩ := owns_sl hi
  obtain ⟨CU, hCU⟩ : ∃ CU, CU = cuts b k ls := ⟨_, rfl⟩
  have HCL : Hid (CU.length = ls.length ∧ ∀ i x, ls[i]? = some x → CU[i]? = some ((b.drop (k + sumL (ls.take i))).take x)) := ⟨by rw [hCU, cuts_len], fun i x q => by rw [hCU]; exact cuts_get b ls k i x q⟩
  rw [← hCU]
  have HBL : Hid (∀ W, Below w.heap.size w W → BL P W (.slice ad b.length cap) b) := fun W hW => h.past hW
  have HIL : Hid (∀ W, Below w.heap.size w W → InO C W (.slice la ls.length lc) ls) := fun W hW => hi.past hW
  have M0 : Hid (PO w.heap.size w (.slice none 0 0) [] ∧ Below w.heap.size w w) := ⟨PO.nil _ _, Below.refl _ _⟩
  have nI : (ls.length : Int) ≤ 16777216 := by omega
  have HK : Hid (k + sumL ls ≤ b.length ∧ b.length ≤ 1073741824) := ⟨hk, hb⟩
  generalize hN : ls.length = n at *
  have HN : Hid (ls.length = n) := hN
  generalize hNB : b.length = nb at *
  have HNB : Hid (b.length = nb) := hNB
  clear h hi hN hNB hCU hk hb hn
  generalize hbw : w.heap.size = bw at *
  have GE : Hid (bw ≤ w.heap.size) := by unfold Hid; omega
  clear hbw
  go_enter Try.func71, Try.ntmps71
  go_wp2
  go_loopw [1, 7, 8] (fun s1 s7 s8 wr => ∃ i kk : Nat, s8 = .int .i64 (i : Int) ∧ i ≤ n ∧ s1 = .int .i64 (kk : Int) ∧ kk = k + sumL (ls.take i) ∧ PO bw wr s7 (CU.take i) ∧ Below bw w wr) (fun _ _ s8 _ => n - (intOf s8).toNat)
  case atStart => exact ⟨0, k, rfl, by omega, rfl, by simp [sumL], M0.out.1, M0.out.2⟩
  case round =>
    obtain ⟨i, kk, rfl, hi, rfl, hkk, hP, hB⟩ := hrel
    have M : Hid (PO bw wr u7 (CU.take i) ∧ Below bw w wr) := ⟨hP, hB⟩
    clear hP hB M0
    by_cases e : i = n
    · have e9 := e.symm
      clear e
      subst e9
      have M2 : Hid (PO bw wr u7 CU) := by have := M.out.1; rwa [List.take_of_length_le (by have := HN.out; have := HCL.out.1; omega)] at this
      go_wp2
      go_ret
      exact ⟨u7, rfl, M2.out, M.out.2⟩
    · have iI : (i : Int) < (n : Int) := by omega
      obtain ⟨q, hq⟩ : ∃ q, ls[i]? = some q := ⟨ls[i]'(by have := HN.out; omega), List.getElem?_eq_getElem _⟩
      have hst := sumL_take hq
      have hsl := sumL_le ls (i + 1)
      have HQQ : Hid (ls[i]? = some q) := hq
      have HCU : Hid (CU[i]? = some ((b.drop kk).take q)) := by unfold Hid; rw [hkk]; exact HCL.out.2 i q hq
      have HT : Hid (kk + q = k + sumL (ls.take (i + 1)) ∧ kk + q ≤ nb) := by unfold Hid; have := HK.out; omega
      have HSQ : Hid (((b.drop kk).take q).length = q) := by unfold Hid; rw [List.length_take, List.length_drop, HNB.out]; have := HT.out; omega
      have HSG : Hid (∀ j, j < q → ∃ x, b[kk + j]? = some x ∧ ((b.drop kk).take q)[j]? = some x) := fun j hj => by
        have hlt : kk + j < b.length := by have := HT.out; have := HNB.out; omega
        exact ⟨b[kk + j], List.getElem?_eq_getElem hlt, by rw [List.getElem?_take_of_lt hj, List.getElem?_drop]; exact List.getElem?_eq_getElem hlt⟩
      have HLk : Hid ((CU.take i).length + 1 ≤ 2199023255552) := by unfold Hid; rw [List.length_take]; omega
      have qI : (q : Int) ≤ 1073741824 := by have := HT.out; have := HK.out; omega
      have kI : (kk : Int) + (q : Int) ≤ 1073741824 := by have := HT.out; have := HK.out; omega
      generalize (b.drop kk).take q = seg at *
      have GW : Hid (bw ≤ wr.heap.size) := Nat.le_trans GE.out M.out.2.size
      clear hq hst hsl hkk e
      go_wp2
      have MP : Hid (∀ W, Below wr.heap.size wr W → PO bw W u7 (CU.take i) ∧ Below bw w W) := fun W hW => ⟨M.out.1.past hW, M.out.2.trans (hW.mono GW.out)⟩
      have I0 : Hid (wr.ownsRow wr.heap.size 5 1 (.slice none 0 0) ([] : List Nat).length (bV []) ∧ Below wr.heap.size wr wr) := ⟨World.ownsRow_nil _ _ _ _, Below.refl _ _⟩
      obtain ⟨br, hbr⟩ : ∃ br, br = wr.heap.size := ⟨_, rfl⟩
      have GB : Hid (br ≤ wr.heap.size) := by unfold Hid; omega
      rw [← hbr] at MP I0 GW
      obtain ⟨wo, hwo⟩ : ∃ wo, wo = wr := ⟨_, rfl⟩
      rw [← hwo] at MP GB
      obtain ⟨t, ht⟩ : ∃ t, t = kk + q := ⟨_, rfl⟩
      have HTT : Hid (t = k + sumL (ls.take (i + 1))) := by unfold Hid; have := HT.out; omega
      have r1 : (kk : Int) + (q : Int) = (t : Int) := by omega
      have w1 : IntKind.i64.wrap (t : Int) = (t : Int) := by rw [IntKind.wrap_i64]; omega
      clear M ht
      go_loopw [9, 10] (fun s9 s10 wq => ∃ j : Nat, s10 = .int .i64 (j : Int) ∧ j ≤ q ∧ wq.ownsRow br 5 1 s9 (seg.take j).length (bV (seg.take j)) ∧ Below br wo wq) (fun _ s10 _ => q - (intOf s10).toNat)
      case atStart => exact ⟨0, rfl, by omega, I0.out.1, by rw [hwo]; exact I0.out.2⟩
      case round =>
        obtain ⟨j, rfl, hj, hO, hB⟩ := hrel
        have I : Hid (wr.ownsRow br 5 1 u9 (seg.take j).length (bV (seg.take j)) ∧ Below br wo wr) := ⟨hO, hB⟩
        clear hO hB I0 hwo hbr
        have GR : Hid (br ≤ wr.heap.size) := Nat.le_trans GB.out I.out.2.size
        obtain ⟨g, eg, hcell⟩ := (HIL.out wr (MP.out wr I.out.2).2).get HQQ.out
        subst eg
        by_cases e2 : j = q
        · have e3 := e2.symm
          clear e2
          subst e3
          have M1 : Hid (wr.ownsRow bw 5 1 u9 seg.length (bV seg)) := by
            have h9 := I.out.1
            rw [List.take_of_length_le (by have := HSQ.out; omega)] at h9
            exact owns_base h9 GW.out
          obtain ⟨d1, c1, rfl⟩ := owns_sl M1.out
          go_upto_region 11 with (at_builtin; refine wpList_appP rfl _ _ rfl bw (Nat.le_trans GW.out GR.out) u7 (CU.take i) rfl (MP.out wr I.out.2).1 _ seg M1.out rfl HLk.out ?_; intro v2 w2 hP hB)
          have M2 : Hid (PO bw w2 v2 (CU.take (i + 1)) ∧ Below bw w w2) := ⟨by rw [take_snoc HCU.out]; exact hP, (MP.out wr I.out.2).2.trans hB⟩
          clear hP hB hcell
          obtain ⟨g2, eg, hcell⟩ := (HIL.out w2 M2.out.2).get HQQ.out
          cases eg
          clear M1 I MP
          go_wp2
          go_roundw
          case rel => exact ⟨i + 1, t, by first | rfl | go_num, by omega, rfl, HTT.out, M2.out.1, M2.out.2⟩
          case measure => simp [intOf]; omega
        · have jI : (j : Int) < (q : Int) := by omega
          obtain ⟨x, hx, hx2⟩ := HSG.out j (by omega)
          obtain ⟨g3, a3, eg, hcell3⟩ := (HBL.out wr (MP.out wr I.out.2).2).get hx
          subst eg
          obtain ⟨jj, hjj⟩ : ∃ jj, jj = kk + j := ⟨_, rfl⟩
          rw [← hjj] at hcell3
          have r2 : (kk : Int) + (j : Int) = (jj : Int) := by omega
          have w2 : IntKind.i64.wrap (jj : Int) = (jj : Int) := by rw [IntKind.wrap_i64]; omega
          have jn : (jj : Int) < (nb : Int) := by have := HT.out; omega
          have HX2 : Hid (seg[j]? = some x) := hx2
          have BX : Hid (BL (fun k => k = wr.heap.size) (wr.alloc (.cells #[.int .u8 (x : Int)] 5)) (.slice (some ⟨wr.heap.size, 0, none⟩) 1 1) [x]) := BL.new wr [x] (by simp)
          have PX : Hid (Below wr.heap.size wr (wr.alloc (.cells #[.int .u8 (x : Int)] 5))) := below_alloc _ _
          have HLe : Hid ((seg.take j).length + [x].length ≤ 2199023255552) := by unfold Hid; rw [List.length_take]; simp; omega
          clear hx hx2 e2 hjj
          go_wp2_with (at_builtin; refine wpList_appB rfl _ _ rfl br (Nat.le_trans GR.out PX.out.size) u9 (seg.take j) rfl (owns_past I.out.1 PX.out) (.slice (some ⟨wr.heap.size, 0, none⟩) 1 1) [x] rfl BX.out HLe.out ?_; intro v' w' hA2)
          have I2 : Hid (w'.ownsRow br 5 1 v' (seg.take (j + 1)).length (bV (seg.take (j + 1))) ∧ Below br wo w') := ⟨by rw [take_snoc HX2.out]; exact hA2.row, I.out.2.trans ((PX.out.mono GR.out).trans (hA2.below (owns_past I.out.1 PX.out) (Nat.le_trans GR.out PX.out.size)))⟩
          clear hA2 BX PX I hcell hcell3
          go_roundw
          case rel => exact ⟨j + 1, by first | rfl | go_num, by omega, I2.out.1, I2.out.2⟩
          case measure => simp [intOf]; omega
end Go.Proofs.Ytndhabhlajldeaa
