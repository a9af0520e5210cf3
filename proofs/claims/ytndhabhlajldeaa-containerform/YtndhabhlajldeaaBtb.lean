/- The laws' weight: how many bytes, types and lists a container has. -/
import Derived.Test.YtndhabhlajldeaaBta
namespace Go.Proofs.Ytndhabhlajldeaa
open Go.RowKit
def fourOf (c : Con) : Nat := c.ts.length + c.cs.length + c.ss.length + c.d.length
def total (c : Con) : Nat := fourOf c + c.cs.flatten.length + c.ss.flatten.length
theorem total_small {c : Con} (h : total c ≤ 2097152) : Small c := by
  unfold total fourOf at h
  unfold Small
  omega
set_option maxHeartbeats 8000000 in
set_option maxRecDepth 100000 in
theorem weight_is {P : Nat → Prop} (w : World) (v : Value) (c : Con) (h : CW P w v c) : Calls Try.prog 18 #[v] w fun e w' => (∃ n : Nat, e = .returned (.int .i64 (n : Int)) ∧ (n ≤ 2097152 → total c = n)) ∧ Below w.heap.size w w' := by
  obtain ⟨tv, cv, sv, dv, rfl, h1, h2, h3, h4⟩ := h
  obtain ⟨ta, tc, rfl, _, l1⟩ := h1.len
  obtain ⟨ca, cc, rfl, _, l2⟩ := h2.len
  obtain ⟨sa, sc, rfl, _, l3⟩ := h3.len
  obtain ⟨da, dc, rfl, _, l4⟩ := h4.len
  have b1 := below_alloc w (.cells #[.slice ta c.ts.length tc, .slice ca c.cs.length cc, .slice sa c.ss.length sc, .slice da c.d.length dc, .int .i64 c.n] 28)
  have HX : Hid (CBox (w.alloc (.cells #[.slice ta c.ts.length tc, .slice ca c.cs.length cc, .slice sa c.ss.length sc, .slice da c.d.length dc, .int .i64 c.n] 28)) w.heap.size 28 [.slice ta c.ts.length tc, .slice ca c.cs.length cc, .slice sa c.ss.length sc, .slice da c.d.length dc, .int .i64 c.n] ∧ Below w.heap.size w (w.alloc (.cells #[.slice ta c.ts.length tc, .slice ca c.cs.length cc, .slice sa c.ss.length sc, .slice da c.d.length dc, .int .i64 c.n] 28))) := ⟨CBox.new w _ [_, _, _, _, _], b1⟩
  have HS : Hid (PL P (w.alloc (.cells #[.slice ta c.ts.length tc, .slice ca c.cs.length cc, .slice sa c.ss.length sc, .slice da c.d.length dc, .int .i64 c.n] 28)) (.slice ca c.cs.length cc) c.cs ∧ PL P (w.alloc (.cells #[.slice ta c.ts.length tc, .slice ca c.cs.length cc, .slice sa c.ss.length sc, .slice da c.d.length dc, .int .i64 c.n] 28)) (.slice sa c.ss.length sc) c.ss) := ⟨h2.past b1, h3.past b1⟩
  obtain ⟨x1, hx1⟩ : ∃ x, x = c.ts.length + c.cs.length := ⟨_, rfl⟩
  obtain ⟨x2, hx2⟩ : ∃ x, x = x1 + c.ss.length := ⟨_, rfl⟩
  obtain ⟨x3, hx3⟩ : ∃ x, x = x2 + c.d.length := ⟨_, rfl⟩
  have r1 : (c.ts.length : Int) + (c.cs.length : Int) = (x1 : Int) := by omega
  have r2 : (x1 : Int) + (c.ss.length : Int) = (x2 : Int) := by omega
  have r3 : (x2 : Int) + (c.d.length : Int) = (x3 : Int) := by omega
  have w1 : IntKind.i64.wrap (x1 : Int) = (x1 : Int) := by rw [IntKind.wrap_i64]; omega
  have w2 : IntKind.i64.wrap (x2 : Int) = (x2 : Int) := by rw [IntKind.wrap_i64]; omega
  have w3 : IntKind.i64.wrap (x3 : Int) = (x3 : Int) := by rw [IntKind.wrap_i64]; omega
  have H4 : Hid (x3 = fourOf c) := by unfold Hid fourOf; omega
  have HLL : Hid (c.cs.length ≤ 1152921504606846976 ∧ c.ss.length ≤ 1152921504606846976) := ⟨l2, l3⟩
  clear h1 h2 h3 h4 b1 hx1 hx2 hx3 l1 l2 l3 l4
  go_enter Try.func18, Try.ntmps18
  go_upto_region 1 with fail
  generalize hbx : w.heap.size = bx at HX ⊢
  have GB : Hid (w.heap.size = bx) := hbx
  clear hbx
  generalize w.alloc _ = W0 at HX HS ⊢
  have a0 : W0.cell? ⟨bx, 0, none⟩ = some (.slice ta c.ts.length tc) := HX.out.1.cell 0
  have a1 : W0.cell? ⟨bx, 1, none⟩ = some (.slice ca c.cs.length cc) := HX.out.1.cell 1
  have a2 : W0.cell? ⟨bx, 2, none⟩ = some (.slice sa c.ss.length sc) := HX.out.1.cell 2
  have a3 : W0.cell? ⟨bx, 3, none⟩ = some (.slice da c.d.length dc) := HX.out.1.cell 3
  have a4 : W0.cell? ⟨bx, 4, none⟩ = some (.int .i64 c.n) := HX.out.1.cell 4
  go_upto_region 2 with fail
  clear r1 r2 r3 w1 w2 w3 a0 a3 a4
  go_wp2
  go_loopw [3, 4] (fun s3 s4 wr => ∃ (k m : Nat), s4 = .int .i64 (k : Int) ∧ s3 = .int .i64 (m : Int) ∧ k ≤ c.cs.length ∧ m = x3 + (c.cs.take k).flatten.length ∧ wr = W0) (fun _ s4 _ => c.cs.length - (intOf s4).toNat)
  case atStart => exact ⟨0, x3, rfl, rfl, by omega, by simp, rfl⟩
  case round =>
    obtain ⟨k, m, rfl, rfl, hk, hn, hw⟩ := hrel
    have hw2 := hw.symm
    clear hw
    subst hw2
    have HN : Hid (m = x3 + (c.cs.take k).flatten.length) := hn
    clear hn
    by_cases e : k = c.cs.length
    · have q1 : ¬ (k : Int) < (c.cs.length : Int) := by omega
      have HT : Hid (m = fourOf c + c.cs.flatten.length ∨ 2097152 < m) := Or.inl (by have h9 := HN.out; rw [List.take_of_length_le (by omega)] at h9; rw [← H4.out]; exact h9)
      go_wp2
      go_loopw [3, 5] (fun s3 s5 wr => ∃ (k n : Nat), s5 = .int .i64 (k : Int) ∧ s3 = .int .i64 (n : Int) ∧ k ≤ c.ss.length ∧ (n = m + (c.ss.take k).flatten.length ∨ 2097152 < n) ∧ wr = W0) (fun _ s5 _ => c.ss.length - (intOf s5).toNat)
      case atStart => exact ⟨0, m, rfl, rfl, by omega, Or.inl (by simp), rfl⟩
      case round =>
        obtain ⟨k, n, rfl, rfl, hk, hn, hw⟩ := hrel
        have hw2 := hw.symm
        clear hw
        subst hw2
        have HN : Hid ((n = m + (c.ss.take k).flatten.length ∨ 2097152 < n)) := hn
        clear hn
        by_cases e : k = c.ss.length
        · have q1 : ¬ (k : Int) < (c.ss.length : Int) := by omega
          have HF : Hid (total c = n ∨ (2097152 < n)) := by
            have h9 := HN.out
            have h8 := HT.out
            unfold Hid total
            rw [List.take_of_length_le (by omega)] at h9; omega
          clear e
          go_wp2
          go_ret
          exact ⟨⟨n, rfl, by have := HF.out; omega⟩, by rw [GB.out]; exact HX.out.2⟩
        · have q1 : (k : Int) < (c.ss.length : Int) := by omega
          by_cases en : n ≤ 2097152
          · have q2 : (n : Int) ≤ 2097152 := by omega
            obtain ⟨x, hx⟩ : ∃ x, c.ss[k]? = some x := ⟨c.ss[k]'(by omega), List.getElem?_eq_getElem _⟩
            obtain ⟨g, a, u, eg, hcell, hb⟩ := (HS.out.2).get hx
            subst eg
            obtain ⟨ad2, cap2, rfl, _, hl2⟩ := hb.len
            obtain ⟨n2, hn2⟩ : ∃ n2, n2 = n + x.length := ⟨_, rfl⟩
            have r1 : (n : Int) + (x.length : Int) = (n2 : Int) := by omega
            have w1 : IntKind.i64.wrap (n2 : Int) = (n2 : Int) := by rw [IntKind.wrap_i64]; omega
            have HN2 : Hid ((n2 = m + (c.ss.take (k + 1)).flatten.length ∨ 2097152 < n2)) := by
              have h9 := HN.out
              unfold Hid
              rw [flatten_snoc hx, List.length_append]
              omega
            have HK : Hid (k + 1 ≤ c.ss.length) := by unfold Hid; omega
            have kB : (k : Int) < 1152921504606846976 := by have := HLL.out; omega
            clear hx hb e en hn2 hl2 hk
            go_wp2
            go_roundw
            case rel => exact ⟨k + 1, n2, by first | rfl | go_num, rfl, HK.out, HN2.out, by first | rfl | trivial⟩
            case measure => simp [intOf]; omega
          · have q2 : ¬ (n : Int) ≤ 2097152 := by omega
            have HF : Hid (total c = n ∨ (2097152 < n)) := by
              have h9 := HN.out
              have h8 := HT.out
              unfold Hid total
              omega
            clear e en
            go_wp2
            go_ret
            exact ⟨⟨n, rfl, by have := HF.out; omega⟩, by rw [GB.out]; exact HX.out.2⟩
    · have q1 : (k : Int) < (c.cs.length : Int) := by omega
      by_cases en : m ≤ 2097152
      · have q2 : (m : Int) ≤ 2097152 := by omega
        obtain ⟨x, hx⟩ : ∃ x, c.cs[k]? = some x := ⟨c.cs[k]'(by omega), List.getElem?_eq_getElem _⟩
        obtain ⟨g, a, u, eg, hcell, hb⟩ := (HS.out.1).get hx
        subst eg
        obtain ⟨ad2, cap2, rfl, _, hl2⟩ := hb.len
        obtain ⟨m2, hn2⟩ : ∃ m2, m2 = m + x.length := ⟨_, rfl⟩
        have r1 : (m : Int) + (x.length : Int) = (m2 : Int) := by omega
        have w1 : IntKind.i64.wrap (m2 : Int) = (m2 : Int) := by rw [IntKind.wrap_i64]; omega
        have HN2 : Hid (m2 = x3 + (c.cs.take (k + 1)).flatten.length) := by
          have h9 := HN.out
          unfold Hid
          rw [flatten_snoc hx, List.length_append]
          omega
        have HK : Hid (k + 1 ≤ c.cs.length) := by unfold Hid; omega
        have kB : (k : Int) < 1152921504606846976 := by have := HLL.out; omega
        clear hx hb e en hn2 hl2 hk
        go_wp2
        go_roundw
        case rel => exact ⟨k + 1, m2, by first | rfl | go_num, rfl, HK.out, HN2.out, by first | rfl | trivial⟩
        case measure => simp [intOf]; omega
      · have q2 : ¬ (m : Int) ≤ 2097152 := by omega
        have HT : Hid (m = fourOf c + c.cs.flatten.length ∨ 2097152 < m) := Or.inr (by omega)
        go_wp2
        go_loopw [3, 5] (fun s3 s5 wr => ∃ (k n : Nat), s5 = .int .i64 (k : Int) ∧ s3 = .int .i64 (n : Int) ∧ k ≤ c.ss.length ∧ (n = m + (c.ss.take k).flatten.length ∨ 2097152 < n) ∧ wr = W0) (fun _ s5 _ => c.ss.length - (intOf s5).toNat)
        case atStart => exact ⟨0, m, rfl, rfl, by omega, Or.inl (by simp), rfl⟩
        case round =>
          obtain ⟨k, n, rfl, rfl, hk, hn, hw⟩ := hrel
          have hw2 := hw.symm
          clear hw
          subst hw2
          have HN : Hid ((n = m + (c.ss.take k).flatten.length ∨ 2097152 < n)) := hn
          clear hn
          by_cases e : k = c.ss.length
          · have q1 : ¬ (k : Int) < (c.ss.length : Int) := by omega
            have HF : Hid (total c = n ∨ (2097152 < n)) := by
              have h9 := HN.out
              have h8 := HT.out
              unfold Hid total
              rw [List.take_of_length_le (by omega)] at h9; omega
            clear e
            go_wp2
            go_ret
            exact ⟨⟨n, rfl, by have := HF.out; omega⟩, by rw [GB.out]; exact HX.out.2⟩
          · have q1 : (k : Int) < (c.ss.length : Int) := by omega
            by_cases en : n ≤ 2097152
            · have q2 : (n : Int) ≤ 2097152 := by omega
              obtain ⟨x, hx⟩ : ∃ x, c.ss[k]? = some x := ⟨c.ss[k]'(by omega), List.getElem?_eq_getElem _⟩
              obtain ⟨g, a, u, eg, hcell, hb⟩ := (HS.out.2).get hx
              subst eg
              obtain ⟨ad2, cap2, rfl, _, hl2⟩ := hb.len
              obtain ⟨n2, hn2⟩ : ∃ n2, n2 = n + x.length := ⟨_, rfl⟩
              have r1 : (n : Int) + (x.length : Int) = (n2 : Int) := by omega
              have w1 : IntKind.i64.wrap (n2 : Int) = (n2 : Int) := by rw [IntKind.wrap_i64]; omega
              have HN2 : Hid ((n2 = m + (c.ss.take (k + 1)).flatten.length ∨ 2097152 < n2)) := by
                have h9 := HN.out
                unfold Hid
                rw [flatten_snoc hx, List.length_append]
                omega
              have HK : Hid (k + 1 ≤ c.ss.length) := by unfold Hid; omega
              have kB : (k : Int) < 1152921504606846976 := by have := HLL.out; omega
              clear hx hb e en hn2 hl2 hk
              go_wp2
              go_roundw
              case rel => exact ⟨k + 1, n2, by first | rfl | go_num, rfl, HK.out, HN2.out, by first | rfl | trivial⟩
              case measure => simp [intOf]; omega
            · have q2 : ¬ (n : Int) ≤ 2097152 := by omega
              have HF : Hid (total c = n ∨ (2097152 < n)) := by
                have h9 := HN.out
                have h8 := HT.out
                unfold Hid total
                omega
              clear e en
              go_wp2
              go_ret
              exact ⟨⟨n, rfl, by have := HF.out; omega⟩, by rw [GB.out]; exact HX.out.2⟩
end Go.Proofs.Ytndhabhlajldeaa
