/- Package container: writeLengths, writePieces, headerOf, the header's write. -/
import Derived.Test.YtndhabhlajldeaaBkg
namespace Go.Proofs.Ytndhabhlajldeaa
open Go.RowKit
theorem flat_snoc {α β : Type} {l : List α} {f : α → List β} {k : Nat} {x : α} (h : l[k]? = some x) : (l.take (k + 1)).flatMap f = (l.take k).flatMap f ++ f x := by rw [take_snoc h, List.flatMap_append]; simp
theorem flat_len (wd : Nat) : ∀ l : List Nat, (l.flatMap (dig wd)).length = wd * l.length
  | [] => by simp
  | x :: l => by rw [List.flatMap_cons, List.length_append, dig_len, flat_len wd l, List.length_cons, Nat.mul_add]; omega
theorem flatten_snoc {α : Type} {l : List (List α)} {k : Nat} {x : List α} (h : l[k]? = some x) : (l.take (k + 1)).flatten = (l.take k).flatten ++ x := by rw [take_snoc h, List.flatten_append]; simp
theorem flatten_le {α : Type} : ∀ (l : List (List α)) (k : Nat), (l.take k).flatten.length ≤ l.flatten.length
  | [], k => by simp
  | x :: l, 0 => by simp
  | x :: l, k + 1 => by rw [List.take_succ_cons, List.flatten_cons, List.flatten_cons, List.length_append, List.length_append]; have := flatten_le l k; omega
set_option maxHeartbeats 4000000 in
set_option maxRecDepth 100000 in
theorem writeLengths_is (w : World) (B : Nat) (hB : B ≤ w.heap.size) (v : Value) (l : List Nat) (hv : w.ownsRow B 5 1 v l.length (bV l)) (wd : Nat) (hw : wd ≤ 8) (cv : Value) (cs : List Nat) (hc : UL w cv cs) (hx : ∀ x ∈ cs, x < 18446744073709551616) (hn : cs.length ≤ 16777216) (hl : l.length ≤ 4294967296) :
    Calls Try.prog 105 #[v, .int .i64 (wd : Int), cv] w fun e w' => ∃ v', e = .returned v' ∧ App B 5 1 w w' v v' (l ++ (dig 2 cs.length ++ cs.flatMap (dig wd))).length (bV (l ++ (dig 2 cs.length ++ cs.flatMap (dig wd)))) := by
  obtain ⟨ca, rfl⟩ := hc.len
  have HV : Hid (w.ownsRow B 5 1 v l.length (bV l)) := hv
  have HC : Hid (UL w (.slice ca cs.length cs.length) cs) := hc
  have HX : Hid (∀ x ∈ cs, x < 18446744073709551616) := hx
  have HW : Hid (wd ≤ 8 ∧ l.length ≤ 4294967296 ∧ B ≤ w.heap.size) := ⟨hw, hl, hB⟩
  have nI : (cs.length : Int) ≤ 16777216 := by omega
  generalize hN : cs.length = n at *
  have EN : Hid (cs.length = n ∧ n ≤ 16777216) := ⟨hN, hn⟩
  have WN0 : Hid (Calls Try.prog 104 #[v, .int .i64 2, .int .u64 (n : Int)] w fun e w' => ∃ v', e = .returned v' ∧ App B 5 1 w w' v v' (l ++ dig 2 n).length (bV (l ++ dig 2 n))) := writeNumber_is w B hB v l hv 2 n (by omega) (by omega) (by omega)
  have wn : IntKind.u64.wrap (n : Int) = (n : Int) := by rw [IntKind.wrap_u64]; omega
  clear hv hc hx hw hl hB hN hn
  go_enter Try.func105, Try.ntmps105
  go_upto_region 2 with (go_at_call 104; refine (WN0.out).mono ?_; rintro e w' ⟨v', rfl, hA2⟩)
  have HA0 : Hid (App B 5 1 w w' v v' (l ++ dig 2 n).length (bV (l ++ dig 2 n))) := hA2
  clear hA2 WN0
  go_wp2
  go_loopw [0, 16] (fun s0 s16 wr => ∃ k : Nat, s16 = .int .i64 (k : Int) ∧ k ≤ n ∧ App B 5 1 w wr v s0 (l ++ (dig 2 n ++ (cs.take k).flatMap (dig wd))).length (bV (l ++ (dig 2 n ++ (cs.take k).flatMap (dig wd))))) (fun _ s16 _ => n - (intOf s16).toNat)
  case atStart => exact ⟨0, rfl, by omega, by simpa using HA0.out⟩
  case round =>
    obtain ⟨k, rfl, hk, hA⟩ := hrel
    have HA : Hid (App B 5 1 w wr v u0 (l ++ (dig 2 n ++ (cs.take k).flatMap (dig wd))).length (bV (l ++ (dig 2 n ++ (cs.take k).flatMap (dig wd))))) := hA
    clear hA HA0
    by_cases e : k = n
    · subst e
      go_wp2
      go_ret
      exact ⟨_, rfl, by have := HA.out; rwa [List.take_of_length_le (by have := EN.out; omega)] at this⟩
    · have kn : (k : Int) < (n : Int) := by omega
      obtain ⟨x, hx⟩ : ∃ x, cs[k]? = some x := ⟨cs[k]'(by have := EN.out; omega), List.getElem?_eq_getElem _⟩
      obtain ⟨g, rfl, hcell⟩ := (HC.out.app HA.out HV.out).get hx
      have W1 : Hid (Calls Try.prog 104 #[u0, .int .i64 (wd : Int), .int .u64 (x : Int)] wr fun e w' => ∃ v', e = .returned v' ∧ App B 5 1 wr w' u0 v' ((l ++ (dig 2 n ++ (cs.take k).flatMap (dig wd))) ++ dig wd x).length (bV ((l ++ (dig 2 n ++ (cs.take k).flatMap (dig wd))) ++ dig wd x))) :=
        writeNumber_is wr B (Nat.le_trans HW.out.2.2 HA.out.but.size) u0 _ HA.out.row wd x HW.out.1 (HX.out x (List.mem_of_getElem? hx)) (by
          have h1 := HW.out; have h2 := EN.out
          rw [List.length_append, List.length_append, flat_len, dig_len, List.length_take]
          have : wd * min k cs.length ≤ 8 * 16777216 := Nat.mul_le_mul h1.1 (by omega)
          omega)
      have HXX : Hid (cs[k]? = some x) := hx
      clear hx e
      go_wp2_with (go_at_call 104; refine (W1.out).mono ?_; rintro e w' ⟨v', rfl, hA2⟩)
      have HR : Hid (App B 5 1 w w' v v' (l ++ (dig 2 n ++ (cs.take (k + 1)).flatMap (dig wd))).length (bV (l ++ (dig 2 n ++ (cs.take (k + 1)).flatMap (dig wd))))) := by
        have h9 := HA.out.trans hA2
        rw [List.append_assoc, List.append_assoc, ← flat_snoc HXX.out] at h9
        exact h9
      clear hA2 W1 HA
      go_roundw
      case rel => exact ⟨k + 1, by first | rfl | go_num, by omega, HR.out⟩
      case measure => simp [intOf]; omega
set_option maxHeartbeats 4000000 in
set_option maxRecDepth 100000 in
theorem writePieces_is {P : Nat → Prop} (w : World) (B : Nat) (hB : B ≤ w.heap.size) (v : Value) (l : List Nat) (hv : w.ownsRow B 5 1 v l.length (bV l)) (pv : Value) (ll : List (List Nat)) (hp : PL P w pv ll) (hP : ∀ g, P g → ¬ OwnV v g) (hl : l.length + ll.flatten.length ≤ 1099511627776) :
    Calls Try.prog 77 #[v, pv] w fun e w' => ∃ v', e = .returned v' ∧ App B 5 1 w w' v v' (l ++ ll.flatten).length (bV (l ++ ll.flatten)) := by
  obtain ⟨pa, pc, rfl, _, hn⟩ := hp.len
  have HV : Hid (w.ownsRow B 5 1 v l.length (bV l)) := hv
  have HC : Hid (PL P w (.slice pa ll.length pc) ll) := hp
  have HP : Hid (∀ g, P g → ¬ OwnV v g) := hP
  have HW : Hid (l.length + ll.flatten.length ≤ 1099511627776 ∧ B ≤ w.heap.size) := ⟨hl, hB⟩
  have nI : (ll.length : Int) ≤ 1152921504606846976 := by omega
  generalize hN : ll.length = n at *
  have EN : Hid (ll.length = n) := hN
  clear hv hp hP hl hB hN hn
  go_enter Try.func77, Try.ntmps77
  go_wp2
  go_loopw [0, 9] (fun s0 s9 wr => ∃ k : Nat, s9 = .int .i64 (k : Int) ∧ k ≤ n ∧ App B 5 1 w wr v s0 (l ++ (ll.take k).flatten).length (bV (l ++ (ll.take k).flatten))) (fun _ s9 _ => n - (intOf s9).toNat)
  case atStart => exact ⟨0, rfl, by omega, by simpa using App.refl HV.out⟩
  case round =>
    obtain ⟨k, rfl, hk, hA⟩ := hrel
    have HA : Hid (App B 5 1 w wr v u0 (l ++ (ll.take k).flatten).length (bV (l ++ (ll.take k).flatten))) := hA
    clear hA
    by_cases e : k = n
    · subst e
      go_wp2
      go_ret
      exact ⟨_, rfl, by have := HA.out; rwa [List.take_of_length_le (by have := EN.out; omega)] at this⟩
    · have kn : (k : Int) < (n : Int) := by omega
      obtain ⟨x, hx⟩ : ∃ x, ll[k]? = some x := ⟨ll[k]'(by have := EN.out; omega), List.getElem?_eq_getElem _⟩
      obtain ⟨g, a, u, rfl, hcell, hb⟩ := (HC.out.but HA.out.but HP.out).get hx
      have HXX : Hid (ll[k]? = some x) := hx
      have HBx : Hid (BL P wr u x) := hb
      obtain ⟨_, _, eu, _⟩ := hb.len
      have HLen : Hid ((l ++ (ll.take k).flatten).length + x.length ≤ 2199023255552) := by
        unfold Hid
        have h1 := HW.out.1
        have h2 := flatten_le ll (k + 1)
        rw [flatten_snoc HXX.out, List.length_append] at h2
        rw [List.length_append]
        omega
      clear hx e hb eu
      go_wp2_with (at_builtin; refine wpList_appB rfl _ _ rfl B (Nat.le_trans HW.out.2 HA.out.but.size) u0 (l ++ (ll.take k).flatten) rfl HA.out.row u x rfl HBx.out HLen.out ?_; intro v' w' hA2)
      have HR : Hid (App B 5 1 w w' v v' (l ++ (ll.take (k + 1)).flatten).length (bV (l ++ (ll.take (k + 1)).flatten))) := by
        have h9 := HA.out.trans hA2
        rw [List.append_assoc, ← flatten_snoc HXX.out] at h9
        exact h9
      clear hA2 HA
      go_roundw
      case rel => exact ⟨k + 1, by first | rfl | go_num, by omega, HR.out⟩
      case measure => simp [intOf]; omega
end Go.Proofs.Ytndhabhlajldeaa
