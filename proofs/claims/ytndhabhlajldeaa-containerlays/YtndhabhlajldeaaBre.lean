/- The document's containers: Head. -/
import Derived.Test.YtndhabhlajldeaaBrd
namespace Go.Proofs.Ytndhabhlajldeaa
open Go.RowKit
theorem InO.app {B C s n n' : Nat} {W W' : World} {u v v' : Value} {l : List Nat} {cs cs' : List Value} (h : InO C W u l) (k : App B 5 s W W' v v' n cs) (hv : W.ownsRow B 5 s v n' cs') : InO C W' u l :=
  owns_row_blockB h fun g hg => k.but.block g (World.ownsRow.lt h g hg).2 fun e => by
    rcases hv.2 with ⟨rfl, _⟩ | ⟨g', c, cur, rfl, _, hh, _⟩
    · cases e
    · injection e with e
      subst e
      rcases id h.2 with ⟨rfl, _⟩ | ⟨g2, c2, cur2, rfl, _, hh2, _⟩
      · cases hg
      · injection hg with hg
        subst hg
        rw [hh] at hh2
        cases hh2
theorem InO.sl {C : Nat} {W : World} {v : Value} {l : List Nat} (h : InO C W v l) : ∃ ad cap, v = .slice ad l.length cap := owns_sl h
/-- a header that the document writes -/
structure HdI (B : Nat) (w W : World) (cv sv : Value) (cs ss : List Nat) (v0 v : Value) (l : List Nat) : Prop where
  app : App B 5 1 w W v0 v l.length (bV l)
  uc : InO 0 W cv cs
  us : InO 0 W sv ss
  hB : B ≤ w.heap.size
section
variable {B : Nat} {w W W' : World} {cv sv v0 v v' : Value} {cs ss l l' : List Nat}
theorem HdI.le (h : HdI B w W cv sv cs ss v0 v l) : B ≤ W.heap.size := Nat.le_trans h.hB h.app.but.size
theorem HdI.past (h : HdI B w W cv sv cs ss v0 v l) (k : Below W.heap.size W W') : HdI B w W' cv sv cs ss v0 v l := ⟨h.app.then k, h.uc.past k, h.us.past k, h.hB⟩
theorem HdI.step (h : HdI B w W cv sv cs ss v0 v l) (k : App B 5 1 W W' v v' l'.length (bV l')) : HdI B w W' cv sv cs ss v0 v' l' := ⟨h.app.trans k, h.uc.app k h.app.row, h.us.app k h.app.row, h.hB⟩
end
set_option maxHeartbeats 4000000 in
set_option maxRecDepth 100000 in
theorem headR_is (w : World) (cv sv : Value) (cs ss : List Nat) (z : Nat) (hc : InO 0 w cv cs) (hs : InO 0 w sv ss) (hx : ∀ x ∈ cs, x < 4611686018427387904) (hy : ∀ x ∈ ss, x < 4611686018427387904) (hn : cs.length ≤ 16777216) (hm : ss.length ≤ 16777216) (hz : z < 4611686018427387904) :
    Calls Try.prog 78 #[cv, sv, .int .i64 (z : Int)] w fun e w' => ∃ v', e = .returned v' ∧ w'.ownsRow w.heap.size 5 1 v' (hd cs ss z).length (bV (hd cs ss z)) ∧ Below w.heap.size w w' := by
  obtain ⟨ca, cc, rfl⟩ := hc.sl
  obtain ⟨sa, sc, rfl⟩ := hs.sl
  obtain ⟨F, hF⟩ : ∃ F, F = hd cs ss z := ⟨_, rfl⟩
  rw [← hF]
  unfold hd at hF
  have HW : Hid (cs.length ≤ 16777216 ∧ ss.length ≤ 16777216 ∧ z < 4611686018427387904) := ⟨hn, hm, hz⟩
  have HXX : Hid ((∀ x ∈ cs, x < 4611686018427387904) ∧ ∀ x ∈ ss, x < 4611686018427387904) := ⟨hx, hy⟩
  generalize hN : cs.length = n at *
  generalize hM : ss.length = m at *
  have EN : Hid (cs.length = n ∧ ss.length = m) := ⟨hN, hM⟩
  have nI : (n : Int) ≤ 16777216 := by omega
  have mI : (m : Int) ≤ 16777216 := by omega
  have HF : Hid (F = [239, 0, 1] ++ ([1] ++ dig 2 (4 * n)) ++ ([2] ++ dig 2 n ++ cs.flatMap (dig 2)) ++ (if m = 0 then [] else [3] ++ dig 2 m ++ ss.flatMap (dig 4)) ++ ([255] ++ dig 2 z) ++ [0]) := hF
  obtain ⟨q, hq⟩ : ∃ q : Nat, q = 4 * n := ⟨_, rfl⟩
  have r1 : (4 : Int) * (n : Int) = (q : Int) := by omega
  have wq : IntKind.i64.wrap (q : Int) = (q : Int) := by rw [IntKind.wrap_i64]; omega
  have HQ : Hid (q = 4 * n) := hq
  have HX : Hid (q ≤ 67108864) := by unfold Hid; omega
  have HLN : Hid ((dig 2 q).length = 2 ∧ (dig 2 n).length = 2 ∧ (cs.flatMap (dig 2)).length = 2 * n ∧ (dig 2 m).length = 2 ∧ (ss.flatMap (dig 4)).length = 4 * m ∧ (dig 2 z).length = 2) := ⟨dig_len _ _, dig_len _ _, by rw [flat_len, hN], dig_len _ _, by rw [flat_len, hM], dig_len _ _⟩
  have BW : Hid (Below w.heap.size w (w.alloc (.cells #[.int .u8 239, .int .u8 0, .int .u8 1, .int .u8 1] 5))) := below_alloc _ _
  have R0 : Hid ((w.alloc (.cells #[.int .u8 239, .int .u8 0, .int .u8 1, .int .u8 1] 5)).ownsRow w.heap.size 5 1 (.slice (some ⟨w.heap.size, 0, none⟩) 4 4) [239, 0, 1, 1].length (bV [239, 0, 1, 1])) := ⟨rfl, Or.inr ⟨w.heap.size, 4, _, rfl, Nat.le_refl _, heap_alloc_new w _, by decide, by unfold maxLen; omega, rfl, by simp [bV]⟩⟩
  have M : Hid (HdI w.heap.size (w.alloc (.cells #[.int .u8 239, .int .u8 0, .int .u8 1, .int .u8 1] 5)) (w.alloc (.cells #[.int .u8 239, .int .u8 0, .int .u8 1, .int .u8 1] 5)) (.slice ca n cc) (.slice sa m sc) cs ss (.slice (some ⟨w.heap.size, 0, none⟩) 4 4) (.slice (some ⟨w.heap.size, 0, none⟩) 4 4) [239, 0, 1, 1]) := ⟨App.refl R0.out, hc.past BW.out, hs.past BW.out, BW.out.size⟩
  clear hc hs hx hy hn hm hN hM hF hq hz
  go_enter Try.func78, Try.ntmps78
  go_upto_region 2 with fail
  generalize w.alloc _ = W0 at M BW R0 ⊢
  generalize hbw : w.heap.size = bw at *
  have GB : Hid (bw = w.heap.size) := hbw.symm
  clear hbw
  generalize Value.slice (some ⟨bw, 0, none⟩) 4 4 = v0 at *
  have NC : Hid (Calls Try.prog 80 #[v0, .int .i64 (q : Int), .int .i64 2] W0 fun e w' => ∃ v', e = .returned v' ∧ App bw 5 1 W0 w' v0 v' (([239, 0, 1, 1]) ++ dig 2 q).length (bV (([239, 0, 1, 1]) ++ dig 2 q))) := numberR_is W0 bw M.out.le v0 ([239, 0, 1, 1]) M.out.app.row 2 q (by omega) (by have := HW.out; have := HX.out; omega) (by have := HW.out; have := HLN.out; simp only [List.length_cons, List.length_nil]; omega)
  go_upto_region 3 with (go_at_call 80; refine NC.out.mono ?_; rintro e W2 ⟨v2, rfl, hA⟩)
  have M2 : Hid (HdI bw W0 W2 (.slice ca n cc) (.slice sa m sc) cs ss v0 v2 (([239, 0, 1, 1]) ++ dig 2 q)) := M.out.step hA
  clear NC hA M
  have M := M2
  clear M2
  go_upto_region 4 with (at_builtin; refine wpList_appB (P := fun k => k = W2.heap.size) rfl _ _ rfl bw (M.out.past (below_alloc _ _)).le v2 (([239, 0, 1, 1]) ++ dig 2 q) rfl (M.out.past (below_alloc _ _)).app.row (.slice (some ⟨W2.heap.size, 0, none⟩) 1 1) [2] rfl (BL.new W2 [2] (by simp)) (by have := HW.out; have := HLN.out; simp only [List.length_append, List.length_cons, List.length_nil]; omega) ?_; intro v3 W3 hA)
  have M2 : Hid (HdI bw W0 W3 (.slice ca n cc) (.slice sa m sc) cs ss v0 v3 ((([239, 0, 1, 1]) ++ dig 2 q) ++ [2])) := (M.out.past (below_alloc _ _)).step hA
  clear hA M
  have M := M2
  clear M2
  have NC : Hid (Calls Try.prog 80 #[v3, .int .i64 (n : Int), .int .i64 2] W3 fun e w' => ∃ v', e = .returned v' ∧ App bw 5 1 W3 w' v3 v' (((([239, 0, 1, 1]) ++ dig 2 q) ++ [2]) ++ dig 2 n).length (bV (((([239, 0, 1, 1]) ++ dig 2 q) ++ [2]) ++ dig 2 n))) := numberR_is W3 bw M.out.le v3 ((([239, 0, 1, 1]) ++ dig 2 q) ++ [2]) M.out.app.row 2 n (by omega) (by have := HW.out; have := HX.out; omega) (by have := HW.out; have := HLN.out; simp only [List.length_append, List.length_cons, List.length_nil]; omega)
  go_upto_region 5 with (go_at_call 80; refine NC.out.mono ?_; rintro e W4 ⟨v4, rfl, hA⟩)
  have M2 : Hid (HdI bw W0 W4 (.slice ca n cc) (.slice sa m sc) cs ss v0 v4 (((([239, 0, 1, 1]) ++ dig 2 q) ++ [2]) ++ dig 2 n)) := M.out.step hA
  clear NC hA M
  have M := M2
  clear M2
  go_wp2
  go_loopw [7, 8] (fun s7 s8 wr => ∃ k : Nat, s8 = .int .i64 (k : Int) ∧ k ≤ n ∧ HdI bw W0 wr (.slice ca n cc) (.slice sa m sc) cs ss v0 s7 ((((([239, 0, 1, 1]) ++ dig 2 q) ++ [2]) ++ dig 2 n) ++ (cs.take k).flatMap (dig 2))) (fun _ s8 _ => n - (intOf s8).toNat)
  case atStart => exact ⟨0, rfl, by omega, by simpa using M.out⟩
  case round =>
    obtain ⟨k, rfl, hk, hM⟩ := hrel
    have M : Hid (HdI bw W0 wr (.slice ca n cc) (.slice sa m sc) cs ss v0 u7 ((((([239, 0, 1, 1]) ++ dig 2 q) ++ [2]) ++ dig 2 n) ++ (cs.take k).flatMap (dig 2))) := hM
    clear hM
    by_cases e : k = n
    rotate_left
    · have kn : (k : Int) < (n : Int) := by omega
      obtain ⟨x, hx⟩ : ∃ x, cs[k]? = some x := ⟨cs[k]'(by have := EN.out; omega), List.getElem?_eq_getElem _⟩
      obtain ⟨g, rfl, hcell⟩ := M.out.uc.get hx
      have xl : x < 4611686018427387904 := HXX.out.1 x (List.mem_of_getElem? hx)
      have FL : Hid (((cs.take k).flatMap (dig 2)).length = 2 * k) := by unfold Hid; rw [flat_len, List.length_take]; have := EN.out; (congr 1); omega
      have NC : Hid (Calls Try.prog 80 #[u7, .int .i64 (x : Int), .int .i64 2] wr fun e w' => ∃ v', e = .returned v' ∧ App bw 5 1 wr w' u7 v' (((((([239, 0, 1, 1]) ++ dig 2 q) ++ [2]) ++ dig 2 n) ++ (cs.take k).flatMap (dig 2)) ++ dig 2 x).length (bV (((((([239, 0, 1, 1]) ++ dig 2 q) ++ [2]) ++ dig 2 n) ++ (cs.take k).flatMap (dig 2)) ++ dig 2 x))) := numberR_is wr bw M.out.le u7 _ M.out.app.row 2 x (by omega) xl (by have := HW.out; have := HLN.out; have := FL.out; simp only [List.length_append, List.length_cons, List.length_nil]; omega)
      have HK : Hid (cs[k]? = some x) := hx
      clear hx xl e
      go_wp2_with (go_at_call 80; refine NC.out.mono ?_; rintro e w' ⟨v', rfl, hA⟩)
      have HR : Hid (HdI bw W0 w' (.slice (some ⟨g, 0, none⟩) n cc) (.slice sa m sc) cs ss v0 v' ((((([239, 0, 1, 1]) ++ dig 2 q) ++ [2]) ++ dig 2 n) ++ (cs.take (k + 1)).flatMap (dig 2))) := by
        have h9 := M.out.step hA
        rw [List.append_assoc (((([239, 0, 1, 1]) ++ dig 2 q) ++ [2]) ++ dig 2 n), ← flat_snoc HK.out] at h9
        exact h9
      clear hA NC M
      go_roundw
      case rel => exact ⟨k + 1, by first | rfl | go_num, by omega, HR.out⟩
      case measure => simp [intOf]; omega
    have e9 := e.symm
    clear e
    subst e9
    have M2 : Hid (HdI bw W0 wr (.slice ca n cc) (.slice sa m sc) cs ss v0 u7 ((((([239, 0, 1, 1]) ++ dig 2 q) ++ [2]) ++ dig 2 n) ++ cs.flatMap (dig 2))) := by have := M.out; rwa [List.take_of_length_le (by have := EN.out; omega)] at this
    clear M
    have M := M2
    clear M2
    by_cases em : m = 0
    · have EM : Hid (m = 0) := em
      have m0 : ¬ (0 : Int) < (m : Int) := by omega
      clear em
      go_upto_region 16 with fail
      go_upto_region 17 with (at_builtin; refine wpList_appB (P := fun k => k = wr.heap.size) rfl _ _ rfl bw (M.out.past (below_alloc _ _)).le u7 ((((([239, 0, 1, 1]) ++ dig 2 q) ++ [2]) ++ dig 2 n) ++ cs.flatMap (dig 2)) rfl (M.out.past (below_alloc _ _)).app.row (.slice (some ⟨wr.heap.size, 0, none⟩) 1 1) [255] rfl (BL.new wr [255] (by simp)) (by have := HW.out; have := HLN.out; simp only [List.length_append, List.length_cons, List.length_nil]; omega) ?_; intro x1 X1 hA)
      have M2 : Hid (HdI bw W0 X1 (.slice ca n cc) (.slice sa m sc) cs ss v0 x1 (((((([239, 0, 1, 1]) ++ dig 2 q) ++ [2]) ++ dig 2 n) ++ cs.flatMap (dig 2)) ++ [255])) := (M.out.past (below_alloc _ _)).step hA
      clear hA M
      have M := M2
      clear M2
      have NC : Hid (Calls Try.prog 80 #[x1, .int .i64 (z : Int), .int .i64 2] X1 fun e w' => ∃ v', e = .returned v' ∧ App bw 5 1 X1 w' x1 v' ((((((([239, 0, 1, 1]) ++ dig 2 q) ++ [2]) ++ dig 2 n) ++ cs.flatMap (dig 2)) ++ [255]) ++ dig 2 z).length (bV ((((((([239, 0, 1, 1]) ++ dig 2 q) ++ [2]) ++ dig 2 n) ++ cs.flatMap (dig 2)) ++ [255]) ++ dig 2 z))) := numberR_is X1 bw M.out.le x1 (((((([239, 0, 1, 1]) ++ dig 2 q) ++ [2]) ++ dig 2 n) ++ cs.flatMap (dig 2)) ++ [255]) M.out.app.row 2 z (by omega) (by have := HW.out; have := HX.out; omega) (by have := HW.out; have := HLN.out; simp only [List.length_append, List.length_cons, List.length_nil]; omega)
      go_upto_region 18 with (go_at_call 80; refine NC.out.mono ?_; rintro e X2 ⟨x2, rfl, hA⟩)
      have M2 : Hid (HdI bw W0 X2 (.slice ca n cc) (.slice sa m sc) cs ss v0 x2 ((((((([239, 0, 1, 1]) ++ dig 2 q) ++ [2]) ++ dig 2 n) ++ cs.flatMap (dig 2)) ++ [255]) ++ dig 2 z)) := M.out.step hA
      clear NC hA M
      have M := M2
      clear M2
      go_wp2_with (at_builtin; refine wpList_appB (P := fun k => k = X2.heap.size) rfl _ _ rfl bw (M.out.past (below_alloc _ _)).le x2 ((((((([239, 0, 1, 1]) ++ dig 2 q) ++ [2]) ++ dig 2 n) ++ cs.flatMap (dig 2)) ++ [255]) ++ dig 2 z) rfl (M.out.past (below_alloc _ _)).app.row (.slice (some ⟨X2.heap.size, 0, none⟩) 1 1) [0] rfl (BL.new X2 [0] (by simp)) (by have := HW.out; have := HLN.out; simp only [List.length_append, List.length_cons, List.length_nil]; omega) ?_; intro x3 X3 hA)
      have M2 : Hid (HdI bw W0 X3 (.slice ca n cc) (.slice sa m sc) cs ss v0 x3 (((((((([239, 0, 1, 1]) ++ dig 2 q) ++ [2]) ++ dig 2 n) ++ cs.flatMap (dig 2)) ++ [255]) ++ dig 2 z) ++ [0])) := (M.out.past (below_alloc _ _)).step hA
      clear hA M
      have M := M2
      clear M2
      go_ret
      have EF : ((((((([239, 0, 1, 1]) ++ dig 2 q) ++ [2]) ++ dig 2 n) ++ cs.flatMap (dig 2)) ++ [255]) ++ dig 2 z) ++ [0] = F := by rw [HF.out, HQ.out]; rw [if_pos EM.out]; simp only [List.append_assoc, List.nil_append, List.cons_append]
      refine ⟨_, rfl, ?_, ?_⟩
      · rw [← EF, GB.out.symm]; exact M.out.app.row
      · rw [← GB.out]; exact BW.out.trans (M.out.app.below R0.out (Nat.le_trans (Nat.le_of_eq GB.out) BW.out.size))
    have EM : Hid (¬ m = 0) := em
    have m0 : (0 : Int) < (m : Int) := by omega
    clear em
    go_upto_region 10 with fail
    go_upto_region 11 with (at_builtin; refine wpList_appB (P := fun k => k = wr.heap.size) rfl _ _ rfl bw (M.out.past (below_alloc _ _)).le u7 ((((([239, 0, 1, 1]) ++ dig 2 q) ++ [2]) ++ dig 2 n) ++ cs.flatMap (dig 2)) rfl (M.out.past (below_alloc _ _)).app.row (.slice (some ⟨wr.heap.size, 0, none⟩) 1 1) [3] rfl (BL.new wr [3] (by simp)) (by have := HW.out; have := HLN.out; simp only [List.length_append, List.length_cons, List.length_nil]; omega) ?_; intro y1 Y1 hA)
    have M2 : Hid (HdI bw W0 Y1 (.slice ca n cc) (.slice sa m sc) cs ss v0 y1 (((((([239, 0, 1, 1]) ++ dig 2 q) ++ [2]) ++ dig 2 n) ++ cs.flatMap (dig 2)) ++ [3])) := (M.out.past (below_alloc _ _)).step hA
    clear hA M
    have M := M2
    clear M2
    have NC : Hid (Calls Try.prog 80 #[y1, .int .i64 (m : Int), .int .i64 2] Y1 fun e w' => ∃ v', e = .returned v' ∧ App bw 5 1 Y1 w' y1 v' ((((((([239, 0, 1, 1]) ++ dig 2 q) ++ [2]) ++ dig 2 n) ++ cs.flatMap (dig 2)) ++ [3]) ++ dig 2 m).length (bV ((((((([239, 0, 1, 1]) ++ dig 2 q) ++ [2]) ++ dig 2 n) ++ cs.flatMap (dig 2)) ++ [3]) ++ dig 2 m))) := numberR_is Y1 bw M.out.le y1 (((((([239, 0, 1, 1]) ++ dig 2 q) ++ [2]) ++ dig 2 n) ++ cs.flatMap (dig 2)) ++ [3]) M.out.app.row 2 m (by omega) (by have := HW.out; have := HX.out; omega) (by have := HW.out; have := HLN.out; simp only [List.length_append, List.length_cons, List.length_nil]; omega)
    go_upto_region 12 with (go_at_call 80; refine NC.out.mono ?_; rintro e Y2 ⟨y2, rfl, hA⟩)
    have M2 : Hid (HdI bw W0 Y2 (.slice ca n cc) (.slice sa m sc) cs ss v0 y2 ((((((([239, 0, 1, 1]) ++ dig 2 q) ++ [2]) ++ dig 2 n) ++ cs.flatMap (dig 2)) ++ [3]) ++ dig 2 m)) := M.out.step hA
    clear NC hA M
    have M := M2
    clear M2
    go_wp2
    go_loopw [7, 9] (fun s7 s8 wr => ∃ k : Nat, s8 = .int .i64 (k : Int) ∧ k ≤ m ∧ HdI bw W0 wr (.slice ca n cc) (.slice sa m sc) cs ss v0 s7 (((((((([239, 0, 1, 1]) ++ dig 2 q) ++ [2]) ++ dig 2 n) ++ cs.flatMap (dig 2)) ++ [3]) ++ dig 2 m) ++ (ss.take k).flatMap (dig 4))) (fun _ s8 _ => m - (intOf s8).toNat)
    case atStart => exact ⟨0, rfl, by omega, by simpa using M.out⟩
    case round =>
      obtain ⟨k, rfl, hk, hM⟩ := hrel
      have M : Hid (HdI bw W0 wr (.slice ca n cc) (.slice sa m sc) cs ss v0 u7 (((((((([239, 0, 1, 1]) ++ dig 2 q) ++ [2]) ++ dig 2 n) ++ cs.flatMap (dig 2)) ++ [3]) ++ dig 2 m) ++ (ss.take k).flatMap (dig 4))) := hM
      clear hM
      by_cases e : k = m
      rotate_left
      · have kn : (k : Int) < (m : Int) := by omega
        obtain ⟨x, hx⟩ : ∃ x, ss[k]? = some x := ⟨ss[k]'(by have := EN.out; omega), List.getElem?_eq_getElem _⟩
        obtain ⟨g, rfl, hcell⟩ := M.out.us.get hx
        have xl : x < 4611686018427387904 := HXX.out.2 x (List.mem_of_getElem? hx)
        have FL : Hid (((ss.take k).flatMap (dig 4)).length = 4 * k) := by unfold Hid; rw [flat_len, List.length_take]; have := EN.out; (congr 1); omega
        have NC : Hid (Calls Try.prog 80 #[u7, .int .i64 (x : Int), .int .i64 4] wr fun e w' => ∃ v', e = .returned v' ∧ App bw 5 1 wr w' u7 v' ((((((((([239, 0, 1, 1]) ++ dig 2 q) ++ [2]) ++ dig 2 n) ++ cs.flatMap (dig 2)) ++ [3]) ++ dig 2 m) ++ (ss.take k).flatMap (dig 4)) ++ dig 4 x).length (bV ((((((((([239, 0, 1, 1]) ++ dig 2 q) ++ [2]) ++ dig 2 n) ++ cs.flatMap (dig 2)) ++ [3]) ++ dig 2 m) ++ (ss.take k).flatMap (dig 4)) ++ dig 4 x))) := numberR_is wr bw M.out.le u7 _ M.out.app.row 4 x (by omega) xl (by have := HW.out; have := HLN.out; have := FL.out; simp only [List.length_append, List.length_cons, List.length_nil]; omega)
        have HK : Hid (ss[k]? = some x) := hx
        clear hx xl e
        go_wp2_with (go_at_call 80; refine NC.out.mono ?_; rintro e w' ⟨v', rfl, hA⟩)
        have HR : Hid (HdI bw W0 w' (.slice ca n cc) (.slice (some ⟨g, 0, none⟩) m sc) cs ss v0 v' (((((((([239, 0, 1, 1]) ++ dig 2 q) ++ [2]) ++ dig 2 n) ++ cs.flatMap (dig 2)) ++ [3]) ++ dig 2 m) ++ (ss.take (k + 1)).flatMap (dig 4))) := by
          have h9 := M.out.step hA
          rw [List.append_assoc ((((((([239, 0, 1, 1]) ++ dig 2 q) ++ [2]) ++ dig 2 n) ++ cs.flatMap (dig 2)) ++ [3]) ++ dig 2 m), ← flat_snoc HK.out] at h9
          exact h9
        clear hA NC M
        go_roundw
        case rel => exact ⟨k + 1, by first | rfl | go_num, by omega, HR.out⟩
        case measure => simp [intOf]; omega
      have e9 := e.symm
      clear e
      subst e9
      have M2 : Hid (HdI bw W0 wr (.slice ca n cc) (.slice sa m sc) cs ss v0 u7 (((((((([239, 0, 1, 1]) ++ dig 2 q) ++ [2]) ++ dig 2 n) ++ cs.flatMap (dig 2)) ++ [3]) ++ dig 2 m) ++ ss.flatMap (dig 4))) := by have := M.out; rwa [List.take_of_length_le (by have := EN.out; omega)] at this
      clear M
      have M := M2
      clear M2
      go_upto_region 17 with (at_builtin; refine wpList_appB (P := fun k => k = wr.heap.size) rfl _ _ rfl bw (M.out.past (below_alloc _ _)).le u7 (((((((([239, 0, 1, 1]) ++ dig 2 q) ++ [2]) ++ dig 2 n) ++ cs.flatMap (dig 2)) ++ [3]) ++ dig 2 m) ++ ss.flatMap (dig 4)) rfl (M.out.past (below_alloc _ _)).app.row (.slice (some ⟨wr.heap.size, 0, none⟩) 1 1) [255] rfl (BL.new wr [255] (by simp)) (by have := HW.out; have := HLN.out; simp only [List.length_append, List.length_cons, List.length_nil]; omega) ?_; intro x1 X1 hA)
      have M2 : Hid (HdI bw W0 X1 (.slice ca n cc) (.slice sa m sc) cs ss v0 x1 ((((((((([239, 0, 1, 1]) ++ dig 2 q) ++ [2]) ++ dig 2 n) ++ cs.flatMap (dig 2)) ++ [3]) ++ dig 2 m) ++ ss.flatMap (dig 4)) ++ [255])) := (M.out.past (below_alloc _ _)).step hA
      clear hA M
      have M := M2
      clear M2
      have NC : Hid (Calls Try.prog 80 #[x1, .int .i64 (z : Int), .int .i64 2] X1 fun e w' => ∃ v', e = .returned v' ∧ App bw 5 1 X1 w' x1 v' (((((((((([239, 0, 1, 1]) ++ dig 2 q) ++ [2]) ++ dig 2 n) ++ cs.flatMap (dig 2)) ++ [3]) ++ dig 2 m) ++ ss.flatMap (dig 4)) ++ [255]) ++ dig 2 z).length (bV (((((((((([239, 0, 1, 1]) ++ dig 2 q) ++ [2]) ++ dig 2 n) ++ cs.flatMap (dig 2)) ++ [3]) ++ dig 2 m) ++ ss.flatMap (dig 4)) ++ [255]) ++ dig 2 z))) := numberR_is X1 bw M.out.le x1 ((((((((([239, 0, 1, 1]) ++ dig 2 q) ++ [2]) ++ dig 2 n) ++ cs.flatMap (dig 2)) ++ [3]) ++ dig 2 m) ++ ss.flatMap (dig 4)) ++ [255]) M.out.app.row 2 z (by omega) (by have := HW.out; have := HX.out; omega) (by have := HW.out; have := HLN.out; simp only [List.length_append, List.length_cons, List.length_nil]; omega)
      go_upto_region 18 with (go_at_call 80; refine NC.out.mono ?_; rintro e X2 ⟨x2, rfl, hA⟩)
      have M2 : Hid (HdI bw W0 X2 (.slice ca n cc) (.slice sa m sc) cs ss v0 x2 (((((((((([239, 0, 1, 1]) ++ dig 2 q) ++ [2]) ++ dig 2 n) ++ cs.flatMap (dig 2)) ++ [3]) ++ dig 2 m) ++ ss.flatMap (dig 4)) ++ [255]) ++ dig 2 z)) := M.out.step hA
      clear NC hA M
      have M := M2
      clear M2
      go_wp2_with (at_builtin; refine wpList_appB (P := fun k => k = X2.heap.size) rfl _ _ rfl bw (M.out.past (below_alloc _ _)).le x2 (((((((((([239, 0, 1, 1]) ++ dig 2 q) ++ [2]) ++ dig 2 n) ++ cs.flatMap (dig 2)) ++ [3]) ++ dig 2 m) ++ ss.flatMap (dig 4)) ++ [255]) ++ dig 2 z) rfl (M.out.past (below_alloc _ _)).app.row (.slice (some ⟨X2.heap.size, 0, none⟩) 1 1) [0] rfl (BL.new X2 [0] (by simp)) (by have := HW.out; have := HLN.out; simp only [List.length_append, List.length_cons, List.length_nil]; omega) ?_; intro x3 X3 hA)
      have M2 : Hid (HdI bw W0 X3 (.slice ca n cc) (.slice sa m sc) cs ss v0 x3 ((((((((((([239, 0, 1, 1]) ++ dig 2 q) ++ [2]) ++ dig 2 n) ++ cs.flatMap (dig 2)) ++ [3]) ++ dig 2 m) ++ ss.flatMap (dig 4)) ++ [255]) ++ dig 2 z) ++ [0])) := (M.out.past (below_alloc _ _)).step hA
      clear hA M
      have M := M2
      clear M2
      go_ret
      have EF : (((((((((([239, 0, 1, 1]) ++ dig 2 q) ++ [2]) ++ dig 2 n) ++ cs.flatMap (dig 2)) ++ [3]) ++ dig 2 m) ++ ss.flatMap (dig 4)) ++ [255]) ++ dig 2 z) ++ [0] = F := by rw [HF.out, HQ.out]; rw [if_neg EM.out]; simp only [List.append_assoc, List.nil_append, List.cons_append]
      refine ⟨_, rfl, ?_, ?_⟩
      · rw [← EF, GB.out.symm]; exact M.out.app.row
      · rw [← GB.out]; exact BW.out.trans (M.out.app.below R0.out (Nat.le_trans (Nat.le_of_eq GB.out) BW.out.size))
end Go.Proofs.Ytndhabhlajldeaa
