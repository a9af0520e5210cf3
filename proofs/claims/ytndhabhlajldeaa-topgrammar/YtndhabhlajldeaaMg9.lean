/- TopGrammar: the walk. -/
import Derived.Test.YtndhabhlajldeaaMg5
import Derived.Test.YtndhabhlajldeaaMg8
import Derived.Test.YtndhabhlajldeaaMg7
namespace Go.Proofs.Ytndhabhlajldeaa
open Go.RowKit
/-- the law's boxes -/
structure TgM (b5 b7 b8 : Nat) (w W : World) (uv : Value) (L5 L7 L8 : List Value) (b : List Nat) : Prop where
  c5 : CBox W b5 67 L5
  c7 : CBox W b7 28 L7
  c8 : CBox W b8 47 L8
  u : BL (fun _ => True) W uv b
  bel : Below w.heap.size w W
theorem TgM.past {b5 b7 b8 : Nat} {w W W' : World} {uv : Value} {L5 L7 L8 : List Value} {b : List Nat} (h : TgM b5 b7 b8 w W uv L5 L7 L8 b) (k : Below W.heap.size W W') : TgM b5 b7 b8 w W' uv L5 L7 L8 b := ⟨h.c5.past k, h.c7.past k, h.c8.past k, h.u.past k, h.bel.trans (k.mono h.bel.size)⟩
set_option maxHeartbeats 8000000 in
set_option maxRecDepth 100000 in
theorem topGrammar_walk (w : World) (v : Value) (b : List Nat) (opn : Bool) (h : BL (fun _ => True) w v b) (hb : Byt b) (hl0 : b.length ≤ 140737488355328) : Calls Try.prog 14 #[v, .bool opn] w fun e w' => e = .returned (.bool true) ∧ Below w.heap.size w w' := by
  obtain ⟨ua, uc, rfl, _, _⟩ := h.len
  by_cases hl : b.length ≤ 200000
  rotate_left
  · obtain ⟨L, hL⟩ : ∃ L, b.length = L := ⟨_, rfl⟩
    have q1 : (200000 : Int) < (L : Int) := by omega
    rw [hL]
    clear h hb hl hL
    go_enter Try.func14, Try.ntmps14
    go_wp2
    go_ret
    exact ⟨rfl, by first | exact Below.refl _ _ | assumption⟩
  have GR0 : ∀ W, Below w.heap.size w W → Calls Try.prog 46 #[.slice ua b.length uc, .bool opn] W fun e w' => GrP b opn W.heap.size e w' ∧ Below W.heap.size W w' := fun W hW => gram_is W _ b opn (h.past hW) hb hl
  have SM : ∀ c, prs b opn = .ok c → Small c := fun c g => prs_total hb g (by omega)
  cases hr : prs b opn with
  | error er =>
    obtain ⟨ec, ea⟩ := er
    obtain ⟨L, hL⟩ : ∃ L, b.length = L := ⟨_, rfl⟩
    have HL : Hid (L ≤ 200000 ∧ b.length = L) := ⟨by omega, hL⟩
    have HER : Hid (0 < ec ∧ ea ≤ L) := by
      have := gd_prs b opn ec ea hr
      rw [hL] at this
      exact this
    have GR : Hid (∀ W, Below w.heap.size w W → Calls Try.prog 46 #[.slice ua L uc, .bool opn] W fun e w' => (∃ (z0 z1 z2 z4 z5 : Int) (sq : Option Addr) (sn sr : Nat), e = .returned (.tuple #[.agg #[.int .i64 z0, .int .i64 z1, .int .i64 z2, .slice sq sn sr, .int .i64 z4, .int .i64 z5], .bool false])) ∧ Below W.heap.size W w') := fun W hW => by
      have h9 := GR0 W hW
      rw [hL] at h9
      refine h9.mono fun e w' q => ⟨?_, q.2⟩
      rcases q.1 with ⟨z0, z1, z2, z4, z5, sq, sn, sr, e9, _⟩ | ⟨_, _, _, e9, _⟩
      · exact ⟨z0, z1, z2, z4, z5, sq, sn, sr, e9⟩
      · rw [hr] at e9; cases e9
    have PA : Hid (∀ (W : World) (R : Nat → Prop) (u : Value), BL R W u b → Calls Try.prog 31 #[u, .bool opn] W fun e w' => (∃ ta tc ca cc sa sc da dc, e = .returned (.tuple #[.agg #[.slice ta 0 tc, .slice ca 0 cc, .slice sa 0 sc, .slice da 0 dc, .int .i64 0], .agg #[.int .i64 (ec : Int), .slice none 0 0, .int .i64 0, .int .i64 (ea : Int)]]) ∧ True) ∧ Below W.heap.size W w') := fun W R u q => (parse_ans W u b opn q hb (by omega)).mono fun e w' q9 => by
      rw [hr] at q9
      obtain ⟨⟨ta, tc, ca, cc, sa, sc, da, dc, e9, _⟩, hB⟩ := q9
      exact ⟨⟨ta, tc, ca, cc, sa, sc, da, dc, e9, trivial⟩, hB⟩
    have HU : BL (fun _ => True) w (.slice ua L uc) b := by rw [← hL]; exact h
    have nI : (L : Int) ≤ 200000 := by have := HL.out; omega
    rw [hL]
    clear h hb hl hl0 GR0 SM hr hL
    have q0 : ¬ (200000 : Int) < (L : Int) := by omega
    go_enter Try.func14, Try.ntmps14
    go_upto_region 3 with fail
    clear q0
    have N0 : Hid (Below w.heap.size w w ∧ BL (fun _ => True) w (.slice ua L uc) b) := ⟨Below.refl _ _, HU⟩
    clear HU
    go_upto_region 4 with (go_at_call 46; refine (GR.out w (Below.refl _ _)).mono ?_; rintro e w1 ⟨⟨z0, z1, z2, z4, z5, sq, sn, sr, rfl⟩, hB⟩; (have N1 : Hid (Below w.heap.size w w1 ∧ BL (fun _ => True) w1 (.slice ua L uc) b ∧ True) := ⟨hB, N0.out.2.past hB, trivial⟩); (clear hB))
    clear N0 GR
    have b5b := below_alloc w1 (.cells #[.int .i64 z0, .int .i64 z1, .int .i64 z2, .slice sq sn sr, .int .i64 z4, .int .i64 z5] 67)
    have N2 : Hid (CBox (w1.alloc (.cells #[.int .i64 z0, .int .i64 z1, .int .i64 z2, .slice sq sn sr, .int .i64 z4, .int .i64 z5] 67)) w1.heap.size 67 [.int .i64 z0, .int .i64 z1, .int .i64 z2, .slice sq sn sr, .int .i64 z4, .int .i64 z5] ∧ Below w.heap.size w (w1.alloc (.cells #[.int .i64 z0, .int .i64 z1, .int .i64 z2, .slice sq sn sr, .int .i64 z4, .int .i64 z5] 67)) ∧ BL (fun _ => True) (w1.alloc (.cells #[.int .i64 z0, .int .i64 z1, .int .i64 z2, .slice sq sn sr, .int .i64 z4, .int .i64 z5] 67)) (.slice ua L uc) b ∧ True) := ⟨CBox.new w1 67 [.int .i64 z0, .int .i64 z1, .int .i64 z2, .slice sq sn sr, .int .i64 z4, .int .i64 z5], N1.out.1.trans (b5b.mono N1.out.1.size), N1.out.2.1.past b5b, trivial⟩
    clear N1 b5b
    generalize w1.heap.size = b5 at N2 ⊢
    generalize w1.alloc _ = W1 at N2 ⊢
    go_upto_region 5 with (first | (go_at_call 47; refine (row_is _ _ b N2.out.2.2.1 (by have := HL.out; omega)).mono ?_; rintro e w2 ⟨v9, rfl, hO, hB⟩; (have N3 : Hid ((CBox w2 b5 67 [.int .i64 z0, .int .i64 z1, .int .i64 z2, .slice sq sn sr, .int .i64 z4, .int .i64 z5] ∧ Below w.heap.size w w2 ∧ BL (fun _ => True) w2 (.slice ua L uc) b ∧ True) ∧ BL (fun _ => True) w2 v9 b) := ⟨⟨N2.out.1.past hB, N2.out.2.1.trans (hB.mono N2.out.2.1.size), N2.out.2.2.1.past hB, trivial⟩, SL.own hO (by have := HL.out; omega) (fun _ _ => trivial)⟩); (clear hO hB)) | (go_at_call 31; refine (PA.out _ _ _ N3.out.2).mono ?_; rintro e w3 ⟨⟨ta, tc, ca, cc, sa, sc, da, dc, rfl, hC⟩, hB⟩; (have N4 : Hid ((CBox w3 b5 67 [.int .i64 z0, .int .i64 z1, .int .i64 z2, .slice sq sn sr, .int .i64 z4, .int .i64 z5] ∧ Below w.heap.size w w3 ∧ BL (fun _ => True) w3 (.slice ua L uc) b ∧ True) ∧ True) := ⟨⟨N3.out.1.1.past hB, N3.out.1.2.1.trans (hB.mono N3.out.1.2.1.size), N3.out.1.2.2.1.past hB, trivial⟩, hC⟩); (clear hC hB)))
    have T2 := top_boxes w3 [.slice ta 0 tc, .slice ca 0 cc, .slice sa 0 sc, .slice da 0 dc, .int .i64 0] [.int .i64 (ec : Int), .slice none 0 0, .int .i64 0, .int .i64 (ea : Int)]
    have M : Hid (TgM b5 w3.heap.size (w3.heap.size + 1) w ((w3.alloc (.cells #[.slice ta 0 tc, .slice ca 0 cc, .slice sa 0 sc, .slice da 0 dc, .int .i64 0] 28)).alloc (.cells #[.int .i64 (ec : Int), .slice none 0 0, .int .i64 0, .int .i64 (ea : Int)] 47)) (.slice ua L uc) [.int .i64 z0, .int .i64 z1, .int .i64 z2, .slice sq sn sr, .int .i64 z4, .int .i64 z5] [.slice ta 0 tc, .slice ca 0 cc, .slice sa 0 sc, .slice da 0 dc, .int .i64 0] [.int .i64 (ec : Int), .slice none 0 0, .int .i64 0, .int .i64 (ea : Int)] b ∧ True ∧ True) := ⟨⟨N4.out.1.1.past T2.2.2, T2.1, T2.2.1, N4.out.1.2.2.1.past T2.2.2, N4.out.1.2.1.trans (T2.2.2.mono N4.out.1.2.1.size)⟩, trivial, trivial⟩
    clear T2 N4 N3 N2 PA
    generalize w3.heap.size + 1 = b8 at M ⊢
    generalize w3.heap.size = b7 at M ⊢
    generalize (w3.alloc _).alloc _ = W at M ⊢
    have q1 : ((ec : Int) == 0) = false := by have := HER.out; simp; omega
    refine wp_region_lit ?_
    refine lst_val (v := .pointer (some ⟨b8, 0, none⟩)) (by kernel_rfl) ?_ ?_
    · go_simp
    simp only [Act.put, List.setIfInBounds_toArray, List.set_cons_zero, List.set_cons_succ]
    refine lst_val (v := .int .i64 (ec : Int)) (by kernel_rfl) ?_ ?_
    · have c0 := M.out.1.c8.cell 0
      go_simp
    simp only [Act.put, List.setIfInBounds_toArray, List.set_cons_zero, List.set_cons_succ]
    refine lst_val (v := .bool false) (by kernel_rfl) ?_ ?_
    · go_simp
    simp only [Act.put, List.setIfInBounds_toArray, List.set_cons_zero, List.set_cons_succ]
    refine lst_val (v := .bool false) (by kernel_rfl) ?_ ?_
    · go_simp
    simp only [Act.put, List.setIfInBounds_toArray, List.set_cons_zero, List.set_cons_succ]
    refine lst_val (v := .bool false) (by kernel_rfl) ?_ ?_
    · go_simp
    simp only [Act.put, List.setIfInBounds_toArray, List.set_cons_zero, List.set_cons_succ]
    refine lst_val (v := .bool false) (by kernel_rfl) ?_ ?_
    · go_simp
    simp only [Act.put, List.setIfInBounds_toArray, List.set_cons_zero, List.set_cons_succ]
    refine lst_val (v := .pointer (some ⟨b8, 1, none⟩)) (by kernel_rfl) ?_ ?_
    · go_simp
    simp only [Act.put, List.setIfInBounds_toArray, List.set_cons_zero, List.set_cons_succ]
    refine lst_val (v := .slice none 0 0) (by kernel_rfl) ?_ ?_
    · have c0 := M.out.1.c8.cell 1
      go_simp
    simp only [Act.put, List.setIfInBounds_toArray, List.set_cons_zero, List.set_cons_succ]
    refine lst_val (v := .int .i64 0) (by kernel_rfl) ?_ ?_
    · go_simp
    simp only [Act.put, List.setIfInBounds_toArray, List.set_cons_zero, List.set_cons_succ]
    refine lst_val (v := .bool false) (by kernel_rfl) ?_ ?_
    · go_simp
    simp only [Act.put, List.setIfInBounds_toArray, List.set_cons_zero, List.set_cons_succ]
    refine lst_val (v := .bool false) (by kernel_rfl) ?_ ?_
    · go_simp
    simp only [Act.put, List.setIfInBounds_toArray, List.set_cons_zero, List.set_cons_succ]
    refine lst_val (v := .bool false) (by kernel_rfl) ?_ ?_
    · go_simp
    simp only [Act.put, List.setIfInBounds_toArray, List.set_cons_zero, List.set_cons_succ]
    refine lst_val (v := .pointer (some ⟨b8, 2, none⟩)) (by kernel_rfl) ?_ ?_
    · go_simp
    simp only [Act.put, List.setIfInBounds_toArray, List.set_cons_zero, List.set_cons_succ]
    refine lst_val (v := .int .i64 0) (by kernel_rfl) ?_ ?_
    · have c0 := M.out.1.c8.cell 2
      go_simp
    simp only [Act.put, List.setIfInBounds_toArray, List.set_cons_zero, List.set_cons_succ]
    refine lst_val (v := .bool false) (by kernel_rfl) ?_ ?_
    · go_simp
    simp only [Act.put, List.setIfInBounds_toArray, List.set_cons_zero, List.set_cons_succ]
    refine lst_val (v := .bool false) (by kernel_rfl) ?_ ?_
    · go_simp
    simp only [Act.put, List.setIfInBounds_toArray, List.set_cons_zero, List.set_cons_succ]
    refine wpList_nil ?_
    clear q1
    go_upto_region 8 with fail
    have q2 : (0 : Int) ≤ (ea : Int) := by omega
    have q3 : (ea : Int) ≤ (L : Int) := by have := HER.out; omega
    refine wp_region_lit ?_
    refine lst_val (v := .pointer (some ⟨b8, 3, none⟩)) (by kernel_rfl) ?_ ?_
    · go_simp
    simp only [Act.put, List.setIfInBounds_toArray, List.set_cons_zero, List.set_cons_succ]
    refine lst_val (v := .int .i64 (ea : Int)) (by kernel_rfl) ?_ ?_
    · have c0 := M.out.1.c8.cell 3
      go_simp
    simp only [Act.put, List.setIfInBounds_toArray, List.set_cons_zero, List.set_cons_succ]
    refine lst_val (v := .bool true) (by kernel_rfl) ?_ ?_
    · go_simp
    simp only [Act.put, List.setIfInBounds_toArray, List.set_cons_zero, List.set_cons_succ]
    refine lst_val (v := .bool true) (by kernel_rfl) ?_ ?_
    · go_simp
    simp only [Act.put, List.setIfInBounds_toArray, List.set_cons_zero, List.set_cons_succ]
    refine lst_val (v := .pointer (some ⟨b8, 3, none⟩)) (by kernel_rfl) ?_ ?_
    · go_simp
    simp only [Act.put, List.setIfInBounds_toArray, List.set_cons_zero, List.set_cons_succ]
    refine lst_val (v := .int .i64 (ea : Int)) (by kernel_rfl) ?_ ?_
    · have c0 := M.out.1.c8.cell 3
      go_simp
    simp only [Act.put, List.setIfInBounds_toArray, List.set_cons_zero, List.set_cons_succ]
    refine lst_val (v := .slice ua L uc) (by kernel_rfl) ?_ ?_
    · go_simp
    simp only [Act.put, List.setIfInBounds_toArray, List.set_cons_zero, List.set_cons_succ]
    refine lst_val (v := .int .i64 (L : Int)) (by kernel_rfl) ?_ ?_
    · go_simp
    simp only [Act.put, List.setIfInBounds_toArray, List.set_cons_zero, List.set_cons_succ]
    refine lst_val (v := .bool true) (by kernel_rfl) ?_ ?_
    · go_simp
    simp only [Act.put, List.setIfInBounds_toArray, List.set_cons_zero, List.set_cons_succ]
    refine lst_val (v := .bool true) (by kernel_rfl) ?_ ?_
    · go_simp
    simp only [Act.put, List.setIfInBounds_toArray, List.set_cons_zero, List.set_cons_succ]
    refine lst_val (v := .bool true) (by kernel_rfl) ?_ ?_
    · go_simp
    simp only [Act.put, List.setIfInBounds_toArray, List.set_cons_zero, List.set_cons_succ]
    refine lst_val (v := .pointer (some ⟨b7, 0, none⟩)) (by kernel_rfl) ?_ ?_
    · go_simp
    simp only [Act.put, List.setIfInBounds_toArray, List.set_cons_zero, List.set_cons_succ]
    refine lst_val (v := .slice ta 0 tc) (by kernel_rfl) ?_ ?_
    · have c0 := M.out.1.c7.cell 0
      go_simp
    simp only [Act.put, List.setIfInBounds_toArray, List.set_cons_zero, List.set_cons_succ]
    refine lst_val (v := .int .i64 0) (by kernel_rfl) ?_ ?_
    · go_simp
    simp only [Act.put, List.setIfInBounds_toArray, List.set_cons_zero, List.set_cons_succ]
    refine lst_val (v := .bool true) (by kernel_rfl) ?_ ?_
    · go_simp
    simp only [Act.put, List.setIfInBounds_toArray, List.set_cons_zero, List.set_cons_succ]
    refine lst_val (v := .bool true) (by kernel_rfl) ?_ ?_
    · go_simp
    simp only [Act.put, List.setIfInBounds_toArray, List.set_cons_zero, List.set_cons_succ]
    refine lst_val (v := .bool true) (by kernel_rfl) ?_ ?_
    · go_simp
    simp only [Act.put, List.setIfInBounds_toArray, List.set_cons_zero, List.set_cons_succ]
    refine lst_val (v := .pointer (some ⟨b7, 1, none⟩)) (by kernel_rfl) ?_ ?_
    · go_simp
    simp only [Act.put, List.setIfInBounds_toArray, List.set_cons_zero, List.set_cons_succ]
    refine lst_val (v := .slice ca 0 cc) (by kernel_rfl) ?_ ?_
    · have c0 := M.out.1.c7.cell 1
      go_simp
    simp only [Act.put, List.setIfInBounds_toArray, List.set_cons_zero, List.set_cons_succ]
    refine lst_val (v := .int .i64 0) (by kernel_rfl) ?_ ?_
    · go_simp
    simp only [Act.put, List.setIfInBounds_toArray, List.set_cons_zero, List.set_cons_succ]
    refine lst_val (v := .bool true) (by kernel_rfl) ?_ ?_
    · go_simp
    simp only [Act.put, List.setIfInBounds_toArray, List.set_cons_zero, List.set_cons_succ]
    refine lst_val (v := .bool true) (by kernel_rfl) ?_ ?_
    · go_simp
    simp only [Act.put, List.setIfInBounds_toArray, List.set_cons_zero, List.set_cons_succ]
    refine lst_val (v := .bool true) (by kernel_rfl) ?_ ?_
    · go_simp
    simp only [Act.put, List.setIfInBounds_toArray, List.set_cons_zero, List.set_cons_succ]
    refine lst_val (v := .pointer (some ⟨b7, 2, none⟩)) (by kernel_rfl) ?_ ?_
    · go_simp
    simp only [Act.put, List.setIfInBounds_toArray, List.set_cons_zero, List.set_cons_succ]
    refine lst_val (v := .slice sa 0 sc) (by kernel_rfl) ?_ ?_
    · have c0 := M.out.1.c7.cell 2
      go_simp
    simp only [Act.put, List.setIfInBounds_toArray, List.set_cons_zero, List.set_cons_succ]
    refine lst_val (v := .int .i64 0) (by kernel_rfl) ?_ ?_
    · go_simp
    simp only [Act.put, List.setIfInBounds_toArray, List.set_cons_zero, List.set_cons_succ]
    refine lst_val (v := .bool true) (by kernel_rfl) ?_ ?_
    · go_simp
    simp only [Act.put, List.setIfInBounds_toArray, List.set_cons_zero, List.set_cons_succ]
    refine lst_val (v := .bool true) (by kernel_rfl) ?_ ?_
    · go_simp
    simp only [Act.put, List.setIfInBounds_toArray, List.set_cons_zero, List.set_cons_succ]
    refine lst_val (v := .bool true) (by kernel_rfl) ?_ ?_
    · go_simp
    simp only [Act.put, List.setIfInBounds_toArray, List.set_cons_zero, List.set_cons_succ]
    refine lst_val (v := .pointer (some ⟨b7, 3, none⟩)) (by kernel_rfl) ?_ ?_
    · go_simp
    simp only [Act.put, List.setIfInBounds_toArray, List.set_cons_zero, List.set_cons_succ]
    refine lst_val (v := .slice da 0 dc) (by kernel_rfl) ?_ ?_
    · have c0 := M.out.1.c7.cell 3
      go_simp
    simp only [Act.put, List.setIfInBounds_toArray, List.set_cons_zero, List.set_cons_succ]
    refine lst_val (v := .int .i64 0) (by kernel_rfl) ?_ ?_
    · go_simp
    simp only [Act.put, List.setIfInBounds_toArray, List.set_cons_zero, List.set_cons_succ]
    refine lst_val (v := .bool true) (by kernel_rfl) ?_ ?_
    · go_simp
    simp only [Act.put, List.setIfInBounds_toArray, List.set_cons_zero, List.set_cons_succ]
    refine lst_val (v := .bool true) (by kernel_rfl) ?_ ?_
    · go_simp
    simp only [Act.put, List.setIfInBounds_toArray, List.set_cons_zero, List.set_cons_succ]
    refine lst_val (v := .bool true) (by kernel_rfl) ?_ ?_
    · go_simp
    simp only [Act.put, List.setIfInBounds_toArray, List.set_cons_zero, List.set_cons_succ]
    refine lst_val (v := .pointer (some ⟨b7, 4, none⟩)) (by kernel_rfl) ?_ ?_
    · go_simp
    simp only [Act.put, List.setIfInBounds_toArray, List.set_cons_zero, List.set_cons_succ]
    refine lst_val (v := .int .i64 0) (by kernel_rfl) ?_ ?_
    · have c0 := M.out.1.c7.cell 4
      go_simp
    simp only [Act.put, List.setIfInBounds_toArray, List.set_cons_zero, List.set_cons_succ]
    refine lst_val (v := .bool true) (by kernel_rfl) ?_ ?_
    · go_simp
    simp only [Act.put, List.setIfInBounds_toArray, List.set_cons_zero, List.set_cons_succ]
    refine lst_val (v := .bool true) (by kernel_rfl) ?_ ?_
    · go_simp
    simp only [Act.put, List.setIfInBounds_toArray, List.set_cons_zero, List.set_cons_succ]
    refine lst_val (v := .bool true) (by kernel_rfl) ?_ ?_
    · go_simp
    simp only [Act.put, List.setIfInBounds_toArray, List.set_cons_zero, List.set_cons_succ]
    refine lst_call (by kernel_rfl) (by first | (go_simp; done) | (go_simp; first | exact rfl | exact ⟨rfl, rfl⟩ | exact ⟨rfl, rfl, rfl⟩)) (topleast_is _) ?_
    rintro e z3 ⟨rfl, hB⟩
    refine ⟨_, rfl, ?_⟩
    have BF : Hid (Below w.heap.size w z3) := M.out.1.bel.trans (hB.mono M.out.1.bel.size)
    clear hB
    simp only [Act.put, List.setIfInBounds_toArray, List.set_cons_zero, List.set_cons_succ]
    refine lst_val (v := .bool true) (by kernel_rfl) ?_ ?_
    · go_simp
    simp only [Act.put, List.setIfInBounds_toArray, List.set_cons_zero, List.set_cons_succ]
    refine lst_val (v := .bool true) (by kernel_rfl) ?_ ?_
    · go_simp
    simp only [Act.put, List.setIfInBounds_toArray, List.set_cons_zero, List.set_cons_succ]
    refine wpList_nil ?_
    go_wp2
    go_ret
    exact ⟨rfl, BF.out⟩
  | ok c =>
    obtain ⟨L, hL⟩ : ∃ L, b.length = L := ⟨_, rfl⟩
    have HL : Hid (L ≤ 200000 ∧ b.length = L) := ⟨by omega, hL⟩
    have HBY : Hid (Byt b) := hb
    obtain ⟨hmy, hse, _⟩ := prs_ok hb hr
    have hcg : c = gC b := (prs_gram.1 hr).2.2.2.2.2
    have hPQ : PtQ b c (gE b + 4) (gN b) (gM b) (gP b) (gD b) := by
      rw [hcg] at hr ⊢
      exact ptQ_of hr hl
    obtain ⟨q, hq⟩ : ∃ q, q = gN b + gM b + 1 := ⟨_, rfl⟩
    have GR1 : ∀ W, Below w.heap.size w W → Calls Try.prog 46 #[.slice ua L uc, .bool opn] W fun e w' => (∃ ga gc C, e = .returned (.tuple #[.agg #[.int .i64 ((gE b + 4 : Nat) : Int), .int .i64 (gN b : Int), .int .i64 (gM b : Int), .slice ga q gc, .int .i64 (gP b : Int), .int .i64 (gD b : Int)], .bool true]) ∧ InO C w' (.slice ga q gc) ((List.range q).map (gPl b))) ∧ Below W.heap.size W w' := fun W hW => by
      have h9 := GR0 W hW
      rw [hL] at h9
      refine h9.mono fun e w' q9 => ⟨?_, q9.2⟩
      rcases q9.1 with ⟨_, _, _, _, _, _, _, _, _, e9⟩ | ⟨ga, gc, e9, _, h8⟩
      · exact absurd hr (e9 c)
      · rw [← hq] at e9 h8; exact ⟨ga, gc, _, e9, h8⟩
    have SE : Hid (∀ (W : World) (R : Nat → Prop) (u : Value), CW R W u c → Calls Try.prog 35 #[u] W fun e w' => (∃ oa oc, e = .returned (.tuple #[.slice oa L oc, .int .i64 0]) ∧ BL (fun _ => True) w' (.slice oa L oc) b) ∧ Below W.heap.size W w') := fun W R u q9 => (serialize_is W u c q9 (SM c hr)).mono fun e w' q8 => by
      obtain ⟨v', e9, hO, hB⟩ := q8
      have e0 : chk c = 0 := may_chk hmy
      have e1 : serR c = b := by unfold serR; rw [if_pos e0]; exact hse
      rw [e1] at hO
      rw [e0] at e9
      obtain ⟨oa, oc, e2⟩ := owns_sl hO
      subst e2
      rw [hL] at e9
      refine ⟨⟨oa, oc, e9, ?_⟩, hB⟩
      have h7 : BL (fun _ => True) w' (.slice oa b.length oc) b := SL.own hO (by omega) fun _ _ => trivial
      rw [hL] at h7
      exact h7
    have PA : Hid (∀ (W : World) (R : Nat → Prop) (u : Value), BL R W u b → Calls Try.prog 31 #[u, .bool opn] W fun e w' => (∃ ta tc ca cc sa sc da dc, e = .returned (.tuple #[.agg #[.slice ta c.ts.length tc, .slice ca c.cs.length cc, .slice sa c.ss.length sc, .slice da c.d.length dc, .int .i64 c.n], .agg #[.int .i64 0, .slice none 0 0, .int .i64 0, .int .i64 0]]) ∧ CW (fun _ => True) w' (.agg #[.slice ta c.ts.length tc, .slice ca c.cs.length cc, .slice sa c.ss.length sc, .slice da c.d.length dc, .int .i64 c.n]) c) ∧ Below W.heap.size W w') := fun W R u q9 => (parse_ans W u b opn q9 hb (by omega)).mono fun e w' q8 => by
      rw [hr] at q8
      obtain ⟨⟨ta, tc, ca, cc, sa, sc, da, dc, e9, hC⟩, hB⟩ := q8
      exact ⟨⟨ta, tc, ca, cc, sa, sc, da, dc, e9, hC.mono fun _ _ _ => trivial⟩, hB⟩
    have HU : BL (fun _ => True) w (.slice ua L uc) b := by rw [← hL]; exact h
    have nI : (L : Int) ≤ 200000 := by have := HL.out; omega
    rw [hL]
    clear h hl hl0 GR0 SM hr hL hmy hse hcg hb
    generalize gE b + 4 = E4 at *
    generalize gN b = n at *
    generalize gM b = m at *
    generalize gP b = p at *
    generalize gD b = D at *
    have GR : Hid (∀ W, Below w.heap.size w W → Calls Try.prog 46 #[.slice ua L uc, .bool opn] W fun e w' => (∃ ga gc C, e = .returned (.tuple #[.agg #[.int .i64 (E4 : Int), .int .i64 (n : Int), .int .i64 (m : Int), .slice ga q gc, .int .i64 (p : Int), .int .i64 (D : Int)], .bool true]) ∧ InO C w' (.slice ga q gc) ((List.range q).map (gPl b))) ∧ Below W.heap.size W w') := GR1
    have HQ : Hid (q = n + m + 1 ∧ PtQ b c E4 n m p D) := ⟨hq, hPQ⟩
    clear GR1 hq hPQ
    have q0 : ¬ (200000 : Int) < (L : Int) := by omega
    go_enter Try.func14, Try.ntmps14
    go_upto_region 3 with fail
    clear q0
    have N0 : Hid (Below w.heap.size w w ∧ BL (fun _ => True) w (.slice ua L uc) b) := ⟨Below.refl _ _, HU⟩
    clear HU
    go_upto_region 4 with (go_at_call 46; refine (GR.out w (Below.refl _ _)).mono ?_; rintro e w1 ⟨⟨ga, gc, C, rfl, hI⟩, hB⟩; (have N1 : Hid (Below w.heap.size w w1 ∧ BL (fun _ => True) w1 (.slice ua L uc) b ∧ InO C w1 (.slice ga q gc) ((List.range q).map (gPl b))) := ⟨hB, N0.out.2.past hB, hI⟩); (clear hB hI))
    clear N0 GR
    have b5b := below_alloc w1 (.cells #[.int .i64 (E4 : Int), .int .i64 (n : Int), .int .i64 (m : Int), .slice ga q gc, .int .i64 (p : Int), .int .i64 (D : Int)] 67)
    have N2 : Hid (CBox (w1.alloc (.cells #[.int .i64 (E4 : Int), .int .i64 (n : Int), .int .i64 (m : Int), .slice ga q gc, .int .i64 (p : Int), .int .i64 (D : Int)] 67)) w1.heap.size 67 [.int .i64 (E4 : Int), .int .i64 (n : Int), .int .i64 (m : Int), .slice ga q gc, .int .i64 (p : Int), .int .i64 (D : Int)] ∧ Below w.heap.size w (w1.alloc (.cells #[.int .i64 (E4 : Int), .int .i64 (n : Int), .int .i64 (m : Int), .slice ga q gc, .int .i64 (p : Int), .int .i64 (D : Int)] 67)) ∧ BL (fun _ => True) (w1.alloc (.cells #[.int .i64 (E4 : Int), .int .i64 (n : Int), .int .i64 (m : Int), .slice ga q gc, .int .i64 (p : Int), .int .i64 (D : Int)] 67)) (.slice ua L uc) b ∧ InO C (w1.alloc (.cells #[.int .i64 (E4 : Int), .int .i64 (n : Int), .int .i64 (m : Int), .slice ga q gc, .int .i64 (p : Int), .int .i64 (D : Int)] 67)) (.slice ga q gc) ((List.range q).map (gPl b))) := ⟨CBox.new w1 67 [.int .i64 (E4 : Int), .int .i64 (n : Int), .int .i64 (m : Int), .slice ga q gc, .int .i64 (p : Int), .int .i64 (D : Int)], N1.out.1.trans (b5b.mono N1.out.1.size), N1.out.2.1.past b5b, N1.out.2.2.past b5b⟩
    clear N1 b5b
    generalize w1.heap.size = b5 at N2 ⊢
    generalize w1.alloc _ = W1 at N2 ⊢
    go_upto_region 5 with (first | (go_at_call 47; refine (row_is _ _ b N2.out.2.2.1 (by have := HL.out; omega)).mono ?_; rintro e w2 ⟨v9, rfl, hO, hB⟩; (have N3 : Hid ((CBox w2 b5 67 [.int .i64 (E4 : Int), .int .i64 (n : Int), .int .i64 (m : Int), .slice ga q gc, .int .i64 (p : Int), .int .i64 (D : Int)] ∧ Below w.heap.size w w2 ∧ BL (fun _ => True) w2 (.slice ua L uc) b ∧ InO C w2 (.slice ga q gc) ((List.range q).map (gPl b))) ∧ BL (fun _ => True) w2 v9 b) := ⟨⟨N2.out.1.past hB, N2.out.2.1.trans (hB.mono N2.out.2.1.size), N2.out.2.2.1.past hB, N2.out.2.2.2.past hB⟩, SL.own hO (by have := HL.out; omega) (fun _ _ => trivial)⟩); (clear hO hB)) | (go_at_call 31; refine (PA.out _ _ _ N3.out.2).mono ?_; rintro e w3 ⟨⟨ta, tc, ca, cc, sa, sc, da, dc, rfl, hC⟩, hB⟩; (have N4 : Hid ((CBox w3 b5 67 [.int .i64 (E4 : Int), .int .i64 (n : Int), .int .i64 (m : Int), .slice ga q gc, .int .i64 (p : Int), .int .i64 (D : Int)] ∧ Below w.heap.size w w3 ∧ BL (fun _ => True) w3 (.slice ua L uc) b ∧ InO C w3 (.slice ga q gc) ((List.range q).map (gPl b))) ∧ CW (fun _ => True) w3 (.agg #[.slice ta c.ts.length tc, .slice ca c.cs.length cc, .slice sa c.ss.length sc, .slice da c.d.length dc, .int .i64 c.n]) c) := ⟨⟨N3.out.1.1.past hB, N3.out.1.2.1.trans (hB.mono N3.out.1.2.1.size), N3.out.1.2.2.1.past hB, N3.out.1.2.2.2.past hB⟩, hC⟩); (clear hC hB)))
    have T2 := top_boxes w3 [.slice ta c.ts.length tc, .slice ca c.cs.length cc, .slice sa c.ss.length sc, .slice da c.d.length dc, .int .i64 c.n] [.int .i64 0, .slice none 0 0, .int .i64 0, .int .i64 0]
    have M : Hid (TgM b5 w3.heap.size (w3.heap.size + 1) w ((w3.alloc (.cells #[.slice ta c.ts.length tc, .slice ca c.cs.length cc, .slice sa c.ss.length sc, .slice da c.d.length dc, .int .i64 c.n] 28)).alloc (.cells #[.int .i64 0, .slice none 0 0, .int .i64 0, .int .i64 0] 47)) (.slice ua L uc) [.int .i64 (E4 : Int), .int .i64 (n : Int), .int .i64 (m : Int), .slice ga q gc, .int .i64 (p : Int), .int .i64 (D : Int)] [.slice ta c.ts.length tc, .slice ca c.cs.length cc, .slice sa c.ss.length sc, .slice da c.d.length dc, .int .i64 c.n] [.int .i64 0, .slice none 0 0, .int .i64 0, .int .i64 0] b ∧ InO C ((w3.alloc (.cells #[.slice ta c.ts.length tc, .slice ca c.cs.length cc, .slice sa c.ss.length sc, .slice da c.d.length dc, .int .i64 c.n] 28)).alloc (.cells #[.int .i64 0, .slice none 0 0, .int .i64 0, .int .i64 0] 47)) (.slice ga q gc) ((List.range q).map (gPl b)) ∧ CW (fun _ => True) ((w3.alloc (.cells #[.slice ta c.ts.length tc, .slice ca c.cs.length cc, .slice sa c.ss.length sc, .slice da c.d.length dc, .int .i64 c.n] 28)).alloc (.cells #[.int .i64 0, .slice none 0 0, .int .i64 0, .int .i64 0] 47)) (.agg #[.slice ta c.ts.length tc, .slice ca c.cs.length cc, .slice sa c.ss.length sc, .slice da c.d.length dc, .int .i64 c.n]) c) := ⟨⟨N4.out.1.1.past T2.2.2, T2.1, T2.2.1, N4.out.1.2.2.1.past T2.2.2, N4.out.1.2.1.trans (T2.2.2.mono N4.out.1.2.1.size)⟩, N4.out.1.2.2.2.past T2.2.2, N4.out.2.past T2.2.2⟩
    clear T2 N4 N3 N2 PA
    generalize w3.heap.size + 1 = b8 at M ⊢
    generalize w3.heap.size = b7 at M ⊢
    generalize (w3.alloc _).alloc _ = W at M ⊢
    refine wp_region_lit ?_
    refine lst_val (v := .pointer (some ⟨b8, 0, none⟩)) (by kernel_rfl) ?_ ?_
    · go_simp
    simp only [Act.put, List.setIfInBounds_toArray, List.set_cons_zero, List.set_cons_succ]
    refine lst_val (v := .int .i64 0) (by kernel_rfl) ?_ ?_
    · have c0 := M.out.1.c8.cell 0
      go_simp
    simp only [Act.put, List.setIfInBounds_toArray, List.set_cons_zero, List.set_cons_succ]
    refine lst_val (v := .bool true) (by kernel_rfl) ?_ ?_
    · go_simp
    simp only [Act.put, List.setIfInBounds_toArray, List.set_cons_zero, List.set_cons_succ]
    refine lst_val (v := .bool true) (by kernel_rfl) ?_ ?_
    · go_simp
    simp only [Act.put, List.setIfInBounds_toArray, List.set_cons_zero, List.set_cons_succ]
    refine lst_val (v := .bool false) (by kernel_rfl) ?_ ?_
    · go_simp
    simp only [Act.put, List.setIfInBounds_toArray, List.set_cons_zero, List.set_cons_succ]
    refine lst_val (v := .bool false) (by kernel_rfl) ?_ ?_
    · go_simp
    simp only [Act.put, List.setIfInBounds_toArray, List.set_cons_zero, List.set_cons_succ]
    refine lst_val (v := .pointer (some ⟨b8, 1, none⟩)) (by kernel_rfl) ?_ ?_
    · go_simp
    simp only [Act.put, List.setIfInBounds_toArray, List.set_cons_zero, List.set_cons_succ]
    refine lst_val (v := .slice none 0 0) (by kernel_rfl) ?_ ?_
    · have c0 := M.out.1.c8.cell 1
      go_simp
    simp only [Act.put, List.setIfInBounds_toArray, List.set_cons_zero, List.set_cons_succ]
    refine lst_val (v := .int .i64 0) (by kernel_rfl) ?_ ?_
    · go_simp
    simp only [Act.put, List.setIfInBounds_toArray, List.set_cons_zero, List.set_cons_succ]
    refine lst_val (v := .bool false) (by kernel_rfl) ?_ ?_
    · go_simp
    simp only [Act.put, List.setIfInBounds_toArray, List.set_cons_zero, List.set_cons_succ]
    refine lst_val (v := .bool false) (by kernel_rfl) ?_ ?_
    · go_simp
    simp only [Act.put, List.setIfInBounds_toArray, List.set_cons_zero, List.set_cons_succ]
    refine lst_val (v := .bool false) (by kernel_rfl) ?_ ?_
    · go_simp
    simp only [Act.put, List.setIfInBounds_toArray, List.set_cons_zero, List.set_cons_succ]
    refine lst_val (v := .pointer (some ⟨b8, 2, none⟩)) (by kernel_rfl) ?_ ?_
    · go_simp
    simp only [Act.put, List.setIfInBounds_toArray, List.set_cons_zero, List.set_cons_succ]
    refine lst_val (v := .int .i64 0) (by kernel_rfl) ?_ ?_
    · have c0 := M.out.1.c8.cell 2
      go_simp
    simp only [Act.put, List.setIfInBounds_toArray, List.set_cons_zero, List.set_cons_succ]
    refine lst_val (v := .bool false) (by kernel_rfl) ?_ ?_
    · go_simp
    simp only [Act.put, List.setIfInBounds_toArray, List.set_cons_zero, List.set_cons_succ]
    refine lst_val (v := .bool false) (by kernel_rfl) ?_ ?_
    · go_simp
    simp only [Act.put, List.setIfInBounds_toArray, List.set_cons_zero, List.set_cons_succ]
    refine wpList_nil ?_
    go_upto_region 9 with fail
    have a0 : W.cell? ⟨b7, 0, none⟩ = some (.slice ta c.ts.length tc) := M.out.1.c7.cell 0
    have a1 : W.cell? ⟨b7, 1, none⟩ = some (.slice ca c.cs.length cc) := M.out.1.c7.cell 1
    have a2 : W.cell? ⟨b7, 2, none⟩ = some (.slice sa c.ss.length sc) := M.out.1.c7.cell 2
    have a3 : W.cell? ⟨b7, 3, none⟩ = some (.slice da c.d.length dc) := M.out.1.c7.cell 3
    have a4 : W.cell? ⟨b7, 4, none⟩ = some (.int .i64 c.n) := M.out.1.c7.cell 4
    go_upto_region 10 with (go_at_call 35; refine (SE.out _ _ _ M.out.2.2).mono ?_; rintro e w4 ⟨⟨oa, oc, rfl, hO⟩, hB⟩; (have M9 : Hid (TgM b5 b7 b8 w w4 (.slice ua L uc) [.int .i64 (E4 : Int), .int .i64 (n : Int), .int .i64 (m : Int), .slice ga q gc, .int .i64 (p : Int), .int .i64 (D : Int)] [.slice ta c.ts.length tc, .slice ca c.cs.length cc, .slice sa c.ss.length sc, .slice da c.d.length dc, .int .i64 c.n] [.int .i64 0, .slice none 0 0, .int .i64 0, .int .i64 0] b ∧ InO C w4 (.slice ga q gc) ((List.range q).map (gPl b)) ∧ CW (fun _ => True) w4 (.agg #[.slice ta c.ts.length tc, .slice ca c.cs.length cc, .slice sa c.ss.length sc, .slice da c.d.length dc, .int .i64 c.n]) c ∧ BL (fun _ => True) w4 (.slice oa L oc) b) := ⟨M.out.1.past hB, M.out.2.1.past hB, M.out.2.2.past hB, hO⟩); (clear hO hB))
    clear a0 a1 a2 a3 a4 M SE
    have M := M9
    clear M9
    refine wp_region_lit ?_
    refine lst_val (v := .pointer (some ⟨b8, 3, none⟩)) (by kernel_rfl) ?_ ?_
    · go_simp
    simp only [Act.put, List.setIfInBounds_toArray, List.set_cons_zero, List.set_cons_succ]
    refine lst_val (v := .int .i64 0) (by kernel_rfl) ?_ ?_
    · have c0 := M.out.1.c8.cell 3
      go_simp
    simp only [Act.put, List.setIfInBounds_toArray, List.set_cons_zero, List.set_cons_succ]
    refine lst_val (v := .bool true) (by kernel_rfl) ?_ ?_
    · go_simp
    simp only [Act.put, List.setIfInBounds_toArray, List.set_cons_zero, List.set_cons_succ]
    refine lst_val (v := .bool true) (by kernel_rfl) ?_ ?_
    · go_simp
    simp only [Act.put, List.setIfInBounds_toArray, List.set_cons_zero, List.set_cons_succ]
    refine lst_val (v := .agg #[.slice ta c.ts.length tc, .slice ca c.cs.length cc, .slice sa c.ss.length sc, .slice da c.d.length dc, .int .i64 c.n]) (by kernel_rfl) ?_ ?_
    · have a0 := M.out.1.c7.cell 0; have a1 := M.out.1.c7.cell 1; have a2 := M.out.1.c7.cell 2; have a3 := M.out.1.c7.cell 3; have a4 := M.out.1.c7.cell 4
      go_simp
    simp only [Act.put, List.setIfInBounds_toArray, List.set_cons_zero, List.set_cons_succ]
    refine lst_val (v := .slice ua L uc) (by kernel_rfl) ?_ ?_
    · go_simp
    simp only [Act.put, List.setIfInBounds_toArray, List.set_cons_zero, List.set_cons_succ]
    refine lst_val (v := .agg #[.int .i64 (E4 : Int), .int .i64 (n : Int), .int .i64 (m : Int), .slice ga q gc, .int .i64 (p : Int), .int .i64 (D : Int)]) (by kernel_rfl) ?_ ?_
    · have a0 := M.out.1.c5.cell 0; have a1 := M.out.1.c5.cell 1; have a2 := M.out.1.c5.cell 2; have a3 := M.out.1.c5.cell 3; have a4 := M.out.1.c5.cell 4; have a5 := M.out.1.c5.cell 5
      go_simp
    simp only [Act.put, List.setIfInBounds_toArray, List.set_cons_zero, List.set_cons_succ]
    refine lst_call (by kernel_rfl) (by first | (go_simp; done) | (go_simp; first | exact rfl | exact ⟨rfl, rfl⟩ | exact ⟨rfl, rfl, rfl⟩)) (parts_is _ _ _ c b E4 n m p D q ga gc M.out.2.2.1 M.out.1.u HBY.out M.out.2.1 HQ.out.1 HQ.out.2) ?_
    rintro e z1 ⟨rfl, hB⟩
    refine ⟨_, rfl, ?_⟩
    have M8 : Hid (TgM b5 b7 b8 w z1 (.slice ua L uc) [.int .i64 (E4 : Int), .int .i64 (n : Int), .int .i64 (m : Int), .slice ga q gc, .int .i64 (p : Int), .int .i64 (D : Int)] [.slice ta c.ts.length tc, .slice ca c.cs.length cc, .slice sa c.ss.length sc, .slice da c.d.length dc, .int .i64 c.n] [.int .i64 0, .slice none 0 0, .int .i64 0, .int .i64 0] b ∧ InO C z1 (.slice ga q gc) ((List.range q).map (gPl b)) ∧ CW (fun _ => True) z1 (.agg #[.slice ta c.ts.length tc, .slice ca c.cs.length cc, .slice sa c.ss.length sc, .slice da c.d.length dc, .int .i64 c.n]) c ∧ BL (fun _ => True) z1 (.slice oa L oc) b) := ⟨M.out.1.past hB, M.out.2.1.past hB, M.out.2.2.1.past hB, M.out.2.2.2.past hB⟩
    clear hB M
    have M := M8
    clear M8
    simp only [Act.put, List.setIfInBounds_toArray, List.set_cons_zero, List.set_cons_succ]
    refine lst_val (v := .bool true) (by kernel_rfl) ?_ ?_
    · go_simp
    simp only [Act.put, List.setIfInBounds_toArray, List.set_cons_zero, List.set_cons_succ]
    refine lst_val (v := .bool true) (by kernel_rfl) ?_ ?_
    · go_simp
    simp only [Act.put, List.setIfInBounds_toArray, List.set_cons_zero, List.set_cons_succ]
    refine lst_val (v := .int .i64 0) (by kernel_rfl) ?_ ?_
    · go_simp
    simp only [Act.put, List.setIfInBounds_toArray, List.set_cons_zero, List.set_cons_succ]
    refine lst_val (v := .bool true) (by kernel_rfl) ?_ ?_
    · go_simp
    simp only [Act.put, List.setIfInBounds_toArray, List.set_cons_zero, List.set_cons_succ]
    refine lst_val (v := .bool true) (by kernel_rfl) ?_ ?_
    · go_simp
    simp only [Act.put, List.setIfInBounds_toArray, List.set_cons_zero, List.set_cons_succ]
    refine lst_val (v := .bool true) (by kernel_rfl) ?_ ?_
    · go_simp
    simp only [Act.put, List.setIfInBounds_toArray, List.set_cons_zero, List.set_cons_succ]
    refine lst_val (v := .slice oa L oc) (by kernel_rfl) ?_ ?_
    · go_simp
    simp only [Act.put, List.setIfInBounds_toArray, List.set_cons_zero, List.set_cons_succ]
    refine lst_val (v := .slice ua L uc) (by kernel_rfl) ?_ ?_
    · go_simp
    simp only [Act.put, List.setIfInBounds_toArray, List.set_cons_zero, List.set_cons_succ]
    refine lst_call (by kernel_rfl) (by first | (go_simp; done) | (go_simp; first | exact rfl | exact ⟨rfl, rfl⟩ | exact ⟨rfl, rfl, rfl⟩)) (sameT_is _ _ _ b M.out.2.2.2 M.out.1.u) ?_
    rintro e z2 ⟨rfl, hB⟩
    refine ⟨_, rfl, ?_⟩
    have M9 : Hid (TgM b5 b7 b8 w z2 (.slice ua L uc) [.int .i64 (E4 : Int), .int .i64 (n : Int), .int .i64 (m : Int), .slice ga q gc, .int .i64 (p : Int), .int .i64 (D : Int)] [.slice ta c.ts.length tc, .slice ca c.cs.length cc, .slice sa c.ss.length sc, .slice da c.d.length dc, .int .i64 c.n] [.int .i64 0, .slice none 0 0, .int .i64 0, .int .i64 0] b ∧ InO C z2 (.slice ga q gc) ((List.range q).map (gPl b)) ∧ CW (fun _ => True) z2 (.agg #[.slice ta c.ts.length tc, .slice ca c.cs.length cc, .slice sa c.ss.length sc, .slice da c.d.length dc, .int .i64 c.n]) c ∧ BL (fun _ => True) z2 (.slice oa L oc) b) := ⟨M.out.1.past hB, M.out.2.1.past hB, M.out.2.2.1.past hB, M.out.2.2.2.past hB⟩
    clear hB M
    have M := M9
    clear M9
    simp only [Act.put, List.setIfInBounds_toArray, List.set_cons_zero, List.set_cons_succ]
    refine lst_val (v := .bool true) (by kernel_rfl) ?_ ?_
    · go_simp
    simp only [Act.put, List.setIfInBounds_toArray, List.set_cons_zero, List.set_cons_succ]
    refine lst_val (v := .bool true) (by kernel_rfl) ?_ ?_
    · go_simp
    simp only [Act.put, List.setIfInBounds_toArray, List.set_cons_zero, List.set_cons_succ]
    refine lst_call (by kernel_rfl) (by first | (go_simp; done) | (go_simp; first | exact rfl | exact ⟨rfl, rfl⟩ | exact ⟨rfl, rfl, rfl⟩)) (topleast_is _) ?_
    rintro e z3 ⟨rfl, hB⟩
    refine ⟨_, rfl, ?_⟩
    have BF : Hid (Below w.heap.size w z3) := M.out.1.bel.trans (hB.mono M.out.1.bel.size)
    clear hB
    simp only [Act.put, List.setIfInBounds_toArray, List.set_cons_zero, List.set_cons_succ]
    refine lst_val (v := .bool true) (by kernel_rfl) ?_ ?_
    · go_simp
    simp only [Act.put, List.setIfInBounds_toArray, List.set_cons_zero, List.set_cons_succ]
    refine lst_val (v := .bool true) (by kernel_rfl) ?_ ?_
    · go_simp
    simp only [Act.put, List.setIfInBounds_toArray, List.set_cons_zero, List.set_cons_succ]
    refine wpList_nil ?_
    go_wp2
    go_ret
    exact ⟨rfl, BF.out⟩
end Go.Proofs.Ytndhabhlajldeaa
