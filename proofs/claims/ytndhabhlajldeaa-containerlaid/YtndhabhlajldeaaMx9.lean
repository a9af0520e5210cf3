/- The laws' two, bytes. -/
import Derived.Test.YtndhabhlajldeaaMx7
namespace Go.Proofs.Ytndhabhlajldeaa
open Go.RowKit
set_option maxRecDepth 100000 in
set_option maxHeartbeats 4000000 in
theorem two_is (w : World) (x : Int) (n : Nat) (hx : x = (n : Int)) (hn : n < 9223372036854775808) : Calls Try.prog 82 #[.int .i64 x] w fun e w' => (∃ g, e = .returned (.slice (some ⟨g, 0, none⟩) 2 2) ∧ BL (fun _ => True) w' (.slice (some ⟨g, 0, none⟩) 2 2) (dig 2 n)) ∧ Below w.heap.size w w' := by
  subst hx
  have HN : Hid (n < 9223372036854775808) := hn
  have E : Hid ((#[.int .u8 ((n : Int) / 256 % 256), .int .u8 ((n : Int) % 256)] : Array Value) = (bV (dig 2 n)).toArray) := by
    unfold Hid
    simp [bV, dig]
  clear hn
  go_enter Try.func82, Try.ntmps82
  go_wp2
  go_ret
  rw [E.out]
  refine ⟨⟨_, rfl, ?_⟩, below_alloc _ _⟩
  have h := BL.new w (dig 2 n) (by rw [dig_len]; omega)
  rw [dig_len] at h
  exact h.mono fun _ _ _ => trivial
theorem HY.past {bw : Nat} {w V V' : World} {l1 : List Value} {v : Value} {l : List Nat} (h : HY bw w V l1 v l) (k : Below V.heap.size V V') : HY bw w V' l1 v l := ⟨h.bel.trans (k.mono h.le), h.c1.past k, owns_past h.row k, h.ge⟩
/-- a byte in a block of its own, that is not the row's -/
structure LitAt (W : World) (v : Value) (g x : Nat) : Prop where
  bl : BL (fun k => k = g) W (.slice (some ⟨g, 0, none⟩) 1 1) [x]
  no : ¬ OwnV v g
  lt : g < W.heap.size
theorem LitAt.past {W W' : World} {v : Value} {g x : Nat} (h : LitAt W v g x) (k : Below W.heap.size W W') : LitAt W' v g x := ⟨h.bl.past k, h.no, Nat.lt_of_lt_of_le h.lt k.size⟩
theorem LitAt.app {W W' : World} {v v' : Value} {g x B n : Nat} {cs : List Value} (h : LitAt W v g x) (k : App B 5 1 W W' v v' n cs) : LitAt W' v' g x := ⟨h.bl.but k.but fun q e o => h.no (by rw [← e]; exact o), fun o => by
  rcases k.new g o with e | e
  · exact h.no e
  · have := h.lt; omega, Nat.lt_of_lt_of_le h.lt k.but.size⟩
theorem LitAt.new {bw : Nat} {w W : World} {l1 : List Value} {v : Value} {l : List Nat} (h : HY bw w W l1 v l) (x : Nat) : LitAt (W.alloc (.cells #[.int .u8 (x : Int)] 5)) v W.heap.size x := ⟨BL.new W [x] (by simp), fun o => by have := (h.row.lt _ o).2; omega, by simp⟩
theorem dig4 (n : Nat) : dig 4 n = dig 2 (n / 65536) ++ dig 2 n := by
  simp only [dig, List.nil_append, List.cons_append, Nat.div_div_eq_div_mul]
theorem tyb_is (t : Ty) : tyb t = [t.1.toNat % 256, t.2.1.toNat % 256] ++ dig 2 t.2.2.toNat := by
  simp [tyb, dig]
set_option maxHeartbeats 8000000 in
set_option maxRecDepth 100000 in
theorem bytes_is {P : Nat → Prop} (w : World) (v : Value) (c : Con) (h : CW P w v c) (hsm : Small c) (hm : May c) : Calls Try.prog 41 #[v] w fun e w' => ∃ v', e = .returned v' ∧ w'.ownsRow w.heap.size 5 1 v' (ser c).length (bV (ser c)) ∧ Below w.heap.size w w' := by
  have h : CW (fun g => g < w.heap.size) w v c := h.mono (fun _ _ hg => hg)
  obtain ⟨tv, cv, sv, dv, rfl, hT, hC, hS, hD⟩ := id h
  obtain ⟨ta, tc, rfl, _⟩ := hT.len
  obtain ⟨ca, cc, rfl, _⟩ := hC.len
  obtain ⟨sa, sc, rfl, _⟩ := hS.len
  obtain ⟨da, dc, rfl, _, hd1⟩ := hD.len
  have HT : Hid (∀ W, Below w.heap.size w W → TL (fun g => g < w.heap.size) W (.slice ta c.ts.length tc) c.ts) := fun W hW => hT.past hW
  have HC : Hid (∀ W, Below w.heap.size w W → PL (fun g => g < w.heap.size) W (.slice ca c.cs.length cc) c.cs) := fun W hW => hC.past hW
  have HS : Hid (∀ W, Below w.heap.size w W → PL (fun g => g < w.heap.size) W (.slice sa c.ss.length sc) c.ss) := fun W hW => hS.past hW
  have HD : Hid (∀ W, Below w.heap.size w W → BL (fun g => g < w.heap.size) W (.slice da c.d.length dc) c.d) := fun W hW => hD.past hW
  have B0 : Hid (Below w.heap.size w (w.alloc (.cells #[.slice ta c.ts.length tc, .slice ca c.cs.length cc, .slice sa c.ss.length sc, .slice da c.d.length dc, .int .i64 c.n] 28)) ∧ CBox (w.alloc (.cells #[.slice ta c.ts.length tc, .slice ca c.cs.length cc, .slice sa c.ss.length sc, .slice da c.d.length dc, .int .i64 c.n] 28)) w.heap.size 28 [.slice ta c.ts.length tc, .slice ca c.cs.length cc, .slice sa c.ss.length sc, .slice da c.d.length dc, .int .i64 c.n]) := ⟨below_alloc _ _, CBox.new _ _ [_, _, _, _, _]⟩
  have HSM : Hid (Small c) := hsm
  have HMY : Hid (May c) := hm
  have z2 := hm.z2
  obtain ⟨sz, hsz⟩ : ∃ sz, sz = c.n.toNat := ⟨_, rfl⟩
  have HSZN : Hid (c.n.toNat = sz) := hsz.symm
  have hz : c.n = (sz : Int) := by omega
  clear h hT hC hS hD hd1 z2 hsz hsm hm
  have HLN0 : c.ts.length = c.ts.length ∧ c.cs.length = c.cs.length ∧ c.ss.length = c.ss.length ∧ c.d.length = c.d.length := ⟨rfl, rfl, rfl, rfl⟩
  obtain ⟨nt, hnt⟩ : ∃ nt, c.ts.length = nt := ⟨_, rfl⟩
  obtain ⟨nc, hnc⟩ : ∃ nc, c.cs.length = nc := ⟨_, rfl⟩
  obtain ⟨ns, hns⟩ : ∃ ns, c.ss.length = ns := ⟨_, rfl⟩
  obtain ⟨nd, hnd⟩ : ∃ nd, c.d.length = nd := ⟨_, rfl⟩
  obtain ⟨z, hzz⟩ : ∃ z, c.n = z := ⟨_, rfl⟩
  rw [hnt, hnc, hns, hnd, hzz] at B0
  rw [hnt] at HT
  rw [hnc] at HC
  rw [hns] at HS
  rw [hnd] at HD
  rw [hzz] at hz
  rw [hnt, hnc, hns, hnd, hzz]
  have HSZ : Hid (z = (sz : Int)) := hz
  have bs := HSM.out
  unfold Small at bs
  have HLN : Hid (c.ts.length = nt ∧ c.cs.length = nc ∧ c.ss.length = ns ∧ c.d.length = nd ∧ nt ≤ 16777216 ∧ nc ≤ 16777216 ∧ ns ≤ 16777216 ∧ nd ≤ 16777216) := ⟨hnt, hnc, hns, hnd, by omega, by omega, by omega, by omega⟩
  obtain ⟨n4, hn4⟩ : ∃ n4, n4 = 4 * nc := ⟨_, rfl⟩
  have HN4 : Hid (4 * (nc : Int) = (n4 : Int) ∧ IntKind.i64.wrap (n4 : Int) = (n4 : Int) ∧ n4 = 4 * nc ∧ n4 < 9223372036854775808) := ⟨by omega, by rw [IntKind.wrap_i64]; omega, hn4, by omega⟩
  have i1 : (nt : Int) ≤ 16777216 := by omega
  have i2 : (nc : Int) ≤ 16777216 := by omega
  have i3 : (ns : Int) ≤ 16777216 := by omega
  have i4 : (nd : Int) ≤ 16777216 := by omega
  clear HLN0 hnt hnc hns hnd hzz hz bs hn4
  generalize hbw : w.heap.size = bw at HT HC HS HD B0
  have GB : Hid (w.heap.size = bw) := hbw
  have GE : Hid (bw ≤ w.heap.size) := by unfold Hid; omega
  go_enter Try.func41, Try.ntmps41
  go_upto_region 1 with fail
  clear hbw
  generalize w.alloc _ = W0 at B0 ⊢
  go_upto_region 2 with fail
  have BA := below_alloc W0 (.cells #[.int .u8 239, .int .u8 0, .int .u8 1] 5)
  have H : Hid (HY bw w (W0.alloc (.cells #[.int .u8 239, .int .u8 0, .int .u8 1] 5)) [.slice ta nt tc, .slice ca nc cc, .slice sa ns sc, .slice da nd dc, .int .i64 z] (.slice (some ⟨W0.heap.size, 0, none⟩) 3 3) [239, 0, 1]) := ⟨B0.out.1.trans (BA.mono (Nat.le_trans GE.out B0.out.1.size)), B0.out.2.past BA, World.ownsRow_lit W0 #[.int .u8 239, .int .u8 0, .int .u8 1] 3 (Nat.le_trans GE.out B0.out.1.size) (by unfold maxLen; omega) rfl, GE.out⟩
  clear BA B0
  generalize W0.heap.size = g0 at H ⊢
  generalize W0.alloc _ = W1 at H ⊢
  obtain ⟨A1, hA1⟩ : ∃ q : List Nat, q = [239, 0, 1] := ⟨_, rfl⟩
  have EA1 : Hid (A1 = [239, 0, 1]) := hA1
  have H9 : Hid (HY bw w W1 [.slice ta nt tc, .slice ca nc cc, .slice sa ns sc, .slice da nd dc, .int .i64 z] (.slice (some ⟨g0, 0, none⟩) 3 3) (A1)) := by rw [hA1]; exact H.out
  have HAL : Hid (A1.length ≤ 100) := by unfold Hid; rw [hA1]; decide
  clear H hA1
  have H := H9
  clear H9
  have HNB : Hid (4 * nc < 9223372036854775808 ∧ nc < 9223372036854775808 ∧ ns < 9223372036854775808 ∧ sz < 9223372036854775808 ∧ n4 < 9223372036854775808) := by have := HLN.out; have := HMY.out.n2; have := HMY.out.ns; have := HMY.out.z1; have := HSZN.out; have := HN4.out; unfold Hid; omega
  refine wp_region_held_drew (S := fun V' => CBox V' bw 28 [.slice ta nt tc, .slice ca nc cc, .slice sa ns sc, .slice da nd dc, .int .i64 z]) (by kernel_rfl) (H.out.c1.past below_drew) (fun HH => ?_)
  have H9 : Hid (HY bw w W1.drew [.slice ta nt tc, .slice ca nc cc, .slice sa ns sc, .slice da nd dc, .int .i64 z] (.slice (some ⟨g0, 0, none⟩) 3 3) (A1)) := H.out.past below_drew
  clear H
  have H := H9
  clear H9
  generalize W1.drew = z1 at HH H ⊢
  refine wpAnyH_take (i := 0) (v := (.slice (some ⟨g0, 0, none⟩) 3 3)) ov0 (by kernel_rfl) (by kernel_rfl) (by kernel_rfl) (fun _ _ _ h => h) (Or.inl ⟨by rfl, fun V' hS => ?_⟩) HH ?_
  · go_simp
  simp only [Act.put, List.setIfInBounds_toArray, List.set_cons_zero, List.set_cons_succ]
  refine wpAnyH_take (i := 3) (v := .pointer (some ⟨bw, 1, none⟩)) ov3 (by kernel_rfl) (by kernel_rfl) (by kernel_rfl) (fun _ _ _ h => h) (Or.inl ⟨by rfl, fun V' hS => ?_⟩) HH ?_
  · go_simp
  simp only [Act.put, List.setIfInBounds_toArray, List.set_cons_zero, List.set_cons_succ]
  refine wpAnyH_take (i := 4) (v := .slice ca nc cc) ov4 (by kernel_rfl) (by kernel_rfl) (by kernel_rfl) (fun _ _ _ h => h) (Or.inl ⟨by rfl, fun V' hS => ?_⟩) HH ?_
  · have c0 := hS.cell 1
    go_simp
  simp only [Act.put, List.setIfInBounds_toArray, List.set_cons_zero, List.set_cons_succ]
  refine wpAnyH_take (i := 5) (v := .int .i64 (nc : Int)) ov5 (by kernel_rfl) (by kernel_rfl) (by kernel_rfl) (fun _ _ _ h => h) (Or.inl ⟨by rfl, fun V' hS => ?_⟩) HH ?_
  · go_simp
  simp only [Act.put, List.setIfInBounds_toArray, List.set_cons_zero, List.set_cons_succ]
  refine wpAnyH_take (i := 6) (v := .int .i64 (n4 : Int)) ov6 (by kernel_rfl) (by kernel_rfl) (by kernel_rfl) (fun _ _ _ h => h) (Or.inl ⟨by rfl, fun V' hS => ?_⟩) HH ?_
  · have c0 := HN4.out.1; have c1 := HN4.out.2.1
    go_simp
  simp only [Act.put, List.setIfInBounds_toArray, List.set_cons_zero, List.set_cons_succ]
  refine wpAnyH_ready (rs := [1]) (by kernel_rfl) (by simp) ?_
  refine AllReadyH.cons ov1 (fun K hK => ?_) AllReadyH.nil
  rw [if_pos (by rfl)]
  go_simp
  have hB : Below z1.heap.size z1 (z1.alloc (.cells #[.int .u8 1] 5)) := below_alloc _ _
  have L9 : BL (fun _ => True) (z1.alloc (.cells #[.int .u8 1] 5)) (.slice (some ⟨z1.heap.size, 0, none⟩) 1 1) [1] := (BL.new z1 [1] (by simp)).mono fun _ _ _ => trivial
  have H9 := H.out.past hB
  clear H
  have H : Hid _ := H9
  clear H9
  (try (have q9 := FZ.out.past hB; clear FZ; have FZ : Hid _ := q9; clear q9))
  (try (have q9 := TW.out; clear TW; have TW : Hid (BL (fun _ => True) (z1.alloc (.cells #[.int .u8 1] 5)) (.slice (some ⟨gt, 0, none⟩) 2 2) (dig 2 n4)) := q9.past hB; clear q9))
  have FB : Hid (BL (fun _ => True) (z1.alloc (.cells #[.int .u8 1] 5)) (.slice (some ⟨z1.heap.size, 0, none⟩) 1 1) [1]) := L9
  clear L9 hB
  refine hK.out _ (z1.alloc (.cells #[.int .u8 1] 5)) H.out.c1 (fun _ => ?_)
  clear hK K
  (try simp only [Act.put, List.setIfInBounds_toArray, List.set_cons_zero, List.set_cons_succ])
  generalize z1.heap.size = bb at FB ⊢
  (first | generalize (z1.alloc (.cells #[.int .u8 1] 5)) = z1 at H FB FZ TW ⊢ | generalize (z1.alloc (.cells #[.int .u8 1] 5)) = z1 at H FB FZ ⊢ | generalize (z1.alloc (.cells #[.int .u8 1] 5)) = z1 at H FB TW ⊢ | generalize (z1.alloc (.cells #[.int .u8 1] 5)) = z1 at H FZ TW ⊢ | generalize (z1.alloc (.cells #[.int .u8 1] 5)) = z1 at H FB ⊢ | generalize (z1.alloc (.cells #[.int .u8 1] 5)) = z1 at H FZ ⊢ | generalize (z1.alloc (.cells #[.int .u8 1] 5)) = z1 at H TW ⊢ | generalize (z1.alloc (.cells #[.int .u8 1] 5)) = z1 at H  ⊢)
  refine wpAnyH_ready (rs := [2]) (by kernel_rfl) (by simp) ?_
  refine AllReadyH.cons ov2 (fun K hK => ?_) AllReadyH.nil
  rw [if_pos (by rfl)]
  refine wp_appB _ _ rfl bw H.out.le (.slice (some ⟨g0, 0, none⟩) 3 3) (A1) rfl H.out.row (.slice (some ⟨bb, 0, none⟩) 1 1) [1] rfl FB.out (by have := HAL.out; (try have := HLN.out); (try have := HFK.out k); (try have := HXL.out); (try simp only [List.length_append]); (try simp only [List.length_cons]); (try simp only [List.length_nil]); (try simp only [dig_len]); omega) ?_
  intro vA z1 hA
  (try (have q9 := FZ.out.app hA; clear FZ; have FZ : Hid _ := q9; clear q9))
  have H9 : Hid (HY bw w z1 [.slice ta nt tc, .slice ca nc cc, .slice sa ns sc, .slice da nd dc, .int .i64 z] vA (A1 ++ [1])) := H.out.step hA
  clear H FB hA
  have H := H9
  clear H9
  refine hK.out _ z1 H.out.c1 (fun _ => ?_)
  clear hK K
  (try simp only [Act.put, List.setIfInBounds_toArray, List.set_cons_zero, List.set_cons_succ])
  refine wpAnyH_ready (rs := [7]) (by kernel_rfl) (by simp) ?_
  refine AllReadyH.cons ov7 (fun K hK => ?_) AllReadyH.nil
  rw [if_pos (by rfl)]
  go_simp
  refine (two_is _ (n4 : Int) n4 rfl (by have := HNB.out; omega)).mono ?_
  rintro e z1 ⟨⟨gt, rfl, hT⟩, hB⟩
  have H9 := H.out.past hB
  clear H
  have H : Hid _ := H9
  clear H9
  (try (have q9 := FB.out; clear FB; have FB : Hid (BL (fun _ => True) z1 (.slice (some ⟨bb, 0, none⟩) 1 1) [1]) := q9.past hB; clear q9))
  (try (have q9 := FZ.out.past hB; clear FZ; have FZ : Hid _ := q9; clear q9))
  have TW : Hid (BL (fun _ => True) z1 (.slice (some ⟨gt, 0, none⟩) 2 2) (dig 2 n4)) := hT
  clear hT hB
  (try go_wp2_with fail)
  refine hK.out _ _ H.out.c1 (fun _ => ?_)
  clear hK K
  (try simp only [Act.put, List.setIfInBounds_toArray, List.set_cons_zero, List.set_cons_succ])
  refine wpAnyH_ready (rs := [8]) (by kernel_rfl) (by simp) ?_
  refine AllReadyH.cons ov8 (fun K hK => ?_) AllReadyH.nil
  rw [if_pos (by rfl)]
  refine wp_appB _ _ rfl bw H.out.le vA (A1 ++ [1]) rfl H.out.row (.slice (some ⟨gt, 0, none⟩) 2 2) (dig 2 n4) rfl TW.out (by have := HAL.out; (try have := HLN.out); (try have := HFK.out k); (try have := HXL.out); (try simp only [List.length_append]); (try simp only [List.length_cons]); (try simp only [List.length_nil]); (try simp only [dig_len]); omega) ?_
  intro vB z1 hA
  (try (have q9 := FZ.out.app hA; clear FZ; have FZ : Hid _ := q9; clear q9))
  have H9 : Hid (HY bw w z1 [.slice ta nt tc, .slice ca nc cc, .slice sa ns sc, .slice da nd dc, .int .i64 z] vB (A1 ++ [1] ++ dig 2 n4)) := H.out.step hA
  clear H TW hA
  have H := H9
  clear H9
  refine hK.out _ z1 H.out.c1 (fun _ => ?_)
  clear hK K
  (try simp only [Act.put, List.setIfInBounds_toArray, List.set_cons_zero, List.set_cons_succ])
  refine wpAnyH_take (i := 9) (v := vB) ov9 (by kernel_rfl) (by kernel_rfl) (by kernel_rfl) (fun _ _ _ h => h) (Or.inl ⟨by rfl, fun V' hS => ?_⟩) H.out.c1 ?_
  · go_simp
  simp only [Act.put, List.setIfInBounds_toArray, List.set_cons_zero, List.set_cons_succ]
  refine wpAnyH_done (by kernel_rfl) ?_ _
  clear HH
  obtain ⟨A2, hA2⟩ : ∃ q, q = A1 ++ [1] ++ dig 2 n4 := ⟨_, rfl⟩
  have EA2 : Hid (A2 = A1 ++ [1] ++ dig 2 n4) := hA2
  have H9 : Hid (HY bw w z1 [.slice ta nt tc, .slice ca nc cc, .slice sa ns sc, .slice da nd dc, .int .i64 z] vB (A2)) := by rw [hA2]; exact H.out
  have L9 : Hid (A2.length ≤ 200) := by have := HAL.out; unfold Hid; rw [hA2]; (try simp only [List.length_append]); (try simp only [List.length_cons]); (try simp only [List.length_nil]); (try simp only [dig_len]); omega
  clear H HAL hA2
  have H := H9
  have HAL := L9
  clear H9 L9
  go_upto_region 3 with fail
  refine wp_region_held_drew (S := fun V' => CBox V' bw 28 [.slice ta nt tc, .slice ca nc cc, .slice sa ns sc, .slice da nd dc, .int .i64 z]) (by kernel_rfl) (H.out.c1.past below_drew) (fun HH => ?_)
  have H9 : Hid (HY bw w z1.drew [.slice ta nt tc, .slice ca nc cc, .slice sa ns sc, .slice da nd dc, .int .i64 z] vB (A2)) := H.out.past below_drew
  clear H
  have H := H9
  clear H9
  generalize z1.drew = z1 at HH H ⊢
  refine wpAnyH_take (i := 0) (v := vB) ov0 (by kernel_rfl) (by kernel_rfl) (by kernel_rfl) (fun _ _ _ h => h) (Or.inl ⟨by rfl, fun V' hS => ?_⟩) HH ?_
  · go_simp
  simp only [Act.put, List.setIfInBounds_toArray, List.set_cons_zero, List.set_cons_succ]
  refine wpAnyH_take (i := 3) (v := .pointer (some ⟨bw, 1, none⟩)) ov3 (by kernel_rfl) (by kernel_rfl) (by kernel_rfl) (fun _ _ _ h => h) (Or.inl ⟨by rfl, fun V' hS => ?_⟩) HH ?_
  · go_simp
  simp only [Act.put, List.setIfInBounds_toArray, List.set_cons_zero, List.set_cons_succ]
  refine wpAnyH_take (i := 4) (v := .slice ca nc cc) ov4 (by kernel_rfl) (by kernel_rfl) (by kernel_rfl) (fun _ _ _ h => h) (Or.inl ⟨by rfl, fun V' hS => ?_⟩) HH ?_
  · have c0 := hS.cell 1
    go_simp
  simp only [Act.put, List.setIfInBounds_toArray, List.set_cons_zero, List.set_cons_succ]
  refine wpAnyH_take (i := 5) (v := .int .i64 (nc : Int)) ov5 (by kernel_rfl) (by kernel_rfl) (by kernel_rfl) (fun _ _ _ h => h) (Or.inl ⟨by rfl, fun V' hS => ?_⟩) HH ?_
  · go_simp
  simp only [Act.put, List.setIfInBounds_toArray, List.set_cons_zero, List.set_cons_succ]
  refine wpAnyH_ready (rs := [1]) (by kernel_rfl) (by simp) ?_
  refine AllReadyH.cons ov1 (fun K hK => ?_) AllReadyH.nil
  rw [if_pos (by rfl)]
  go_simp
  have hB : Below z1.heap.size z1 (z1.alloc (.cells #[.int .u8 2] 5)) := below_alloc _ _
  have L9 : BL (fun _ => True) (z1.alloc (.cells #[.int .u8 2] 5)) (.slice (some ⟨z1.heap.size, 0, none⟩) 1 1) [2] := (BL.new z1 [2] (by simp)).mono fun _ _ _ => trivial
  have H9 := H.out.past hB
  clear H
  have H : Hid _ := H9
  clear H9
  (try (have q9 := FZ.out.past hB; clear FZ; have FZ : Hid _ := q9; clear q9))
  (try (have q9 := TW.out; clear TW; have TW : Hid (BL (fun _ => True) (z1.alloc (.cells #[.int .u8 2] 5)) (.slice (some ⟨gt, 0, none⟩) 2 2) (dig 2 nc)) := q9.past hB; clear q9))
  have FB : Hid (BL (fun _ => True) (z1.alloc (.cells #[.int .u8 2] 5)) (.slice (some ⟨z1.heap.size, 0, none⟩) 1 1) [2]) := L9
  clear L9 hB
  refine hK.out _ (z1.alloc (.cells #[.int .u8 2] 5)) H.out.c1 (fun _ => ?_)
  clear hK K
  (try simp only [Act.put, List.setIfInBounds_toArray, List.set_cons_zero, List.set_cons_succ])
  generalize z1.heap.size = bb at FB ⊢
  (first | generalize (z1.alloc (.cells #[.int .u8 2] 5)) = z1 at H FB FZ TW ⊢ | generalize (z1.alloc (.cells #[.int .u8 2] 5)) = z1 at H FB FZ ⊢ | generalize (z1.alloc (.cells #[.int .u8 2] 5)) = z1 at H FB TW ⊢ | generalize (z1.alloc (.cells #[.int .u8 2] 5)) = z1 at H FZ TW ⊢ | generalize (z1.alloc (.cells #[.int .u8 2] 5)) = z1 at H FB ⊢ | generalize (z1.alloc (.cells #[.int .u8 2] 5)) = z1 at H FZ ⊢ | generalize (z1.alloc (.cells #[.int .u8 2] 5)) = z1 at H TW ⊢ | generalize (z1.alloc (.cells #[.int .u8 2] 5)) = z1 at H  ⊢)
  refine wpAnyH_ready (rs := [2]) (by kernel_rfl) (by simp) ?_
  refine AllReadyH.cons ov2 (fun K hK => ?_) AllReadyH.nil
  rw [if_pos (by rfl)]
  refine wp_appB _ _ rfl bw H.out.le vB (A2) rfl H.out.row (.slice (some ⟨bb, 0, none⟩) 1 1) [2] rfl FB.out (by have := HAL.out; (try have := HLN.out); (try have := HFK.out k); (try have := HXL.out); (try simp only [List.length_append]); (try simp only [List.length_cons]); (try simp only [List.length_nil]); (try simp only [dig_len]); omega) ?_
  intro vA z1 hA
  (try (have q9 := FZ.out.app hA; clear FZ; have FZ : Hid _ := q9; clear q9))
  have H9 : Hid (HY bw w z1 [.slice ta nt tc, .slice ca nc cc, .slice sa ns sc, .slice da nd dc, .int .i64 z] vA (A2 ++ [2])) := H.out.step hA
  clear H FB hA
  have H := H9
  clear H9
  refine hK.out _ z1 H.out.c1 (fun _ => ?_)
  clear hK K
  (try simp only [Act.put, List.setIfInBounds_toArray, List.set_cons_zero, List.set_cons_succ])
  refine wpAnyH_ready (rs := [6]) (by kernel_rfl) (by simp) ?_
  refine AllReadyH.cons ov6 (fun K hK => ?_) AllReadyH.nil
  rw [if_pos (by rfl)]
  go_simp
  refine (two_is _ (nc : Int) nc rfl (by have := HNB.out; omega)).mono ?_
  rintro e z1 ⟨⟨gt, rfl, hT⟩, hB⟩
  have H9 := H.out.past hB
  clear H
  have H : Hid _ := H9
  clear H9
  (try (have q9 := FB.out; clear FB; have FB : Hid (BL (fun _ => True) z1 (.slice (some ⟨bb, 0, none⟩) 1 1) [2]) := q9.past hB; clear q9))
  (try (have q9 := FZ.out.past hB; clear FZ; have FZ : Hid _ := q9; clear q9))
  have TW : Hid (BL (fun _ => True) z1 (.slice (some ⟨gt, 0, none⟩) 2 2) (dig 2 nc)) := hT
  clear hT hB
  (try go_wp2_with fail)
  refine hK.out _ _ H.out.c1 (fun _ => ?_)
  clear hK K
  (try simp only [Act.put, List.setIfInBounds_toArray, List.set_cons_zero, List.set_cons_succ])
  refine wpAnyH_ready (rs := [7]) (by kernel_rfl) (by simp) ?_
  refine AllReadyH.cons ov7 (fun K hK => ?_) AllReadyH.nil
  rw [if_pos (by rfl)]
  refine wp_appB _ _ rfl bw H.out.le vA (A2 ++ [2]) rfl H.out.row (.slice (some ⟨gt, 0, none⟩) 2 2) (dig 2 nc) rfl TW.out (by have := HAL.out; (try have := HLN.out); (try have := HFK.out k); (try have := HXL.out); (try simp only [List.length_append]); (try simp only [List.length_cons]); (try simp only [List.length_nil]); (try simp only [dig_len]); omega) ?_
  intro vB z1 hA
  (try (have q9 := FZ.out.app hA; clear FZ; have FZ : Hid _ := q9; clear q9))
  have H9 : Hid (HY bw w z1 [.slice ta nt tc, .slice ca nc cc, .slice sa ns sc, .slice da nd dc, .int .i64 z] vB (A2 ++ [2] ++ dig 2 nc)) := H.out.step hA
  clear H TW hA
  have H := H9
  clear H9
  refine hK.out _ z1 H.out.c1 (fun _ => ?_)
  clear hK K
  (try simp only [Act.put, List.setIfInBounds_toArray, List.set_cons_zero, List.set_cons_succ])
  refine wpAnyH_take (i := 8) (v := vB) ov8 (by kernel_rfl) (by kernel_rfl) (by kernel_rfl) (fun _ _ _ h => h) (Or.inl ⟨by rfl, fun V' hS => ?_⟩) H.out.c1 ?_
  · go_simp
  simp only [Act.put, List.setIfInBounds_toArray, List.set_cons_zero, List.set_cons_succ]
  refine wpAnyH_done (by kernel_rfl) ?_ _
  clear HH
  obtain ⟨A3, hA3⟩ : ∃ q, q = A2 ++ [2] ++ dig 2 nc := ⟨_, rfl⟩
  have EA3 : Hid (A3 = A2 ++ [2] ++ dig 2 nc) := hA3
  have H9 : Hid (HY bw w z1 [.slice ta nt tc, .slice ca nc cc, .slice sa ns sc, .slice da nd dc, .int .i64 z] vB (A3)) := by rw [hA3]; exact H.out
  have L9 : Hid (A3.length ≤ 300) := by have := HAL.out; unfold Hid; rw [hA3]; (try simp only [List.length_append]); (try simp only [List.length_cons]); (try simp only [List.length_nil]); (try simp only [dig_len]); omega
  clear H HAL hA3
  have H := H9
  have HAL := L9
  clear H9 L9
  have HFK : Hid (∀ k, (((lns c.cs).take k).flatMap (dig 2)).length ≤ 67108864) := fun k => by rw [flat_len, List.length_take, lns_len]; have := HSM.out; unfold Small at this; omega
  go_wp2
  go_loopw [3, 4] (fun s3 s4 wr => ∃ k : Nat, s4 = .int .i64 (k : Int) ∧ k ≤ nc ∧ HY bw w wr [.slice ta nt tc, .slice ca nc cc, .slice sa ns sc, .slice da nd dc, .int .i64 z] s3 (A3 ++ ((lns c.cs).take k).flatMap (dig 2))) (fun _ s4 _ => nc - (intOf s4).toNat)
  case atStart => exact ⟨0, rfl, by omega, by simpa using H.out⟩
  case round =>
    obtain ⟨k, rfl, hk, hA⟩ := hrel
    clear H
    have H : Hid (HY bw w wr [.slice ta nt tc, .slice ca nc cc, .slice sa ns sc, .slice da nd dc, .int .i64 z] u3 (A3 ++ ((lns c.cs).take k).flatMap (dig 2))) := hA
    clear hA
    have a1 : wr.cell? ⟨bw, 1, none⟩ = some (.slice ca nc cc) := H.out.c1.cell 1
    by_cases e : k = nc
    · have q1 : ¬ (k : Int) < (nc : Int) := by omega
      have H9 : Hid (HY bw w wr [.slice ta nt tc, .slice ca nc cc, .slice sa ns sc, .slice da nd dc, .int .i64 z] u3 (A3 ++ (lns c.cs).flatMap (dig 2))) := by have h9 := H.out; rw [e, List.take_of_length_le (by rw [lns_len]; have := HLN.out; omega)] at h9; exact h9
      clear H e hk
      have H := H9
      clear H9
      clear HFK
      obtain ⟨A4, hA4⟩ : ∃ q, q = A3 ++ (lns c.cs).flatMap (dig 2) := ⟨_, rfl⟩
      have EA4 : Hid (A4 = A3 ++ (lns c.cs).flatMap (dig 2)) := hA4
      have H9 : Hid (HY bw w wr [.slice ta nt tc, .slice ca nc cc, .slice sa ns sc, .slice da nd dc, .int .i64 z] u3 (A4)) := by rw [hA4]; exact H.out
      have L9 : Hid (A4.length ≤ 40000000) := by have := HAL.out; unfold Hid; rw [hA4]; rw [List.length_append, flat_len, lns_len]; have := HSM.out; unfold Small at this; omega
      clear H HAL hA4
      have H := H9
      have HAL := L9
      clear H9 L9
      have a2 : wr.cell? ⟨bw, 2, none⟩ = some (.slice sa ns sc) := H.out.c1.cell 2
      by_cases es : ns = 0
      · have q2 : ¬ (0 : Int) < (ns : Int) := by omega
        have HES : Hid (ns = 0) := es
        clear es
        go_upto_region 15 with fail
        clear q2 a1 a2 q1
        go_cut [3] (fun s3 wx => ∃ v7 : Value, s3 = v7 ∧ HY bw w wx [.slice ta nt tc, .slice ca nc cc, .slice sa ns sc, .slice da nd dc, .int .i64 z] v7 (A4 ++ [255] ++ dig 2 sz ++ [0]))
        case first =>
          refine wp_region_held_drew (S := fun V' => CBox V' bw 28 [.slice ta nt tc, .slice ca nc cc, .slice sa ns sc, .slice da nd dc, .int .i64 z]) (by kernel_rfl) (H.out.c1.past below_drew) (fun HH => ?_)
          have H9 : Hid (HY bw w wr.drew [.slice ta nt tc, .slice ca nc cc, .slice sa ns sc, .slice da nd dc, .int .i64 z] u3 (A4)) := H.out.past below_drew
          clear H
          have H := H9
          clear H9
          generalize wr.drew = z1 at HH H ⊢
          refine wpAnyH_take (i := 0) (v := u3) ov0 (by kernel_rfl) (by kernel_rfl) (by kernel_rfl) (fun _ _ _ h => h) (Or.inl ⟨by rfl, fun V' hS => ?_⟩) HH ?_
          · go_simp
          simp only [Act.put, List.setIfInBounds_toArray, List.set_cons_zero, List.set_cons_succ]
          refine wpAnyH_take (i := 3) (v := .pointer (some ⟨bw, 4, none⟩)) ov3 (by kernel_rfl) (by kernel_rfl) (by kernel_rfl) (fun _ _ _ h => h) (Or.inl ⟨by rfl, fun V' hS => ?_⟩) HH ?_
          · go_simp
          simp only [Act.put, List.setIfInBounds_toArray, List.set_cons_zero, List.set_cons_succ]
          refine wpAnyH_take (i := 4) (v := .int .i64 z) ov4 (by kernel_rfl) (by kernel_rfl) (by kernel_rfl) (fun _ _ _ h => h) (Or.inl ⟨by rfl, fun V' hS => ?_⟩) HH ?_
          · have c0 := hS.cell 4
            go_simp
          simp only [Act.put, List.setIfInBounds_toArray, List.set_cons_zero, List.set_cons_succ]
          refine wpAnyH_ready (rs := [1, 7]) (by kernel_rfl) (by simp) ?_
          refine AllReadyH.cons ov1 (fun K hK => ?_) (AllReadyH.cons ov7 (fun K hK => ?_) AllReadyH.nil)
          · rw [if_pos (by rfl)]
            go_simp
            have hB : Below z1.heap.size z1 (z1.alloc (.cells #[.int .u8 255] 5)) := below_alloc _ _
            have L9 : BL (fun _ => True) (z1.alloc (.cells #[.int .u8 255] 5)) (.slice (some ⟨z1.heap.size, 0, none⟩) 1 1) [255] := (BL.new z1 [255] (by simp)).mono fun _ _ _ => trivial
            have H9 := H.out.past hB
            clear H
            have H : Hid _ := H9
            clear H9
            (try (have q9 := FZ.out.past hB; clear FZ; have FZ : Hid _ := q9; clear q9))
            (try (have q9 := TW.out; clear TW; have TW : Hid (BL (fun _ => True) (z1.alloc (.cells #[.int .u8 255] 5)) (.slice (some ⟨gt, 0, none⟩) 2 2) (dig 2 sz)) := q9.past hB; clear q9))
            have FB : Hid (BL (fun _ => True) (z1.alloc (.cells #[.int .u8 255] 5)) (.slice (some ⟨z1.heap.size, 0, none⟩) 1 1) [255]) := L9
            clear L9 hB
            refine hK.out _ (z1.alloc (.cells #[.int .u8 255] 5)) H.out.c1 (fun _ => ?_)
            clear hK K
            (try simp only [Act.put, List.setIfInBounds_toArray, List.set_cons_zero, List.set_cons_succ])
            generalize z1.heap.size = bb at FB ⊢
            (first | generalize (z1.alloc (.cells #[.int .u8 255] 5)) = z1 at H FB FZ TW ⊢ | generalize (z1.alloc (.cells #[.int .u8 255] 5)) = z1 at H FB FZ ⊢ | generalize (z1.alloc (.cells #[.int .u8 255] 5)) = z1 at H FB TW ⊢ | generalize (z1.alloc (.cells #[.int .u8 255] 5)) = z1 at H FZ TW ⊢ | generalize (z1.alloc (.cells #[.int .u8 255] 5)) = z1 at H FB ⊢ | generalize (z1.alloc (.cells #[.int .u8 255] 5)) = z1 at H FZ ⊢ | generalize (z1.alloc (.cells #[.int .u8 255] 5)) = z1 at H TW ⊢ | generalize (z1.alloc (.cells #[.int .u8 255] 5)) = z1 at H  ⊢)
            refine wpAnyH_ready (rs := [2, 7]) (by kernel_rfl) (by simp) ?_
            refine AllReadyH.cons ov2 (fun K hK => ?_) (AllReadyH.cons ov7 (fun K hK => ?_) AllReadyH.nil)
            · rw [if_pos (by rfl)]
              refine wp_appB _ _ rfl bw H.out.le u3 (A4) rfl H.out.row (.slice (some ⟨bb, 0, none⟩) 1 1) [255] rfl FB.out (by have := HAL.out; (try have := HLN.out); (try have := HFK.out k); (try have := HXL.out); (try simp only [List.length_append]); (try simp only [List.length_cons]); (try simp only [List.length_nil]); (try simp only [dig_len]); omega) ?_
              intro vA z1 hA
              (try (have q9 := FZ.out.app hA; clear FZ; have FZ : Hid _ := q9; clear q9))
              have H9 : Hid (HY bw w z1 [.slice ta nt tc, .slice ca nc cc, .slice sa ns sc, .slice da nd dc, .int .i64 z] vA (A4 ++ [255])) := H.out.step hA
              clear H FB hA
              have H := H9
              clear H9
              refine hK.out _ z1 H.out.c1 (fun _ => ?_)
              clear hK K
              (try simp only [Act.put, List.setIfInBounds_toArray, List.set_cons_zero, List.set_cons_succ])
              refine wpAnyH_ready (rs := [5, 7]) (by kernel_rfl) (by simp) ?_
              refine AllReadyH.cons ov5 (fun K hK => ?_) (AllReadyH.cons ov7 (fun K hK => ?_) AllReadyH.nil)
              · rw [if_pos (by rfl)]
                go_simp
                refine (two_is _ z sz HSZ.out (by have := HNB.out; omega)).mono ?_
                rintro e z1 ⟨⟨gt, rfl, hT⟩, hB⟩
                have H9 := H.out.past hB
                clear H
                have H : Hid _ := H9
                clear H9
                (try (have q9 := FB.out; clear FB; have FB : Hid (BL (fun _ => True) z1 (.slice (some ⟨bb, 0, none⟩) 1 1) [255]) := q9.past hB; clear q9))
                (try (have q9 := FZ.out.past hB; clear FZ; have FZ : Hid _ := q9; clear q9))
                have TW : Hid (BL (fun _ => True) z1 (.slice (some ⟨gt, 0, none⟩) 2 2) (dig 2 sz)) := hT
                clear hT hB
                (try go_wp2_with fail)
                refine hK.out _ _ H.out.c1 (fun _ => ?_)
                clear hK K
                (try simp only [Act.put, List.setIfInBounds_toArray, List.set_cons_zero, List.set_cons_succ])
                refine wpAnyH_ready (rs := [6, 7]) (by kernel_rfl) (by simp) ?_
                refine AllReadyH.cons ov6 (fun K hK => ?_) (AllReadyH.cons ov7 (fun K hK => ?_) AllReadyH.nil)
                · rw [if_pos (by rfl)]
                  refine wp_appB _ _ rfl bw H.out.le vA (A4 ++ [255]) rfl H.out.row (.slice (some ⟨gt, 0, none⟩) 2 2) (dig 2 sz) rfl TW.out (by have := HAL.out; (try have := HLN.out); (try have := HFK.out k); (try have := HXL.out); (try simp only [List.length_append]); (try simp only [List.length_cons]); (try simp only [List.length_nil]); (try simp only [dig_len]); omega) ?_
                  intro vB z1 hA
                  (try (have q9 := FZ.out.app hA; clear FZ; have FZ : Hid _ := q9; clear q9))
                  have H9 : Hid (HY bw w z1 [.slice ta nt tc, .slice ca nc cc, .slice sa ns sc, .slice da nd dc, .int .i64 z] vB (A4 ++ [255] ++ dig 2 sz)) := H.out.step hA
                  clear H TW hA
                  have H := H9
                  clear H9
                  refine hK.out _ z1 H.out.c1 (fun _ => ?_)
                  clear hK K
                  (try simp only [Act.put, List.setIfInBounds_toArray, List.set_cons_zero, List.set_cons_succ])
                  refine wpAnyH_ready (rs := [7]) (by kernel_rfl) (by simp) ?_
                  refine AllReadyH.cons ov7 (fun K hK => ?_) AllReadyH.nil
                  rw [if_pos (by rfl)]
                  go_simp
                  have hB : Below z1.heap.size z1 (z1.alloc (.cells #[.int .u8 0] 5)) := below_alloc _ _
                  have L9 := LitAt.new H.out 0
                  have H9 := H.out.past hB
                  clear H
                  have H : Hid _ := H9
                  clear H9
                  (try (have q9 := FB.out; clear FB; have FB : Hid (BL (fun _ => True) (z1.alloc (.cells #[.int .u8 0] 5)) (.slice (some ⟨bb, 0, none⟩) 1 1) [255]) := q9.past hB; clear q9))
                  (try (have q9 := TW.out; clear TW; have TW : Hid (BL (fun _ => True) (z1.alloc (.cells #[.int .u8 0] 5)) (.slice (some ⟨gt, 0, none⟩) 2 2) (dig 2 sz)) := q9.past hB; clear q9))
                  have FZ : Hid _ := L9
                  clear L9 hB
                  refine hK.out _ (z1.alloc (.cells #[.int .u8 0] 5)) H.out.c1 (fun _ => ?_)
                  clear hK K
                  (try simp only [Act.put, List.setIfInBounds_toArray, List.set_cons_zero, List.set_cons_succ])
                  generalize z1.heap.size = bz at FZ ⊢
                  (first | generalize (z1.alloc (.cells #[.int .u8 0] 5)) = z1 at H FB FZ TW ⊢ | generalize (z1.alloc (.cells #[.int .u8 0] 5)) = z1 at H FB FZ ⊢ | generalize (z1.alloc (.cells #[.int .u8 0] 5)) = z1 at H FZ TW ⊢ | generalize (z1.alloc (.cells #[.int .u8 0] 5)) = z1 at H FZ ⊢ | generalize z1.alloc _ = z1 at H FB FZ TW ⊢ | generalize z1.alloc _ = z1 at H FB FZ ⊢ | generalize z1.alloc _ = z1 at H FZ TW ⊢ | generalize z1.alloc _ = z1 at H FZ ⊢)
                  refine wpAnyH_ready (rs := [8]) (by kernel_rfl) (by simp) ?_
                  refine AllReadyH.cons ov8 (fun K hK => ?_) AllReadyH.nil
                  rw [if_pos (by rfl)]
                  refine wp_appB _ _ rfl bw H.out.le vB (A4 ++ [255] ++ dig 2 sz) rfl H.out.row (.slice (some ⟨bz, 0, none⟩) 1 1) [0] rfl FZ.out.bl (by have := HAL.out; (try have := HLN.out); (try have := HFK.out k); (try have := HXL.out); (try simp only [List.length_append]); (try simp only [List.length_cons]); (try simp only [List.length_nil]); (try simp only [dig_len]); omega) ?_
                  intro vC z1 hA
                  have H9 : Hid (HY bw w z1 [.slice ta nt tc, .slice ca nc cc, .slice sa ns sc, .slice da nd dc, .int .i64 z] vC (A4 ++ [255] ++ dig 2 sz ++ [0])) := H.out.step hA
                  clear H FZ hA
                  have H := H9
                  clear H9
                  refine hK.out _ z1 H.out.c1 (fun _ => ?_)
                  clear hK K
                  (try simp only [Act.put, List.setIfInBounds_toArray, List.set_cons_zero, List.set_cons_succ])
                  refine wpAnyH_take (i := 9) (v := vC) ov9 (by kernel_rfl) (by kernel_rfl) (by kernel_rfl) (fun _ _ _ h => h) (Or.inl ⟨by rfl, fun V' hS => ?_⟩) H.out.c1 ?_
                  · go_simp
                  simp only [Act.put, List.setIfInBounds_toArray, List.set_cons_zero, List.set_cons_succ]
                  refine wpAnyH_done (by kernel_rfl) ?_ _
                  clear HH
                  go_wp2
                  go_meet
                  case rel => exact ⟨_, rfl, H.out⟩
                · rw [if_pos (by rfl)]
                  go_simp
                  have hB : Below z1.heap.size z1 (z1.alloc (.cells #[.int .u8 0] 5)) := below_alloc _ _
                  have L9 := LitAt.new H.out 0
                  have H9 := H.out.past hB
                  clear H
                  have H : Hid _ := H9
                  clear H9
                  (try (have q9 := FB.out; clear FB; have FB : Hid (BL (fun _ => True) (z1.alloc (.cells #[.int .u8 0] 5)) (.slice (some ⟨bb, 0, none⟩) 1 1) [255]) := q9.past hB; clear q9))
                  (try (have q9 := TW.out; clear TW; have TW : Hid (BL (fun _ => True) (z1.alloc (.cells #[.int .u8 0] 5)) (.slice (some ⟨gt, 0, none⟩) 2 2) (dig 2 sz)) := q9.past hB; clear q9))
                  have FZ : Hid _ := L9
                  clear L9 hB
                  refine hK.out _ (z1.alloc (.cells #[.int .u8 0] 5)) H.out.c1 (fun _ => ?_)
                  clear hK K
                  (try simp only [Act.put, List.setIfInBounds_toArray, List.set_cons_zero, List.set_cons_succ])
                  generalize z1.heap.size = bz at FZ ⊢
                  (first | generalize (z1.alloc (.cells #[.int .u8 0] 5)) = z1 at H FB FZ TW ⊢ | generalize (z1.alloc (.cells #[.int .u8 0] 5)) = z1 at H FB FZ ⊢ | generalize (z1.alloc (.cells #[.int .u8 0] 5)) = z1 at H FZ TW ⊢ | generalize (z1.alloc (.cells #[.int .u8 0] 5)) = z1 at H FZ ⊢ | generalize z1.alloc _ = z1 at H FB FZ TW ⊢ | generalize z1.alloc _ = z1 at H FB FZ ⊢ | generalize z1.alloc _ = z1 at H FZ TW ⊢ | generalize z1.alloc _ = z1 at H FZ ⊢)
                  refine wpAnyH_ready (rs := [6]) (by kernel_rfl) (by simp) ?_
                  refine AllReadyH.cons ov6 (fun K hK => ?_) AllReadyH.nil
                  rw [if_pos (by rfl)]
                  refine wp_appB _ _ rfl bw H.out.le vA (A4 ++ [255]) rfl H.out.row (.slice (some ⟨gt, 0, none⟩) 2 2) (dig 2 sz) rfl TW.out (by have := HAL.out; (try have := HLN.out); (try have := HFK.out k); (try have := HXL.out); (try simp only [List.length_append]); (try simp only [List.length_cons]); (try simp only [List.length_nil]); (try simp only [dig_len]); omega) ?_
                  intro vB z1 hA
                  (try (have q9 := FZ.out.app hA; clear FZ; have FZ : Hid _ := q9; clear q9))
                  have H9 : Hid (HY bw w z1 [.slice ta nt tc, .slice ca nc cc, .slice sa ns sc, .slice da nd dc, .int .i64 z] vB (A4 ++ [255] ++ dig 2 sz)) := H.out.step hA
                  clear H TW hA
                  have H := H9
                  clear H9
                  refine hK.out _ z1 H.out.c1 (fun _ => ?_)
                  clear hK K
                  (try simp only [Act.put, List.setIfInBounds_toArray, List.set_cons_zero, List.set_cons_succ])
                  refine wpAnyH_ready (rs := [8]) (by kernel_rfl) (by simp) ?_
                  refine AllReadyH.cons ov8 (fun K hK => ?_) AllReadyH.nil
                  rw [if_pos (by rfl)]
                  refine wp_appB _ _ rfl bw H.out.le vB (A4 ++ [255] ++ dig 2 sz) rfl H.out.row (.slice (some ⟨bz, 0, none⟩) 1 1) [0] rfl FZ.out.bl (by have := HAL.out; (try have := HLN.out); (try have := HFK.out k); (try have := HXL.out); (try simp only [List.length_append]); (try simp only [List.length_cons]); (try simp only [List.length_nil]); (try simp only [dig_len]); omega) ?_
                  intro vC z1 hA
                  have H9 : Hid (HY bw w z1 [.slice ta nt tc, .slice ca nc cc, .slice sa ns sc, .slice da nd dc, .int .i64 z] vC (A4 ++ [255] ++ dig 2 sz ++ [0])) := H.out.step hA
                  clear H FZ hA
                  have H := H9
                  clear H9
                  refine hK.out _ z1 H.out.c1 (fun _ => ?_)
                  clear hK K
                  (try simp only [Act.put, List.setIfInBounds_toArray, List.set_cons_zero, List.set_cons_succ])
                  refine wpAnyH_take (i := 9) (v := vC) ov9 (by kernel_rfl) (by kernel_rfl) (by kernel_rfl) (fun _ _ _ h => h) (Or.inl ⟨by rfl, fun V' hS => ?_⟩) H.out.c1 ?_
                  · go_simp
                  simp only [Act.put, List.setIfInBounds_toArray, List.set_cons_zero, List.set_cons_succ]
                  refine wpAnyH_done (by kernel_rfl) ?_ _
                  clear HH
                  go_wp2
                  go_meet
                  case rel => exact ⟨_, rfl, H.out⟩
              · rw [if_pos (by rfl)]
                go_simp
                have hB : Below z1.heap.size z1 (z1.alloc (.cells #[.int .u8 0] 5)) := below_alloc _ _
                have L9 := LitAt.new H.out 0
                have H9 := H.out.past hB
                clear H
                have H : Hid _ := H9
                clear H9
                (try (have q9 := FB.out; clear FB; have FB : Hid (BL (fun _ => True) (z1.alloc (.cells #[.int .u8 0] 5)) (.slice (some ⟨bb, 0, none⟩) 1 1) [255]) := q9.past hB; clear q9))
                (try (have q9 := TW.out; clear TW; have TW : Hid (BL (fun _ => True) (z1.alloc (.cells #[.int .u8 0] 5)) (.slice (some ⟨gt, 0, none⟩) 2 2) (dig 2 sz)) := q9.past hB; clear q9))
                have FZ : Hid _ := L9
                clear L9 hB
                refine hK.out _ (z1.alloc (.cells #[.int .u8 0] 5)) H.out.c1 (fun _ => ?_)
                clear hK K
                (try simp only [Act.put, List.setIfInBounds_toArray, List.set_cons_zero, List.set_cons_succ])
                generalize z1.heap.size = bz at FZ ⊢
                (first | generalize (z1.alloc (.cells #[.int .u8 0] 5)) = z1 at H FB FZ TW ⊢ | generalize (z1.alloc (.cells #[.int .u8 0] 5)) = z1 at H FB FZ ⊢ | generalize (z1.alloc (.cells #[.int .u8 0] 5)) = z1 at H FZ TW ⊢ | generalize (z1.alloc (.cells #[.int .u8 0] 5)) = z1 at H FZ ⊢ | generalize z1.alloc _ = z1 at H FB FZ TW ⊢ | generalize z1.alloc _ = z1 at H FB FZ ⊢ | generalize z1.alloc _ = z1 at H FZ TW ⊢ | generalize z1.alloc _ = z1 at H FZ ⊢)
                refine wpAnyH_ready (rs := [5]) (by kernel_rfl) (by simp) ?_
                refine AllReadyH.cons ov5 (fun K hK => ?_) AllReadyH.nil
                rw [if_pos (by rfl)]
                go_simp
                refine (two_is _ z sz HSZ.out (by have := HNB.out; omega)).mono ?_
                rintro e z1 ⟨⟨gt, rfl, hT⟩, hB⟩
                have H9 := H.out.past hB
                clear H
                have H : Hid _ := H9
                clear H9
                (try (have q9 := FB.out; clear FB; have FB : Hid (BL (fun _ => True) z1 (.slice (some ⟨bb, 0, none⟩) 1 1) [255]) := q9.past hB; clear q9))
                (try (have q9 := FZ.out.past hB; clear FZ; have FZ : Hid _ := q9; clear q9))
                have TW : Hid (BL (fun _ => True) z1 (.slice (some ⟨gt, 0, none⟩) 2 2) (dig 2 sz)) := hT
                clear hT hB
                (try go_wp2_with fail)
                refine hK.out _ _ H.out.c1 (fun _ => ?_)
                clear hK K
                (try simp only [Act.put, List.setIfInBounds_toArray, List.set_cons_zero, List.set_cons_succ])
                refine wpAnyH_ready (rs := [6]) (by kernel_rfl) (by simp) ?_
                refine AllReadyH.cons ov6 (fun K hK => ?_) AllReadyH.nil
                rw [if_pos (by rfl)]
                refine wp_appB _ _ rfl bw H.out.le vA (A4 ++ [255]) rfl H.out.row (.slice (some ⟨gt, 0, none⟩) 2 2) (dig 2 sz) rfl TW.out (by have := HAL.out; (try have := HLN.out); (try have := HFK.out k); (try have := HXL.out); (try simp only [List.length_append]); (try simp only [List.length_cons]); (try simp only [List.length_nil]); (try simp only [dig_len]); omega) ?_
                intro vB z1 hA
                (try (have q9 := FZ.out.app hA; clear FZ; have FZ : Hid _ := q9; clear q9))
                have H9 : Hid (HY bw w z1 [.slice ta nt tc, .slice ca nc cc, .slice sa ns sc, .slice da nd dc, .int .i64 z] vB (A4 ++ [255] ++ dig 2 sz)) := H.out.step hA
                clear H TW hA
                have H := H9
                clear H9
                refine hK.out _ z1 H.out.c1 (fun _ => ?_)
                clear hK K
                (try simp only [Act.put, List.setIfInBounds_toArray, List.set_cons_zero, List.set_cons_succ])
                refine wpAnyH_ready (rs := [8]) (by kernel_rfl) (by simp) ?_
                refine AllReadyH.cons ov8 (fun K hK => ?_) AllReadyH.nil
                rw [if_pos (by rfl)]
                refine wp_appB _ _ rfl bw H.out.le vB (A4 ++ [255] ++ dig 2 sz) rfl H.out.row (.slice (some ⟨bz, 0, none⟩) 1 1) [0] rfl FZ.out.bl (by have := HAL.out; (try have := HLN.out); (try have := HFK.out k); (try have := HXL.out); (try simp only [List.length_append]); (try simp only [List.length_cons]); (try simp only [List.length_nil]); (try simp only [dig_len]); omega) ?_
                intro vC z1 hA
                have H9 : Hid (HY bw w z1 [.slice ta nt tc, .slice ca nc cc, .slice sa ns sc, .slice da nd dc, .int .i64 z] vC (A4 ++ [255] ++ dig 2 sz ++ [0])) := H.out.step hA
                clear H FZ hA
                have H := H9
                clear H9
                refine hK.out _ z1 H.out.c1 (fun _ => ?_)
                clear hK K
                (try simp only [Act.put, List.setIfInBounds_toArray, List.set_cons_zero, List.set_cons_succ])
                refine wpAnyH_take (i := 9) (v := vC) ov9 (by kernel_rfl) (by kernel_rfl) (by kernel_rfl) (fun _ _ _ h => h) (Or.inl ⟨by rfl, fun V' hS => ?_⟩) H.out.c1 ?_
                · go_simp
                simp only [Act.put, List.setIfInBounds_toArray, List.set_cons_zero, List.set_cons_succ]
                refine wpAnyH_done (by kernel_rfl) ?_ _
                clear HH
                go_wp2
                go_meet
                case rel => exact ⟨_, rfl, H.out⟩
            · rw [if_pos (by rfl)]
              go_simp
              have hB : Below z1.heap.size z1 (z1.alloc (.cells #[.int .u8 0] 5)) := below_alloc _ _
              have L9 := LitAt.new H.out 0
              have H9 := H.out.past hB
              clear H
              have H : Hid _ := H9
              clear H9
              (try (have q9 := FB.out; clear FB; have FB : Hid (BL (fun _ => True) (z1.alloc (.cells #[.int .u8 0] 5)) (.slice (some ⟨bb, 0, none⟩) 1 1) [255]) := q9.past hB; clear q9))
              (try (have q9 := TW.out; clear TW; have TW : Hid (BL (fun _ => True) (z1.alloc (.cells #[.int .u8 0] 5)) (.slice (some ⟨gt, 0, none⟩) 2 2) (dig 2 sz)) := q9.past hB; clear q9))
              have FZ : Hid _ := L9
              clear L9 hB
              refine hK.out _ (z1.alloc (.cells #[.int .u8 0] 5)) H.out.c1 (fun _ => ?_)
              clear hK K
              (try simp only [Act.put, List.setIfInBounds_toArray, List.set_cons_zero, List.set_cons_succ])
              generalize z1.heap.size = bz at FZ ⊢
              (first | generalize (z1.alloc (.cells #[.int .u8 0] 5)) = z1 at H FB FZ TW ⊢ | generalize (z1.alloc (.cells #[.int .u8 0] 5)) = z1 at H FB FZ ⊢ | generalize (z1.alloc (.cells #[.int .u8 0] 5)) = z1 at H FZ TW ⊢ | generalize (z1.alloc (.cells #[.int .u8 0] 5)) = z1 at H FZ ⊢ | generalize z1.alloc _ = z1 at H FB FZ TW ⊢ | generalize z1.alloc _ = z1 at H FB FZ ⊢ | generalize z1.alloc _ = z1 at H FZ TW ⊢ | generalize z1.alloc _ = z1 at H FZ ⊢)
              refine wpAnyH_ready (rs := [2]) (by kernel_rfl) (by simp) ?_
              refine AllReadyH.cons ov2 (fun K hK => ?_) AllReadyH.nil
              rw [if_pos (by rfl)]
              refine wp_appB _ _ rfl bw H.out.le u3 (A4) rfl H.out.row (.slice (some ⟨bb, 0, none⟩) 1 1) [255] rfl FB.out (by have := HAL.out; (try have := HLN.out); (try have := HFK.out k); (try have := HXL.out); (try simp only [List.length_append]); (try simp only [List.length_cons]); (try simp only [List.length_nil]); (try simp only [dig_len]); omega) ?_
              intro vA z1 hA
              (try (have q9 := FZ.out.app hA; clear FZ; have FZ : Hid _ := q9; clear q9))
              have H9 : Hid (HY bw w z1 [.slice ta nt tc, .slice ca nc cc, .slice sa ns sc, .slice da nd dc, .int .i64 z] vA (A4 ++ [255])) := H.out.step hA
              clear H FB hA
              have H := H9
              clear H9
              refine hK.out _ z1 H.out.c1 (fun _ => ?_)
              clear hK K
              (try simp only [Act.put, List.setIfInBounds_toArray, List.set_cons_zero, List.set_cons_succ])
              refine wpAnyH_ready (rs := [5]) (by kernel_rfl) (by simp) ?_
              refine AllReadyH.cons ov5 (fun K hK => ?_) AllReadyH.nil
              rw [if_pos (by rfl)]
              go_simp
              refine (two_is _ z sz HSZ.out (by have := HNB.out; omega)).mono ?_
              rintro e z1 ⟨⟨gt, rfl, hT⟩, hB⟩
              have H9 := H.out.past hB
              clear H
              have H : Hid _ := H9
              clear H9
              (try (have q9 := FB.out; clear FB; have FB : Hid (BL (fun _ => True) z1 (.slice (some ⟨bb, 0, none⟩) 1 1) [255]) := q9.past hB; clear q9))
              (try (have q9 := FZ.out.past hB; clear FZ; have FZ : Hid _ := q9; clear q9))
              have TW : Hid (BL (fun _ => True) z1 (.slice (some ⟨gt, 0, none⟩) 2 2) (dig 2 sz)) := hT
              clear hT hB
              (try go_wp2_with fail)
              refine hK.out _ _ H.out.c1 (fun _ => ?_)
              clear hK K
              (try simp only [Act.put, List.setIfInBounds_toArray, List.set_cons_zero, List.set_cons_succ])
              refine wpAnyH_ready (rs := [6]) (by kernel_rfl) (by simp) ?_
              refine AllReadyH.cons ov6 (fun K hK => ?_) AllReadyH.nil
              rw [if_pos (by rfl)]
              refine wp_appB _ _ rfl bw H.out.le vA (A4 ++ [255]) rfl H.out.row (.slice (some ⟨gt, 0, none⟩) 2 2) (dig 2 sz) rfl TW.out (by have := HAL.out; (try have := HLN.out); (try have := HFK.out k); (try have := HXL.out); (try simp only [List.length_append]); (try simp only [List.length_cons]); (try simp only [List.length_nil]); (try simp only [dig_len]); omega) ?_
              intro vB z1 hA
              (try (have q9 := FZ.out.app hA; clear FZ; have FZ : Hid _ := q9; clear q9))
              have H9 : Hid (HY bw w z1 [.slice ta nt tc, .slice ca nc cc, .slice sa ns sc, .slice da nd dc, .int .i64 z] vB (A4 ++ [255] ++ dig 2 sz)) := H.out.step hA
              clear H TW hA
              have H := H9
              clear H9
              refine hK.out _ z1 H.out.c1 (fun _ => ?_)
              clear hK K
              (try simp only [Act.put, List.setIfInBounds_toArray, List.set_cons_zero, List.set_cons_succ])
              refine wpAnyH_ready (rs := [8]) (by kernel_rfl) (by simp) ?_
              refine AllReadyH.cons ov8 (fun K hK => ?_) AllReadyH.nil
              rw [if_pos (by rfl)]
              refine wp_appB _ _ rfl bw H.out.le vB (A4 ++ [255] ++ dig 2 sz) rfl H.out.row (.slice (some ⟨bz, 0, none⟩) 1 1) [0] rfl FZ.out.bl (by have := HAL.out; (try have := HLN.out); (try have := HFK.out k); (try have := HXL.out); (try simp only [List.length_append]); (try simp only [List.length_cons]); (try simp only [List.length_nil]); (try simp only [dig_len]); omega) ?_
              intro vC z1 hA
              have H9 : Hid (HY bw w z1 [.slice ta nt tc, .slice ca nc cc, .slice sa ns sc, .slice da nd dc, .int .i64 z] vC (A4 ++ [255] ++ dig 2 sz ++ [0])) := H.out.step hA
              clear H FZ hA
              have H := H9
              clear H9
              refine hK.out _ z1 H.out.c1 (fun _ => ?_)
              clear hK K
              (try simp only [Act.put, List.setIfInBounds_toArray, List.set_cons_zero, List.set_cons_succ])
              refine wpAnyH_take (i := 9) (v := vC) ov9 (by kernel_rfl) (by kernel_rfl) (by kernel_rfl) (fun _ _ _ h => h) (Or.inl ⟨by rfl, fun V' hS => ?_⟩) H.out.c1 ?_
              · go_simp
              simp only [Act.put, List.setIfInBounds_toArray, List.set_cons_zero, List.set_cons_succ]
              refine wpAnyH_done (by kernel_rfl) ?_ _
              clear HH
              go_wp2
              go_meet
              case rel => exact ⟨_, rfl, H.out⟩
          · rw [if_pos (by rfl)]
            go_simp
            have hB : Below z1.heap.size z1 (z1.alloc (.cells #[.int .u8 0] 5)) := below_alloc _ _
            have L9 := LitAt.new H.out 0
            have H9 := H.out.past hB
            clear H
            have H : Hid _ := H9
            clear H9
            (try (have q9 := FB.out; clear FB; have FB : Hid (BL (fun _ => True) (z1.alloc (.cells #[.int .u8 0] 5)) (.slice (some ⟨bb, 0, none⟩) 1 1) [255]) := q9.past hB; clear q9))
            (try (have q9 := TW.out; clear TW; have TW : Hid (BL (fun _ => True) (z1.alloc (.cells #[.int .u8 0] 5)) (.slice (some ⟨gt, 0, none⟩) 2 2) (dig 2 sz)) := q9.past hB; clear q9))
            have FZ : Hid _ := L9
            clear L9 hB
            refine hK.out _ (z1.alloc (.cells #[.int .u8 0] 5)) H.out.c1 (fun _ => ?_)
            clear hK K
            (try simp only [Act.put, List.setIfInBounds_toArray, List.set_cons_zero, List.set_cons_succ])
            generalize z1.heap.size = bz at FZ ⊢
            (first | generalize (z1.alloc (.cells #[.int .u8 0] 5)) = z1 at H FB FZ TW ⊢ | generalize (z1.alloc (.cells #[.int .u8 0] 5)) = z1 at H FB FZ ⊢ | generalize (z1.alloc (.cells #[.int .u8 0] 5)) = z1 at H FZ TW ⊢ | generalize (z1.alloc (.cells #[.int .u8 0] 5)) = z1 at H FZ ⊢ | generalize z1.alloc _ = z1 at H FB FZ TW ⊢ | generalize z1.alloc _ = z1 at H FB FZ ⊢ | generalize z1.alloc _ = z1 at H FZ TW ⊢ | generalize z1.alloc _ = z1 at H FZ ⊢)
            refine wpAnyH_ready (rs := [1]) (by kernel_rfl) (by simp) ?_
            refine AllReadyH.cons ov1 (fun K hK => ?_) AllReadyH.nil
            rw [if_pos (by rfl)]
            go_simp
            have hB : Below z1.heap.size z1 (z1.alloc (.cells #[.int .u8 255] 5)) := below_alloc _ _
            have L9 : BL (fun _ => True) (z1.alloc (.cells #[.int .u8 255] 5)) (.slice (some ⟨z1.heap.size, 0, none⟩) 1 1) [255] := (BL.new z1 [255] (by simp)).mono fun _ _ _ => trivial
            have H9 := H.out.past hB
            clear H
            have H : Hid _ := H9
            clear H9
            (try (have q9 := FZ.out.past hB; clear FZ; have FZ : Hid _ := q9; clear q9))
            (try (have q9 := TW.out; clear TW; have TW : Hid (BL (fun _ => True) (z1.alloc (.cells #[.int .u8 255] 5)) (.slice (some ⟨gt, 0, none⟩) 2 2) (dig 2 sz)) := q9.past hB; clear q9))
            have FB : Hid (BL (fun _ => True) (z1.alloc (.cells #[.int .u8 255] 5)) (.slice (some ⟨z1.heap.size, 0, none⟩) 1 1) [255]) := L9
            clear L9 hB
            refine hK.out _ (z1.alloc (.cells #[.int .u8 255] 5)) H.out.c1 (fun _ => ?_)
            clear hK K
            (try simp only [Act.put, List.setIfInBounds_toArray, List.set_cons_zero, List.set_cons_succ])
            generalize z1.heap.size = bb at FB ⊢
            (first | generalize (z1.alloc (.cells #[.int .u8 255] 5)) = z1 at H FB FZ TW ⊢ | generalize (z1.alloc (.cells #[.int .u8 255] 5)) = z1 at H FB FZ ⊢ | generalize (z1.alloc (.cells #[.int .u8 255] 5)) = z1 at H FB TW ⊢ | generalize (z1.alloc (.cells #[.int .u8 255] 5)) = z1 at H FZ TW ⊢ | generalize (z1.alloc (.cells #[.int .u8 255] 5)) = z1 at H FB ⊢ | generalize (z1.alloc (.cells #[.int .u8 255] 5)) = z1 at H FZ ⊢ | generalize (z1.alloc (.cells #[.int .u8 255] 5)) = z1 at H TW ⊢ | generalize (z1.alloc (.cells #[.int .u8 255] 5)) = z1 at H  ⊢)
            refine wpAnyH_ready (rs := [2]) (by kernel_rfl) (by simp) ?_
            refine AllReadyH.cons ov2 (fun K hK => ?_) AllReadyH.nil
            rw [if_pos (by rfl)]
            refine wp_appB _ _ rfl bw H.out.le u3 (A4) rfl H.out.row (.slice (some ⟨bb, 0, none⟩) 1 1) [255] rfl FB.out (by have := HAL.out; (try have := HLN.out); (try have := HFK.out k); (try have := HXL.out); (try simp only [List.length_append]); (try simp only [List.length_cons]); (try simp only [List.length_nil]); (try simp only [dig_len]); omega) ?_
            intro vA z1 hA
            (try (have q9 := FZ.out.app hA; clear FZ; have FZ : Hid _ := q9; clear q9))
            have H9 : Hid (HY bw w z1 [.slice ta nt tc, .slice ca nc cc, .slice sa ns sc, .slice da nd dc, .int .i64 z] vA (A4 ++ [255])) := H.out.step hA
            clear H FB hA
            have H := H9
            clear H9
            refine hK.out _ z1 H.out.c1 (fun _ => ?_)
            clear hK K
            (try simp only [Act.put, List.setIfInBounds_toArray, List.set_cons_zero, List.set_cons_succ])
            refine wpAnyH_ready (rs := [5]) (by kernel_rfl) (by simp) ?_
            refine AllReadyH.cons ov5 (fun K hK => ?_) AllReadyH.nil
            rw [if_pos (by rfl)]
            go_simp
            refine (two_is _ z sz HSZ.out (by have := HNB.out; omega)).mono ?_
            rintro e z1 ⟨⟨gt, rfl, hT⟩, hB⟩
            have H9 := H.out.past hB
            clear H
            have H : Hid _ := H9
            clear H9
            (try (have q9 := FB.out; clear FB; have FB : Hid (BL (fun _ => True) z1 (.slice (some ⟨bb, 0, none⟩) 1 1) [255]) := q9.past hB; clear q9))
            (try (have q9 := FZ.out.past hB; clear FZ; have FZ : Hid _ := q9; clear q9))
            have TW : Hid (BL (fun _ => True) z1 (.slice (some ⟨gt, 0, none⟩) 2 2) (dig 2 sz)) := hT
            clear hT hB
            (try go_wp2_with fail)
            refine hK.out _ _ H.out.c1 (fun _ => ?_)
            clear hK K
            (try simp only [Act.put, List.setIfInBounds_toArray, List.set_cons_zero, List.set_cons_succ])
            refine wpAnyH_ready (rs := [6]) (by kernel_rfl) (by simp) ?_
            refine AllReadyH.cons ov6 (fun K hK => ?_) AllReadyH.nil
            rw [if_pos (by rfl)]
            refine wp_appB _ _ rfl bw H.out.le vA (A4 ++ [255]) rfl H.out.row (.slice (some ⟨gt, 0, none⟩) 2 2) (dig 2 sz) rfl TW.out (by have := HAL.out; (try have := HLN.out); (try have := HFK.out k); (try have := HXL.out); (try simp only [List.length_append]); (try simp only [List.length_cons]); (try simp only [List.length_nil]); (try simp only [dig_len]); omega) ?_
            intro vB z1 hA
            (try (have q9 := FZ.out.app hA; clear FZ; have FZ : Hid _ := q9; clear q9))
            have H9 : Hid (HY bw w z1 [.slice ta nt tc, .slice ca nc cc, .slice sa ns sc, .slice da nd dc, .int .i64 z] vB (A4 ++ [255] ++ dig 2 sz)) := H.out.step hA
            clear H TW hA
            have H := H9
            clear H9
            refine hK.out _ z1 H.out.c1 (fun _ => ?_)
            clear hK K
            (try simp only [Act.put, List.setIfInBounds_toArray, List.set_cons_zero, List.set_cons_succ])
            refine wpAnyH_ready (rs := [8]) (by kernel_rfl) (by simp) ?_
            refine AllReadyH.cons ov8 (fun K hK => ?_) AllReadyH.nil
            rw [if_pos (by rfl)]
            refine wp_appB _ _ rfl bw H.out.le vB (A4 ++ [255] ++ dig 2 sz) rfl H.out.row (.slice (some ⟨bz, 0, none⟩) 1 1) [0] rfl FZ.out.bl (by have := HAL.out; (try have := HLN.out); (try have := HFK.out k); (try have := HXL.out); (try simp only [List.length_append]); (try simp only [List.length_cons]); (try simp only [List.length_nil]); (try simp only [dig_len]); omega) ?_
            intro vC z1 hA
            have H9 : Hid (HY bw w z1 [.slice ta nt tc, .slice ca nc cc, .slice sa ns sc, .slice da nd dc, .int .i64 z] vC (A4 ++ [255] ++ dig 2 sz ++ [0])) := H.out.step hA
            clear H FZ hA
            have H := H9
            clear H9
            refine hK.out _ z1 H.out.c1 (fun _ => ?_)
            clear hK K
            (try simp only [Act.put, List.setIfInBounds_toArray, List.set_cons_zero, List.set_cons_succ])
            refine wpAnyH_take (i := 9) (v := vC) ov9 (by kernel_rfl) (by kernel_rfl) (by kernel_rfl) (fun _ _ _ h => h) (Or.inl ⟨by rfl, fun V' hS => ?_⟩) H.out.c1 ?_
            · go_simp
            simp only [Act.put, List.setIfInBounds_toArray, List.set_cons_zero, List.set_cons_succ]
            refine wpAnyH_done (by kernel_rfl) ?_ _
            clear HH
            go_wp2
            go_meet
            case rel => exact ⟨_, rfl, H.out⟩
        case rest =>
          obtain ⟨v7, e7, hY⟩ := hcut
          have e8 := e7.symm
          clear e7
          subst e8
          clear H
          have H : Hid (HY bw w wc [.slice ta nt tc, .slice ca nc cc, .slice sa ns sc, .slice da nd dc, .int .i64 z] v7 (A4 ++ [255] ++ dig 2 sz ++ [0])) := hY
          clear hY
          obtain ⟨A7, hA7⟩ : ∃ q, q = A4 ++ [255] ++ dig 2 sz ++ [0] := ⟨_, rfl⟩
          have EA7 : Hid (A7 = A4 ++ [255] ++ dig 2 sz ++ [0]) := hA7
          have H9 : Hid (HY bw w wc [.slice ta nt tc, .slice ca nc cc, .slice sa ns sc, .slice da nd dc, .int .i64 z] v7 (A7)) := by rw [hA7]; exact H.out
          have L9 : Hid (A7.length ≤ 300000000) := by have := HAL.out; unfold Hid; rw [hA7]; (try simp only [List.length_append]); (try simp only [List.length_cons]); (try simp only [List.length_nil]); (try simp only [dig_len]); omega
          clear H HAL hA7
          have H := H9
          have HAL := L9
          clear H9 L9
          have HFK : Hid (∀ k, ((c.ts.take k).flatMap tyb).length ≤ 67108864) := fun k => by rw [tys_len, List.length_take]; have := HSM.out; unfold Small at this; omega
          go_wp2
          go_loopw [3, 7] (fun s3 s7 wr => ∃ k : Nat, s7 = .int .i64 (k : Int) ∧ k ≤ nt ∧ HY bw w wr [.slice ta nt tc, .slice ca nc cc, .slice sa ns sc, .slice da nd dc, .int .i64 z] s3 (A7 ++ (c.ts.take k).flatMap tyb)) (fun _ s7 _ => nt - (intOf s7).toNat)
          case atStart => exact ⟨0, rfl, by omega, by simpa using H.out⟩
          case round =>
            obtain ⟨k, rfl, hk, hA⟩ := hrel
            clear H
            have H : Hid (HY bw w wr [.slice ta nt tc, .slice ca nc cc, .slice sa ns sc, .slice da nd dc, .int .i64 z] u3 (A7 ++ (c.ts.take k).flatMap tyb)) := hA
            clear hA
            have a0 : wr.cell? ⟨bw, 0, none⟩ = some (.slice ta nt tc) := H.out.c1.cell 0
            by_cases e : k = nt
            · have q1 : ¬ (k : Int) < (nt : Int) := by omega
              have H9 : Hid (HY bw w wr [.slice ta nt tc, .slice ca nc cc, .slice sa ns sc, .slice da nd dc, .int .i64 z] u3 (A7 ++ c.ts.flatMap tyb)) := by have h9 := H.out; rw [e, List.take_of_length_le (by have := HLN.out; omega)] at h9; exact h9
              clear H e hk
              have H := H9
              clear H9
              clear HFK
              obtain ⟨A8, hA8⟩ : ∃ q, q = A7 ++ c.ts.flatMap tyb := ⟨_, rfl⟩
              have EA8 : Hid (A8 = A7 ++ c.ts.flatMap tyb) := hA8
              have H9 : Hid (HY bw w wr [.slice ta nt tc, .slice ca nc cc, .slice sa ns sc, .slice da nd dc, .int .i64 z] u3 (A8)) := by rw [hA8]; exact H.out
              have L9 : Hid (A8.length ≤ 400000000) := by have := HAL.out; unfold Hid; rw [hA8]; rw [List.length_append, tys_len]; have := HSM.out; unfold Small at this; omega
              clear H HAL hA8
              have H := H9
              have HAL := L9
              clear H9 L9
              have HFK : Hid (∀ k, ((c.cs.take k).flatten).length ≤ 16777216) := fun k => by have h1 := flatten_le c.cs k; have := HSM.out; unfold Small at this; omega
              go_wp2
              go_loopw [3, 8] (fun s3 s8 wr => ∃ k : Nat, s8 = .int .i64 (k : Int) ∧ k ≤ nc ∧ HY bw w wr [.slice ta nt tc, .slice ca nc cc, .slice sa ns sc, .slice da nd dc, .int .i64 z] s3 (A8 ++ (c.cs.take k).flatten)) (fun _ s8 _ => nc - (intOf s8).toNat)
              case atStart => exact ⟨0, rfl, by omega, by simpa using H.out⟩
              case round =>
                obtain ⟨k, rfl, hk, hA⟩ := hrel
                clear H
                have H : Hid (HY bw w wr [.slice ta nt tc, .slice ca nc cc, .slice sa ns sc, .slice da nd dc, .int .i64 z] u3 (A8 ++ (c.cs.take k).flatten)) := hA
                clear hA
                have a1 : wr.cell? ⟨bw, 1, none⟩ = some (.slice ca nc cc) := H.out.c1.cell 1
                by_cases e : k = nc
                · have q1 : ¬ (k : Int) < (nc : Int) := by omega
                  have H9 : Hid (HY bw w wr [.slice ta nt tc, .slice ca nc cc, .slice sa ns sc, .slice da nd dc, .int .i64 z] u3 (A8 ++ c.cs.flatten)) := by have h9 := H.out; rw [e, List.take_of_length_le (by have := HLN.out; omega)] at h9; exact h9
                  clear H e hk
                  have H := H9
                  clear H9
                  clear HFK
                  obtain ⟨A9, hA9⟩ : ∃ q, q = A8 ++ c.cs.flatten := ⟨_, rfl⟩
                  have EA9 : Hid (A9 = A8 ++ c.cs.flatten) := hA9
                  have H9 : Hid (HY bw w wr [.slice ta nt tc, .slice ca nc cc, .slice sa ns sc, .slice da nd dc, .int .i64 z] u3 (A9)) := by rw [hA9]; exact H.out
                  have L9 : Hid (A9.length ≤ 500000000) := by have := HAL.out; unfold Hid; rw [hA9]; rw [List.length_append]; have := HSM.out; unfold Small at this; omega
                  clear H HAL hA9
                  have H := H9
                  have HAL := L9
                  clear H9 L9
                  have HFK : Hid (∀ k, ((c.ss.take k).flatten).length ≤ 16777216) := fun k => by have h1 := flatten_le c.ss k; have := HSM.out; unfold Small at this; omega
                  go_wp2
                  go_loopw [3, 9] (fun s3 s9 wr => ∃ k : Nat, s9 = .int .i64 (k : Int) ∧ k ≤ ns ∧ HY bw w wr [.slice ta nt tc, .slice ca nc cc, .slice sa ns sc, .slice da nd dc, .int .i64 z] s3 (A9 ++ (c.ss.take k).flatten)) (fun _ s9 _ => ns - (intOf s9).toNat)
                  case atStart => exact ⟨0, rfl, by omega, by simpa using H.out⟩
                  case round =>
                    obtain ⟨k, rfl, hk, hA⟩ := hrel
                    clear H
                    have H : Hid (HY bw w wr [.slice ta nt tc, .slice ca nc cc, .slice sa ns sc, .slice da nd dc, .int .i64 z] u3 (A9 ++ (c.ss.take k).flatten)) := hA
                    clear hA
                    have a2 : wr.cell? ⟨bw, 2, none⟩ = some (.slice sa ns sc) := H.out.c1.cell 2
                    by_cases e : k = ns
                    · have q1 : ¬ (k : Int) < (ns : Int) := by omega
                      have H9 : Hid (HY bw w wr [.slice ta nt tc, .slice ca nc cc, .slice sa ns sc, .slice da nd dc, .int .i64 z] u3 (A9 ++ c.ss.flatten)) := by have h9 := H.out; rw [e, List.take_of_length_le (by have := HLN.out; omega)] at h9; exact h9
                      clear H e hk
                      have H := H9
                      clear H9
                      clear HFK
                      obtain ⟨A10, hA10⟩ : ∃ q, q = A9 ++ c.ss.flatten := ⟨_, rfl⟩
                      have EA10 : Hid (A10 = A9 ++ c.ss.flatten) := hA10
                      have H9 : Hid (HY bw w wr [.slice ta nt tc, .slice ca nc cc, .slice sa ns sc, .slice da nd dc, .int .i64 z] u3 (A10)) := by rw [hA10]; exact H.out
                      have L9 : Hid (A10.length ≤ 600000000) := by have := HAL.out; unfold Hid; rw [hA10]; rw [List.length_append]; have := HSM.out; unfold Small at this; omega
                      clear H HAL hA10
                      have H := H9
                      have HAL := L9
                      clear H9 L9
                      go_upto_region 28 with fail
                      refine wp_region_lit ?_
                      refine lst_val (v := u3) (by kernel_rfl) ?_ ?_
                      · go_simp
                      simp only [Act.put, List.setIfInBounds_toArray, List.set_cons_zero, List.set_cons_succ]
                      refine lst_val (v := .pointer (some ⟨bw, 3, none⟩)) (by kernel_rfl) ?_ ?_
                      · go_simp
                      simp only [Act.put, List.setIfInBounds_toArray, List.set_cons_zero, List.set_cons_succ]
                      refine lst_val (v := .slice da nd dc) (by kernel_rfl) ?_ ?_
                      · have c0 := H.out.c1.cell 3
                        go_simp
                      simp only [Act.put, List.setIfInBounds_toArray, List.set_cons_zero, List.set_cons_succ]
                      refine wpList_appB rfl _ _ rfl bw H.out.le u3 (A10) rfl H.out.row (.slice da nd dc) (c.d) rfl (HD.out _ H.out.bel) (by have := HAL.out; (try have := HLN.out); (try have := HFK.out k); (try have := HXL.out); (try simp only [List.length_append]); (try simp only [List.length_cons]); (try simp only [List.length_nil]); (try simp only [dig_len]); omega) ?_
                      intro v9 z9 hA
                      have H9 : Hid (HY bw w z9 [.slice ta nt tc, .slice ca nc cc, .slice sa ns sc, .slice da nd dc, .int .i64 z] v9 (A10 ++ c.d)) := H.out.step hA
                      clear H hA 
                      have H := H9
                      clear H9
                      simp only [Act.put, List.setIfInBounds_toArray, List.set_cons_zero, List.set_cons_succ]
                      refine lst_val (v := v9) (by kernel_rfl) ?_ ?_
                      · go_simp
                      simp only [Act.put, List.setIfInBounds_toArray, List.set_cons_zero, List.set_cons_succ]
                      refine wpList_nil ?_
                      go_wp2
                      go_ret
                      refine ⟨v9, rfl, ?_, by first | exact H.out.bel | (rw [GB.out]; exact H.out.bel)⟩
                      have h9 := H.out.row
                      rw [EA10.out, EA9.out, EA8.out, EA7.out, EA4.out, EA3.out, EA2.out, EA1.out] at h9; have e9 : ([239, 0, 1] ++ [1] ++ dig 2 n4 ++ [2] ++ dig 2 nc ++ (lns c.cs).flatMap (dig 2) ++ [255] ++ dig 2 sz ++ [0] ++ c.ts.flatMap tyb ++ c.cs.flatten ++ c.ss.flatten ++ c.d) = ser c := (by unfold ser hd; rw [HSZN.out]; rw [if_pos (show (lns c.ss).length = 0 from by rw [lns_len]; have := HLN.out; have := HES.out; omega)]; have hn4 := HN4.out.2.2.1; have hnc := HLN.out.2.1; have hns := HLN.out.2.2.1; subst hnc hns hn4; simp [List.append_assoc, lns_len]); rw [e9] at h9
                      (first | exact h9 | (rw [GB.out]; exact h9))
                    · have q1 : (k : Int) < (ns : Int) := by omega
                      have HK : Hid (k < ns) := by unfold Hid; omega
                      have HKN := HK.out
                      have HEN := HES.out
                      clear e hk
                      exact absurd HKN (by omega)
                · have q1 : (k : Int) < (nc : Int) := by omega
                  have HK : Hid (k < nc) := by unfold Hid; omega
                  obtain ⟨x, hx⟩ : ∃ x, c.cs[k]? = some x := ⟨c.cs[k]'(by have := HLN.out; omega), List.getElem?_eq_getElem _⟩
                  obtain ⟨g, a, u, eg, hcell, hb⟩ := (HC.out wr H.out.bel).get hx
                  subst eg
                  obtain ⟨xa, xc, rfl, _, _⟩ := hb.len
                  have PX : Hid (wr.cell? ⟨g, a + k, none⟩ = some (.slice xa x.length xc)) := hcell
                  have BX : Hid (BL (fun g => g < bw) wr (.slice xa x.length xc) x) := hb
                  have HX : Hid (c.cs[k]? = some x) := hx
                  have HXL : Hid (x.length ≤ 16777216) := by have h1 := (List.sublist_flatten_of_mem (List.mem_of_getElem? hx)).length_le; have h2 := HSM.out; unfold Small at h2; unfold Hid; omega
                  clear hx hcell hb
                  have kB : (k : Int) < 1152921504606846976 := by have := HLN.out; omega
                  clear e hk
                  go_upto_region 23 with fail
                  clear a1
                  refine wp_region_lit ?_
                  refine lst_val (v := u3) (by kernel_rfl) ?_ ?_
                  · go_simp
                  simp only [Act.put, List.setIfInBounds_toArray, List.set_cons_zero, List.set_cons_succ]
                  refine lst_val (v := .pointer (some ⟨bw, 1, none⟩)) (by kernel_rfl) ?_ ?_
                  · go_simp
                  simp only [Act.put, List.setIfInBounds_toArray, List.set_cons_zero, List.set_cons_succ]
                  refine lst_val (v := .slice (some ⟨g, a, none⟩) nc cc) (by kernel_rfl) ?_ ?_
                  · have c0 := H.out.c1.cell 1
                    go_simp
                  simp only [Act.put, List.setIfInBounds_toArray, List.set_cons_zero, List.set_cons_succ]
                  refine lst_val (v := .int .i64 (k : Int)) (by kernel_rfl) ?_ ?_
                  · go_simp
                  simp only [Act.put, List.setIfInBounds_toArray, List.set_cons_zero, List.set_cons_succ]
                  refine lst_val (v := .pointer (some ⟨g, a + k, none⟩)) (by kernel_rfl) ?_ ?_
                  · go_simp
                  simp only [Act.put, List.setIfInBounds_toArray, List.set_cons_zero, List.set_cons_succ]
                  refine lst_val (v := .slice xa x.length xc) (by kernel_rfl) ?_ ?_
                  · have c0 := PX.out
                    go_simp
                  simp only [Act.put, List.setIfInBounds_toArray, List.set_cons_zero, List.set_cons_succ]
                  refine wpList_appB rfl _ _ rfl bw H.out.le u3 (A8 ++ (c.cs.take k).flatten) rfl H.out.row (.slice xa x.length xc) (x) rfl BX.out (by have := HAL.out; (try have := HLN.out); (try have := HFK.out k); (try have := HXL.out); (try simp only [List.length_append]); (try simp only [List.length_cons]); (try simp only [List.length_nil]); (try simp only [dig_len]); omega) ?_
                  intro v3 z3 hA
                  have H9 : Hid (HY bw w z3 [.slice ta nt tc, .slice (some ⟨g, a, none⟩) nc cc, .slice sa ns sc, .slice da nd dc, .int .i64 z] v3 (A8 ++ (c.cs.take k).flatten ++ x)) := H.out.step hA
                  clear H hA 
                  have H := H9
                  clear H9
                  simp only [Act.put, List.setIfInBounds_toArray, List.set_cons_zero, List.set_cons_succ]
                  refine lst_val (v := v3) (by kernel_rfl) ?_ ?_
                  · go_simp
                  simp only [Act.put, List.setIfInBounds_toArray, List.set_cons_zero, List.set_cons_succ]
                  refine wpList_nil ?_
                  have HR : Hid (HY bw w z3 [.slice ta nt tc, .slice (some ⟨g, a, none⟩) nc cc, .slice sa ns sc, .slice da nd dc, .int .i64 z] v3 (A8 ++ (c.cs.take (k + 1)).flatten)) := by have h9 := H.out; rw [List.append_assoc, ← flatten_snoc HX.out] at h9; exact h9
                  clear H PX BX HX HXL
                  go_wp2
                  go_roundw
                  case rel => exact ⟨k + 1, by first | rfl | go_num, by have := HK.out; omega, HR.out⟩
                  case measure => simp [intOf]; omega
            · have q1 : (k : Int) < (nt : Int) := by omega
              have HK : Hid (k < nt) := by unfold Hid; omega
              obtain ⟨t, hx⟩ : ∃ t, c.ts[k]? = some t := ⟨c.ts[k]'(by have := HLN.out; omega), List.getElem?_eq_getElem _⟩
              obtain ⟨g, a, eg, _⟩ := (HT.out wr H.out.bel).get hx
              subst eg
              have PX : Hid (∀ W, Below bw w W → W.cell? ⟨g, a + k * 3, none⟩ = some (.int .i64 t.1) ∧ W.cell? ⟨g, a + k * 3 + 1, none⟩ = some (.int .i64 t.2.1) ∧ W.cell? ⟨g, a + k * 3 + 2, none⟩ = some (.int .i64 t.2.2)) := fun W hW => by
                obtain ⟨g', a', eg', h1, h2, h3⟩ := (HT.out W hW).get hx
                injection eg' with eg'
                injection eg' with e1 e2
                subst e1 e2
                exact ⟨h1, h2, h3⟩
              have HX : Hid (c.ts[k]? = some t) := hx
              have hn := chkT_num _ _ HMY.out.ty t (List.mem_of_getElem? hx)
              obtain ⟨p1, hp1⟩ : ∃ p, p = t.1.toNat % 256 := ⟨_, rfl⟩
              obtain ⟨p2, hp2⟩ : ∃ p, p = t.2.1.toNat % 256 := ⟨_, rfl⟩
              obtain ⟨p3, hp3⟩ : ∃ p, p = t.2.2.toNat := ⟨_, rfl⟩
              have HP : Hid (IntKind.u8.wrap t.1 = (p1 : Int) ∧ IntKind.u8.wrap t.2.1 = (p2 : Int) ∧ t.2.2 = (p3 : Int) ∧ tyb t = [p1, p2] ++ dig 2 p3) := ⟨by rw [IntKind.wrap_u8]; omega, by rw [IntKind.wrap_u8]; omega, by omega, by rw [tyb_is, hp1, hp2, hp3]⟩
              have HNB : Hid (p3 < 9223372036854775808) := by unfold Hid; omega
              clear hx hn hp1 hp2 hp3
              have kB : (k : Int) < 1152921504606846976 := by have := HLN.out; omega
              clear e hk
              go_upto_region 19 with fail
              clear a0
              refine wp_region_held_drew (S := fun V' => CBox V' bw 28 [.slice (some ⟨g, a, none⟩) nt tc, .slice ca nc cc, .slice sa ns sc, .slice da nd dc, .int .i64 z] ∧ Below bw w V') (by kernel_rfl) ⟨H.out.c1.past below_drew, H.out.bel.drew⟩ (fun HH => ?_)
              have H9 : Hid (HY bw w wr.drew [.slice (some ⟨g, a, none⟩) nt tc, .slice ca nc cc, .slice sa ns sc, .slice da nd dc, .int .i64 z] u3 (A7 ++ (c.ts.take k).flatMap tyb)) := H.out.past below_drew
              clear H
              have H := H9
              clear H9
              generalize wr.drew = z1 at HH H ⊢
              refine wpAnyH_take (i := 0) (v := u3) ov0 (by kernel_rfl) (by kernel_rfl) (by kernel_rfl) (fun _ _ _ h => h) (Or.inl ⟨by rfl, fun V' hS => ?_⟩) HH ?_
              · go_simp
              simp only [Act.put, List.setIfInBounds_toArray, List.set_cons_zero, List.set_cons_succ]
              refine wpAnyH_take (i := 1) (v := .pointer (some ⟨bw, 0, none⟩)) ov1 (by kernel_rfl) (by kernel_rfl) (by kernel_rfl) (fun _ _ _ h => h) (Or.inl ⟨by rfl, fun V' hS => ?_⟩) HH ?_
              · go_simp
              simp only [Act.put, List.setIfInBounds_toArray, List.set_cons_zero, List.set_cons_succ]
              refine wpAnyH_take (i := 2) (v := .slice (some ⟨g, a, none⟩) nt tc) ov2 (by kernel_rfl) (by kernel_rfl) (by kernel_rfl) (fun _ _ _ h => h) (Or.inl ⟨by rfl, fun V' hS => ?_⟩) HH ?_
              · have c0 := hS.1.cell 0
                go_simp
              simp only [Act.put, List.setIfInBounds_toArray, List.set_cons_zero, List.set_cons_succ]
              refine wpAnyH_take (i := 3) (v := .int .i64 (k : Int)) ov3 (by kernel_rfl) (by kernel_rfl) (by kernel_rfl) (fun _ _ _ h => h) (Or.inl ⟨by rfl, fun V' hS => ?_⟩) HH ?_
              · go_simp
              simp only [Act.put, List.setIfInBounds_toArray, List.set_cons_zero, List.set_cons_succ]
              refine wpAnyH_take (i := 4) (v := .pointer (some ⟨g, a + k * 3, none⟩)) ov4 (by kernel_rfl) (by kernel_rfl) (by kernel_rfl) (fun _ _ _ h => h) (Or.inl ⟨by rfl, fun V' hS => ?_⟩) HH ?_
              · go_simp
              simp only [Act.put, List.setIfInBounds_toArray, List.set_cons_zero, List.set_cons_succ]
              refine wpAnyH_take (i := 5) (v := .pointer (some ⟨g, a + k * 3, none⟩)) ov5 (by kernel_rfl) (by kernel_rfl) (by kernel_rfl) (fun _ _ _ h => h) (Or.inl ⟨by rfl, fun V' hS => ?_⟩) HH ?_
              · go_simp
              simp only [Act.put, List.setIfInBounds_toArray, List.set_cons_zero, List.set_cons_succ]
              refine wpAnyH_take (i := 6) (v := .int .i64 t.1) ov6 (by kernel_rfl) (by kernel_rfl) (by kernel_rfl) (fun _ _ _ h => h) (Or.inl ⟨by rfl, fun V' hS => ?_⟩) HH ?_
              · obtain ⟨c0, c1, c2⟩ := PX.out V' hS.2
                go_simp
              simp only [Act.put, List.setIfInBounds_toArray, List.set_cons_zero, List.set_cons_succ]
              refine wpAnyH_take (i := 7) (v := .int .u8 (p1 : Int)) ov7 (by kernel_rfl) (by kernel_rfl) (by kernel_rfl) (fun _ _ _ h => h) (Or.inl ⟨by rfl, fun V' hS => ?_⟩) HH ?_
              · have c0 := HP.out.1
                go_simp
              simp only [Act.put, List.setIfInBounds_toArray, List.set_cons_zero, List.set_cons_succ]
              refine wpAnyH_take (i := 8) (v := .pointer (some ⟨bw, 0, none⟩)) ov8 (by kernel_rfl) (by kernel_rfl) (by kernel_rfl) (fun _ _ _ h => h) (Or.inl ⟨by rfl, fun V' hS => ?_⟩) HH ?_
              · go_simp
              simp only [Act.put, List.setIfInBounds_toArray, List.set_cons_zero, List.set_cons_succ]
              refine wpAnyH_take (i := 9) (v := .slice (some ⟨g, a, none⟩) nt tc) ov9 (by kernel_rfl) (by kernel_rfl) (by kernel_rfl) (fun _ _ _ h => h) (Or.inl ⟨by rfl, fun V' hS => ?_⟩) HH ?_
              · have c0 := hS.1.cell 0
                go_simp
              simp only [Act.put, List.setIfInBounds_toArray, List.set_cons_zero, List.set_cons_succ]
              refine wpAnyH_take (i := 10) (v := .int .i64 (k : Int)) ov10 (by kernel_rfl) (by kernel_rfl) (by kernel_rfl) (fun _ _ _ h => h) (Or.inl ⟨by rfl, fun V' hS => ?_⟩) HH ?_
              · go_simp
              simp only [Act.put, List.setIfInBounds_toArray, List.set_cons_zero, List.set_cons_succ]
              refine wpAnyH_take (i := 11) (v := .pointer (some ⟨g, a + k * 3, none⟩)) ov11 (by kernel_rfl) (by kernel_rfl) (by kernel_rfl) (fun _ _ _ h => h) (Or.inl ⟨by rfl, fun V' hS => ?_⟩) HH ?_
              · go_simp
              simp only [Act.put, List.setIfInBounds_toArray, List.set_cons_zero, List.set_cons_succ]
              refine wpAnyH_take (i := 12) (v := .pointer (some ⟨g, a + k * 3 + 1, none⟩)) ov12 (by kernel_rfl) (by kernel_rfl) (by kernel_rfl) (fun _ _ _ h => h) (Or.inl ⟨by rfl, fun V' hS => ?_⟩) HH ?_
              · go_simp
              simp only [Act.put, List.setIfInBounds_toArray, List.set_cons_zero, List.set_cons_succ]
              refine wpAnyH_take (i := 13) (v := .int .i64 t.2.1) ov13 (by kernel_rfl) (by kernel_rfl) (by kernel_rfl) (fun _ _ _ h => h) (Or.inl ⟨by rfl, fun V' hS => ?_⟩) HH ?_
              · obtain ⟨c0, c1, c2⟩ := PX.out V' hS.2
                go_simp
              simp only [Act.put, List.setIfInBounds_toArray, List.set_cons_zero, List.set_cons_succ]
              refine wpAnyH_take (i := 14) (v := .int .u8 (p2 : Int)) ov14 (by kernel_rfl) (by kernel_rfl) (by kernel_rfl) (fun _ _ _ h => h) (Or.inl ⟨by rfl, fun V' hS => ?_⟩) HH ?_
              · have c0 := HP.out.2.1
                go_simp
              simp only [Act.put, List.setIfInBounds_toArray, List.set_cons_zero, List.set_cons_succ]
              refine wpAnyH_take (i := 17) (v := .pointer (some ⟨bw, 0, none⟩)) ov17 (by kernel_rfl) (by kernel_rfl) (by kernel_rfl) (fun _ _ _ h => h) (Or.inl ⟨by rfl, fun V' hS => ?_⟩) HH ?_
              · go_simp
              simp only [Act.put, List.setIfInBounds_toArray, List.set_cons_zero, List.set_cons_succ]
              refine wpAnyH_take (i := 18) (v := .slice (some ⟨g, a, none⟩) nt tc) ov18 (by kernel_rfl) (by kernel_rfl) (by kernel_rfl) (fun _ _ _ h => h) (Or.inl ⟨by rfl, fun V' hS => ?_⟩) HH ?_
              · have c0 := hS.1.cell 0
                go_simp
              simp only [Act.put, List.setIfInBounds_toArray, List.set_cons_zero, List.set_cons_succ]
              refine wpAnyH_take (i := 19) (v := .int .i64 (k : Int)) ov19 (by kernel_rfl) (by kernel_rfl) (by kernel_rfl) (fun _ _ _ h => h) (Or.inl ⟨by rfl, fun V' hS => ?_⟩) HH ?_
              · go_simp
              simp only [Act.put, List.setIfInBounds_toArray, List.set_cons_zero, List.set_cons_succ]
              refine wpAnyH_take (i := 20) (v := .pointer (some ⟨g, a + k * 3, none⟩)) ov20 (by kernel_rfl) (by kernel_rfl) (by kernel_rfl) (fun _ _ _ h => h) (Or.inl ⟨by rfl, fun V' hS => ?_⟩) HH ?_
              · go_simp
              simp only [Act.put, List.setIfInBounds_toArray, List.set_cons_zero, List.set_cons_succ]
              refine wpAnyH_take (i := 21) (v := .pointer (some ⟨g, a + k * 3 + 2, none⟩)) ov21 (by kernel_rfl) (by kernel_rfl) (by kernel_rfl) (fun _ _ _ h => h) (Or.inl ⟨by rfl, fun V' hS => ?_⟩) HH ?_
              · go_simp
              simp only [Act.put, List.setIfInBounds_toArray, List.set_cons_zero, List.set_cons_succ]
              refine wpAnyH_take (i := 22) (v := .int .i64 t.2.2) ov22 (by kernel_rfl) (by kernel_rfl) (by kernel_rfl) (fun _ _ _ h => h) (Or.inl ⟨by rfl, fun V' hS => ?_⟩) HH ?_
              · obtain ⟨c0, c1, c2⟩ := PX.out V' hS.2
                go_simp
              simp only [Act.put, List.setIfInBounds_toArray, List.set_cons_zero, List.set_cons_succ]
              refine wpAnyH_ready (rs := [15]) (by kernel_rfl) (by simp) ?_
              refine AllReadyH.cons ov15 (fun K hK => ?_) AllReadyH.nil
              rw [if_pos (by rfl)]
              go_simp
              have hB : Below z1.heap.size z1 (z1.alloc (.cells #[.int .u8 (p1 : Int), .int .u8 (p2 : Int)] 5)) := below_alloc _ _
              have L9 : BL (fun _ => True) (z1.alloc (.cells #[.int .u8 (p1 : Int), .int .u8 (p2 : Int)] 5)) (.slice (some ⟨z1.heap.size, 0, none⟩) 2 2) [p1, p2] := (BL.new z1 [p1, p2] (by simp)).mono fun _ _ _ => trivial
              have H9 := H.out.past hB
              clear H
              have H : Hid _ := H9
              clear H9
              (try (have q9 := FZ.out.past hB; clear FZ; have FZ : Hid _ := q9; clear q9))
              (try (have q9 := TW.out; clear TW; have TW : Hid (BL (fun _ => True) (z1.alloc (.cells #[.int .u8 (p1 : Int), .int .u8 (p2 : Int)] 5)) (.slice (some ⟨gt, 0, none⟩) 2 2) (dig 2 p3)) := q9.past hB; clear q9))
              have FB : Hid (BL (fun _ => True) (z1.alloc (.cells #[.int .u8 (p1 : Int), .int .u8 (p2 : Int)] 5)) (.slice (some ⟨z1.heap.size, 0, none⟩) 2 2) [p1, p2]) := L9
              clear L9 hB
              refine hK.out _ (z1.alloc (.cells #[.int .u8 (p1 : Int), .int .u8 (p2 : Int)] 5)) ⟨H.out.c1, H.out.bel⟩ (fun _ => ?_)
              clear hK K
              (try simp only [Act.put, List.setIfInBounds_toArray, List.set_cons_zero, List.set_cons_succ])
              generalize z1.heap.size = bb at FB ⊢
              (first | generalize (z1.alloc (.cells #[.int .u8 (p1 : Int), .int .u8 (p2 : Int)] 5)) = z1 at H FB FZ TW ⊢ | generalize (z1.alloc (.cells #[.int .u8 (p1 : Int), .int .u8 (p2 : Int)] 5)) = z1 at H FB FZ ⊢ | generalize (z1.alloc (.cells #[.int .u8 (p1 : Int), .int .u8 (p2 : Int)] 5)) = z1 at H FB TW ⊢ | generalize (z1.alloc (.cells #[.int .u8 (p1 : Int), .int .u8 (p2 : Int)] 5)) = z1 at H FZ TW ⊢ | generalize (z1.alloc (.cells #[.int .u8 (p1 : Int), .int .u8 (p2 : Int)] 5)) = z1 at H FB ⊢ | generalize (z1.alloc (.cells #[.int .u8 (p1 : Int), .int .u8 (p2 : Int)] 5)) = z1 at H FZ ⊢ | generalize (z1.alloc (.cells #[.int .u8 (p1 : Int), .int .u8 (p2 : Int)] 5)) = z1 at H TW ⊢ | generalize (z1.alloc (.cells #[.int .u8 (p1 : Int), .int .u8 (p2 : Int)] 5)) = z1 at H  ⊢)
              refine wpAnyH_ready (rs := [16]) (by kernel_rfl) (by simp) ?_
              refine AllReadyH.cons ov16 (fun K hK => ?_) AllReadyH.nil
              rw [if_pos (by rfl)]
              refine wp_appB _ _ rfl bw H.out.le u3 (A7 ++ (c.ts.take k).flatMap tyb) rfl H.out.row (.slice (some ⟨bb, 0, none⟩) 2 2) [p1, p2] rfl FB.out (by have := HAL.out; (try have := HLN.out); (try have := HFK.out k); (try have := HXL.out); (try simp only [List.length_append]); (try simp only [List.length_cons]); (try simp only [List.length_nil]); (try simp only [dig_len]); omega) ?_
              intro vA z1 hA
              (try (have q9 := FZ.out.app hA; clear FZ; have FZ : Hid _ := q9; clear q9))
              have H9 : Hid (HY bw w z1 [.slice (some ⟨g, a, none⟩) nt tc, .slice ca nc cc, .slice sa ns sc, .slice da nd dc, .int .i64 z] vA (A7 ++ (c.ts.take k).flatMap tyb ++ [p1, p2])) := H.out.step hA
              clear H FB hA
              have H := H9
              clear H9
              refine hK.out _ z1 ⟨H.out.c1, H.out.bel⟩ (fun _ => ?_)
              clear hK K
              (try simp only [Act.put, List.setIfInBounds_toArray, List.set_cons_zero, List.set_cons_succ])
              refine wpAnyH_ready (rs := [23]) (by kernel_rfl) (by simp) ?_
              refine AllReadyH.cons ov23 (fun K hK => ?_) AllReadyH.nil
              rw [if_pos (by rfl)]
              go_simp
              refine (two_is _ t.2.2 p3 HP.out.2.2.1 (by have := HNB.out; omega)).mono ?_
              rintro e z1 ⟨⟨gt, rfl, hT⟩, hB⟩
              have H9 := H.out.past hB
              clear H
              have H : Hid _ := H9
              clear H9
              (try (have q9 := FB.out; clear FB; have FB : Hid (BL (fun _ => True) z1 (.slice (some ⟨bb, 0, none⟩) 2 2) [p1, p2]) := q9.past hB; clear q9))
              (try (have q9 := FZ.out.past hB; clear FZ; have FZ : Hid _ := q9; clear q9))
              have TW : Hid (BL (fun _ => True) z1 (.slice (some ⟨gt, 0, none⟩) 2 2) (dig 2 p3)) := hT
              clear hT hB
              (try go_wp2_with fail)
              refine hK.out _ _ ⟨H.out.c1, H.out.bel⟩ (fun _ => ?_)
              clear hK K
              (try simp only [Act.put, List.setIfInBounds_toArray, List.set_cons_zero, List.set_cons_succ])
              refine wpAnyH_ready (rs := [24]) (by kernel_rfl) (by simp) ?_
              refine AllReadyH.cons ov24 (fun K hK => ?_) AllReadyH.nil
              rw [if_pos (by rfl)]
              refine wp_appB _ _ rfl bw H.out.le vA (A7 ++ (c.ts.take k).flatMap tyb ++ [p1, p2]) rfl H.out.row (.slice (some ⟨gt, 0, none⟩) 2 2) (dig 2 p3) rfl TW.out (by have := HAL.out; (try have := HLN.out); (try have := HFK.out k); (try have := HXL.out); (try simp only [List.length_append]); (try simp only [List.length_cons]); (try simp only [List.length_nil]); (try simp only [dig_len]); omega) ?_
              intro vB z1 hA
              (try (have q9 := FZ.out.app hA; clear FZ; have FZ : Hid _ := q9; clear q9))
              have H9 : Hid (HY bw w z1 [.slice (some ⟨g, a, none⟩) nt tc, .slice ca nc cc, .slice sa ns sc, .slice da nd dc, .int .i64 z] vB (A7 ++ (c.ts.take k).flatMap tyb ++ [p1, p2] ++ dig 2 p3)) := H.out.step hA
              clear H TW hA
              have H := H9
              clear H9
              refine hK.out _ z1 ⟨H.out.c1, H.out.bel⟩ (fun _ => ?_)
              clear hK K
              (try simp only [Act.put, List.setIfInBounds_toArray, List.set_cons_zero, List.set_cons_succ])
              refine wpAnyH_take (i := 25) (v := vB) ov25 (by kernel_rfl) (by kernel_rfl) (by kernel_rfl) (fun _ _ _ h => h) (Or.inl ⟨by rfl, fun V' hS => ?_⟩) ⟨H.out.c1, H.out.bel⟩ ?_
              · go_simp
              simp only [Act.put, List.setIfInBounds_toArray, List.set_cons_zero, List.set_cons_succ]
              refine wpAnyH_done (by kernel_rfl) ?_ _
              clear HH
              have HR : Hid (HY bw w z1 [.slice (some ⟨g, a, none⟩) nt tc, .slice ca nc cc, .slice sa ns sc, .slice da nd dc, .int .i64 z] vB (A7 ++ (c.ts.take (k + 1)).flatMap tyb)) := by have h9 := H.out; rw [List.append_assoc, List.append_assoc, ← HP.out.2.2.2, ← flat_snoc HX.out] at h9; exact h9
              clear H PX HX HNB HP
              go_wp2
              go_roundw
              case rel => exact ⟨k + 1, by first | rfl | go_num, by have := HK.out; omega, HR.out⟩
              case measure => simp [intOf]; omega
      · have q2 : (0 : Int) < (ns : Int) := by omega
        have HES : Hid (ns ≠ 0) := es
        go_upto_region 9 with fail
        clear q2 a1 a2 q1 es
        refine wp_region_held_drew (S := fun V' => CBox V' bw 28 [.slice ta nt tc, .slice ca nc cc, .slice sa ns sc, .slice da nd dc, .int .i64 z]) (by kernel_rfl) (H.out.c1.past below_drew) (fun HH => ?_)
        have H9 : Hid (HY bw w wr.drew [.slice ta nt tc, .slice ca nc cc, .slice sa ns sc, .slice da nd dc, .int .i64 z] u3 (A4)) := H.out.past below_drew
        clear H
        have H := H9
        clear H9
        generalize wr.drew = z1 at HH H ⊢
        refine wpAnyH_take (i := 0) (v := u3) ov0 (by kernel_rfl) (by kernel_rfl) (by kernel_rfl) (fun _ _ _ h => h) (Or.inl ⟨by rfl, fun V' hS => ?_⟩) HH ?_
        · go_simp
        simp only [Act.put, List.setIfInBounds_toArray, List.set_cons_zero, List.set_cons_succ]
        refine wpAnyH_take (i := 3) (v := .pointer (some ⟨bw, 2, none⟩)) ov3 (by kernel_rfl) (by kernel_rfl) (by kernel_rfl) (fun _ _ _ h => h) (Or.inl ⟨by rfl, fun V' hS => ?_⟩) HH ?_
        · go_simp
        simp only [Act.put, List.setIfInBounds_toArray, List.set_cons_zero, List.set_cons_succ]
        refine wpAnyH_take (i := 4) (v := .slice sa ns sc) ov4 (by kernel_rfl) (by kernel_rfl) (by kernel_rfl) (fun _ _ _ h => h) (Or.inl ⟨by rfl, fun V' hS => ?_⟩) HH ?_
        · have c0 := hS.cell 2
          go_simp
        simp only [Act.put, List.setIfInBounds_toArray, List.set_cons_zero, List.set_cons_succ]
        refine wpAnyH_take (i := 5) (v := .int .i64 (ns : Int)) ov5 (by kernel_rfl) (by kernel_rfl) (by kernel_rfl) (fun _ _ _ h => h) (Or.inl ⟨by rfl, fun V' hS => ?_⟩) HH ?_
        · go_simp
        simp only [Act.put, List.setIfInBounds_toArray, List.set_cons_zero, List.set_cons_succ]
        refine wpAnyH_ready (rs := [1]) (by kernel_rfl) (by simp) ?_
        refine AllReadyH.cons ov1 (fun K hK => ?_) AllReadyH.nil
        rw [if_pos (by rfl)]
        go_simp
        have hB : Below z1.heap.size z1 (z1.alloc (.cells #[.int .u8 3] 5)) := below_alloc _ _
        have L9 : BL (fun _ => True) (z1.alloc (.cells #[.int .u8 3] 5)) (.slice (some ⟨z1.heap.size, 0, none⟩) 1 1) [3] := (BL.new z1 [3] (by simp)).mono fun _ _ _ => trivial
        have H9 := H.out.past hB
        clear H
        have H : Hid _ := H9
        clear H9
        (try (have q9 := FZ.out.past hB; clear FZ; have FZ : Hid _ := q9; clear q9))
        (try (have q9 := TW.out; clear TW; have TW : Hid (BL (fun _ => True) (z1.alloc (.cells #[.int .u8 3] 5)) (.slice (some ⟨gt, 0, none⟩) 2 2) (dig 2 ns)) := q9.past hB; clear q9))
        have FB : Hid (BL (fun _ => True) (z1.alloc (.cells #[.int .u8 3] 5)) (.slice (some ⟨z1.heap.size, 0, none⟩) 1 1) [3]) := L9
        clear L9 hB
        refine hK.out _ (z1.alloc (.cells #[.int .u8 3] 5)) H.out.c1 (fun _ => ?_)
        clear hK K
        (try simp only [Act.put, List.setIfInBounds_toArray, List.set_cons_zero, List.set_cons_succ])
        generalize z1.heap.size = bb at FB ⊢
        (first | generalize (z1.alloc (.cells #[.int .u8 3] 5)) = z1 at H FB FZ TW ⊢ | generalize (z1.alloc (.cells #[.int .u8 3] 5)) = z1 at H FB FZ ⊢ | generalize (z1.alloc (.cells #[.int .u8 3] 5)) = z1 at H FB TW ⊢ | generalize (z1.alloc (.cells #[.int .u8 3] 5)) = z1 at H FZ TW ⊢ | generalize (z1.alloc (.cells #[.int .u8 3] 5)) = z1 at H FB ⊢ | generalize (z1.alloc (.cells #[.int .u8 3] 5)) = z1 at H FZ ⊢ | generalize (z1.alloc (.cells #[.int .u8 3] 5)) = z1 at H TW ⊢ | generalize (z1.alloc (.cells #[.int .u8 3] 5)) = z1 at H  ⊢)
        refine wpAnyH_ready (rs := [2]) (by kernel_rfl) (by simp) ?_
        refine AllReadyH.cons ov2 (fun K hK => ?_) AllReadyH.nil
        rw [if_pos (by rfl)]
        refine wp_appB _ _ rfl bw H.out.le u3 (A4) rfl H.out.row (.slice (some ⟨bb, 0, none⟩) 1 1) [3] rfl FB.out (by have := HAL.out; (try have := HLN.out); (try have := HFK.out k); (try have := HXL.out); (try simp only [List.length_append]); (try simp only [List.length_cons]); (try simp only [List.length_nil]); (try simp only [dig_len]); omega) ?_
        intro vA z1 hA
        (try (have q9 := FZ.out.app hA; clear FZ; have FZ : Hid _ := q9; clear q9))
        have H9 : Hid (HY bw w z1 [.slice ta nt tc, .slice ca nc cc, .slice sa ns sc, .slice da nd dc, .int .i64 z] vA (A4 ++ [3])) := H.out.step hA
        clear H FB hA
        have H := H9
        clear H9
        refine hK.out _ z1 H.out.c1 (fun _ => ?_)
        clear hK K
        (try simp only [Act.put, List.setIfInBounds_toArray, List.set_cons_zero, List.set_cons_succ])
        refine wpAnyH_ready (rs := [6]) (by kernel_rfl) (by simp) ?_
        refine AllReadyH.cons ov6 (fun K hK => ?_) AllReadyH.nil
        rw [if_pos (by rfl)]
        go_simp
        refine (two_is _ (ns : Int) ns rfl (by have := HNB.out; omega)).mono ?_
        rintro e z1 ⟨⟨gt, rfl, hT⟩, hB⟩
        have H9 := H.out.past hB
        clear H
        have H : Hid _ := H9
        clear H9
        (try (have q9 := FB.out; clear FB; have FB : Hid (BL (fun _ => True) z1 (.slice (some ⟨bb, 0, none⟩) 1 1) [3]) := q9.past hB; clear q9))
        (try (have q9 := FZ.out.past hB; clear FZ; have FZ : Hid _ := q9; clear q9))
        have TW : Hid (BL (fun _ => True) z1 (.slice (some ⟨gt, 0, none⟩) 2 2) (dig 2 ns)) := hT
        clear hT hB
        (try go_wp2_with fail)
        refine hK.out _ _ H.out.c1 (fun _ => ?_)
        clear hK K
        (try simp only [Act.put, List.setIfInBounds_toArray, List.set_cons_zero, List.set_cons_succ])
        refine wpAnyH_ready (rs := [7]) (by kernel_rfl) (by simp) ?_
        refine AllReadyH.cons ov7 (fun K hK => ?_) AllReadyH.nil
        rw [if_pos (by rfl)]
        refine wp_appB _ _ rfl bw H.out.le vA (A4 ++ [3]) rfl H.out.row (.slice (some ⟨gt, 0, none⟩) 2 2) (dig 2 ns) rfl TW.out (by have := HAL.out; (try have := HLN.out); (try have := HFK.out k); (try have := HXL.out); (try simp only [List.length_append]); (try simp only [List.length_cons]); (try simp only [List.length_nil]); (try simp only [dig_len]); omega) ?_
        intro vB z1 hA
        (try (have q9 := FZ.out.app hA; clear FZ; have FZ : Hid _ := q9; clear q9))
        have H9 : Hid (HY bw w z1 [.slice ta nt tc, .slice ca nc cc, .slice sa ns sc, .slice da nd dc, .int .i64 z] vB (A4 ++ [3] ++ dig 2 ns)) := H.out.step hA
        clear H TW hA
        have H := H9
        clear H9
        refine hK.out _ z1 H.out.c1 (fun _ => ?_)
        clear hK K
        (try simp only [Act.put, List.setIfInBounds_toArray, List.set_cons_zero, List.set_cons_succ])
        refine wpAnyH_take (i := 8) (v := vB) ov8 (by kernel_rfl) (by kernel_rfl) (by kernel_rfl) (fun _ _ _ h => h) (Or.inl ⟨by rfl, fun V' hS => ?_⟩) H.out.c1 ?_
        · go_simp
        simp only [Act.put, List.setIfInBounds_toArray, List.set_cons_zero, List.set_cons_succ]
        refine wpAnyH_done (by kernel_rfl) ?_ _
        clear HH
        obtain ⟨A5, hA5⟩ : ∃ q, q = A4 ++ [3] ++ dig 2 ns := ⟨_, rfl⟩
        have EA5 : Hid (A5 = A4 ++ [3] ++ dig 2 ns) := hA5
        have H9 : Hid (HY bw w z1 [.slice ta nt tc, .slice ca nc cc, .slice sa ns sc, .slice da nd dc, .int .i64 z] vB (A5)) := by rw [hA5]; exact H.out
        have L9 : Hid (A5.length ≤ 50000000) := by have := HAL.out; unfold Hid; rw [hA5]; (try simp only [List.length_append]); (try simp only [List.length_cons]); (try simp only [List.length_nil]); (try simp only [dig_len]); omega
        clear H HAL hA5
        have H := H9
        have HAL := L9
        clear H9 L9
        have HFK : Hid (∀ k, (((lns c.ss).take k).flatMap (dig 4)).length ≤ 67108864) := fun k => by rw [flat_len, List.length_take, lns_len]; have := HSM.out; unfold Small at this; omega
        go_wp2
        go_loopw [3, 5] (fun s3 s5 wr => ∃ k : Nat, s5 = .int .i64 (k : Int) ∧ k ≤ ns ∧ HY bw w wr [.slice ta nt tc, .slice ca nc cc, .slice sa ns sc, .slice da nd dc, .int .i64 z] s3 (A5 ++ ((lns c.ss).take k).flatMap (dig 4))) (fun _ s5 _ => ns - (intOf s5).toNat)
        case atStart => exact ⟨0, rfl, by omega, by simpa using H.out⟩
        case round =>
          obtain ⟨k, rfl, hk, hA⟩ := hrel
          clear H
          have H : Hid (HY bw w wr [.slice ta nt tc, .slice ca nc cc, .slice sa ns sc, .slice da nd dc, .int .i64 z] u3 (A5 ++ ((lns c.ss).take k).flatMap (dig 4))) := hA
          clear hA
          have a2 : wr.cell? ⟨bw, 2, none⟩ = some (.slice sa ns sc) := H.out.c1.cell 2
          by_cases e : k = ns
          · have q1 : ¬ (k : Int) < (ns : Int) := by omega
            have H9 : Hid (HY bw w wr [.slice ta nt tc, .slice ca nc cc, .slice sa ns sc, .slice da nd dc, .int .i64 z] u3 (A5 ++ (lns c.ss).flatMap (dig 4))) := by have h9 := H.out; rw [e, List.take_of_length_le (by rw [lns_len]; have := HLN.out; omega)] at h9; exact h9
            clear H e hk
            have H := H9
            clear H9
            clear HFK
            obtain ⟨A6, hA6⟩ : ∃ q, q = A5 ++ (lns c.ss).flatMap (dig 4) := ⟨_, rfl⟩
            have EA6 : Hid (A6 = A5 ++ (lns c.ss).flatMap (dig 4)) := hA6
            have H9 : Hid (HY bw w wr [.slice ta nt tc, .slice ca nc cc, .slice sa ns sc, .slice da nd dc, .int .i64 z] u3 (A6)) := by rw [hA6]; exact H.out
            have L9 : Hid (A6.length ≤ 200000000) := by have := HAL.out; unfold Hid; rw [hA6]; rw [List.length_append, flat_len, lns_len]; have := HSM.out; unfold Small at this; omega
            clear H HAL hA6
            have H := H9
            have HAL := L9
            clear H9 L9
            go_upto_region 15 with fail
            clear a2 q1
            go_cut [3] (fun s3 wx => ∃ v7 : Value, s3 = v7 ∧ HY bw w wx [.slice ta nt tc, .slice ca nc cc, .slice sa ns sc, .slice da nd dc, .int .i64 z] v7 (A6 ++ [255] ++ dig 2 sz ++ [0]))
            case first =>
              refine wp_region_held_drew (S := fun V' => CBox V' bw 28 [.slice ta nt tc, .slice ca nc cc, .slice sa ns sc, .slice da nd dc, .int .i64 z]) (by kernel_rfl) (H.out.c1.past below_drew) (fun HH => ?_)
              have H9 : Hid (HY bw w wr.drew [.slice ta nt tc, .slice ca nc cc, .slice sa ns sc, .slice da nd dc, .int .i64 z] u3 (A6)) := H.out.past below_drew
              clear H
              have H := H9
              clear H9
              generalize wr.drew = z1 at HH H ⊢
              refine wpAnyH_take (i := 0) (v := u3) ov0 (by kernel_rfl) (by kernel_rfl) (by kernel_rfl) (fun _ _ _ h => h) (Or.inl ⟨by rfl, fun V' hS => ?_⟩) HH ?_
              · go_simp
              simp only [Act.put, List.setIfInBounds_toArray, List.set_cons_zero, List.set_cons_succ]
              refine wpAnyH_take (i := 3) (v := .pointer (some ⟨bw, 4, none⟩)) ov3 (by kernel_rfl) (by kernel_rfl) (by kernel_rfl) (fun _ _ _ h => h) (Or.inl ⟨by rfl, fun V' hS => ?_⟩) HH ?_
              · go_simp
              simp only [Act.put, List.setIfInBounds_toArray, List.set_cons_zero, List.set_cons_succ]
              refine wpAnyH_take (i := 4) (v := .int .i64 z) ov4 (by kernel_rfl) (by kernel_rfl) (by kernel_rfl) (fun _ _ _ h => h) (Or.inl ⟨by rfl, fun V' hS => ?_⟩) HH ?_
              · have c0 := hS.cell 4
                go_simp
              simp only [Act.put, List.setIfInBounds_toArray, List.set_cons_zero, List.set_cons_succ]
              refine wpAnyH_ready (rs := [1, 7]) (by kernel_rfl) (by simp) ?_
              refine AllReadyH.cons ov1 (fun K hK => ?_) (AllReadyH.cons ov7 (fun K hK => ?_) AllReadyH.nil)
              · rw [if_pos (by rfl)]
                go_simp
                have hB : Below z1.heap.size z1 (z1.alloc (.cells #[.int .u8 255] 5)) := below_alloc _ _
                have L9 : BL (fun _ => True) (z1.alloc (.cells #[.int .u8 255] 5)) (.slice (some ⟨z1.heap.size, 0, none⟩) 1 1) [255] := (BL.new z1 [255] (by simp)).mono fun _ _ _ => trivial
                have H9 := H.out.past hB
                clear H
                have H : Hid _ := H9
                clear H9
                (try (have q9 := FZ.out.past hB; clear FZ; have FZ : Hid _ := q9; clear q9))
                (try (have q9 := TW.out; clear TW; have TW : Hid (BL (fun _ => True) (z1.alloc (.cells #[.int .u8 255] 5)) (.slice (some ⟨gt, 0, none⟩) 2 2) (dig 2 sz)) := q9.past hB; clear q9))
                have FB : Hid (BL (fun _ => True) (z1.alloc (.cells #[.int .u8 255] 5)) (.slice (some ⟨z1.heap.size, 0, none⟩) 1 1) [255]) := L9
                clear L9 hB
                refine hK.out _ (z1.alloc (.cells #[.int .u8 255] 5)) H.out.c1 (fun _ => ?_)
                clear hK K
                (try simp only [Act.put, List.setIfInBounds_toArray, List.set_cons_zero, List.set_cons_succ])
                generalize z1.heap.size = bb at FB ⊢
                (first | generalize (z1.alloc (.cells #[.int .u8 255] 5)) = z1 at H FB FZ TW ⊢ | generalize (z1.alloc (.cells #[.int .u8 255] 5)) = z1 at H FB FZ ⊢ | generalize (z1.alloc (.cells #[.int .u8 255] 5)) = z1 at H FB TW ⊢ | generalize (z1.alloc (.cells #[.int .u8 255] 5)) = z1 at H FZ TW ⊢ | generalize (z1.alloc (.cells #[.int .u8 255] 5)) = z1 at H FB ⊢ | generalize (z1.alloc (.cells #[.int .u8 255] 5)) = z1 at H FZ ⊢ | generalize (z1.alloc (.cells #[.int .u8 255] 5)) = z1 at H TW ⊢ | generalize (z1.alloc (.cells #[.int .u8 255] 5)) = z1 at H  ⊢)
                refine wpAnyH_ready (rs := [2, 7]) (by kernel_rfl) (by simp) ?_
                refine AllReadyH.cons ov2 (fun K hK => ?_) (AllReadyH.cons ov7 (fun K hK => ?_) AllReadyH.nil)
                · rw [if_pos (by rfl)]
                  refine wp_appB _ _ rfl bw H.out.le u3 (A6) rfl H.out.row (.slice (some ⟨bb, 0, none⟩) 1 1) [255] rfl FB.out (by have := HAL.out; (try have := HLN.out); (try have := HFK.out k); (try have := HXL.out); (try simp only [List.length_append]); (try simp only [List.length_cons]); (try simp only [List.length_nil]); (try simp only [dig_len]); omega) ?_
                  intro vA z1 hA
                  (try (have q9 := FZ.out.app hA; clear FZ; have FZ : Hid _ := q9; clear q9))
                  have H9 : Hid (HY bw w z1 [.slice ta nt tc, .slice ca nc cc, .slice sa ns sc, .slice da nd dc, .int .i64 z] vA (A6 ++ [255])) := H.out.step hA
                  clear H FB hA
                  have H := H9
                  clear H9
                  refine hK.out _ z1 H.out.c1 (fun _ => ?_)
                  clear hK K
                  (try simp only [Act.put, List.setIfInBounds_toArray, List.set_cons_zero, List.set_cons_succ])
                  refine wpAnyH_ready (rs := [5, 7]) (by kernel_rfl) (by simp) ?_
                  refine AllReadyH.cons ov5 (fun K hK => ?_) (AllReadyH.cons ov7 (fun K hK => ?_) AllReadyH.nil)
                  · rw [if_pos (by rfl)]
                    go_simp
                    refine (two_is _ z sz HSZ.out (by have := HNB.out; omega)).mono ?_
                    rintro e z1 ⟨⟨gt, rfl, hT⟩, hB⟩
                    have H9 := H.out.past hB
                    clear H
                    have H : Hid _ := H9
                    clear H9
                    (try (have q9 := FB.out; clear FB; have FB : Hid (BL (fun _ => True) z1 (.slice (some ⟨bb, 0, none⟩) 1 1) [255]) := q9.past hB; clear q9))
                    (try (have q9 := FZ.out.past hB; clear FZ; have FZ : Hid _ := q9; clear q9))
                    have TW : Hid (BL (fun _ => True) z1 (.slice (some ⟨gt, 0, none⟩) 2 2) (dig 2 sz)) := hT
                    clear hT hB
                    (try go_wp2_with fail)
                    refine hK.out _ _ H.out.c1 (fun _ => ?_)
                    clear hK K
                    (try simp only [Act.put, List.setIfInBounds_toArray, List.set_cons_zero, List.set_cons_succ])
                    refine wpAnyH_ready (rs := [6, 7]) (by kernel_rfl) (by simp) ?_
                    refine AllReadyH.cons ov6 (fun K hK => ?_) (AllReadyH.cons ov7 (fun K hK => ?_) AllReadyH.nil)
                    · rw [if_pos (by rfl)]
                      refine wp_appB _ _ rfl bw H.out.le vA (A6 ++ [255]) rfl H.out.row (.slice (some ⟨gt, 0, none⟩) 2 2) (dig 2 sz) rfl TW.out (by have := HAL.out; (try have := HLN.out); (try have := HFK.out k); (try have := HXL.out); (try simp only [List.length_append]); (try simp only [List.length_cons]); (try simp only [List.length_nil]); (try simp only [dig_len]); omega) ?_
                      intro vB z1 hA
                      (try (have q9 := FZ.out.app hA; clear FZ; have FZ : Hid _ := q9; clear q9))
                      have H9 : Hid (HY bw w z1 [.slice ta nt tc, .slice ca nc cc, .slice sa ns sc, .slice da nd dc, .int .i64 z] vB (A6 ++ [255] ++ dig 2 sz)) := H.out.step hA
                      clear H TW hA
                      have H := H9
                      clear H9
                      refine hK.out _ z1 H.out.c1 (fun _ => ?_)
                      clear hK K
                      (try simp only [Act.put, List.setIfInBounds_toArray, List.set_cons_zero, List.set_cons_succ])
                      refine wpAnyH_ready (rs := [7]) (by kernel_rfl) (by simp) ?_
                      refine AllReadyH.cons ov7 (fun K hK => ?_) AllReadyH.nil
                      rw [if_pos (by rfl)]
                      go_simp
                      have hB : Below z1.heap.size z1 (z1.alloc (.cells #[.int .u8 0] 5)) := below_alloc _ _
                      have L9 := LitAt.new H.out 0
                      have H9 := H.out.past hB
                      clear H
                      have H : Hid _ := H9
                      clear H9
                      (try (have q9 := FB.out; clear FB; have FB : Hid (BL (fun _ => True) (z1.alloc (.cells #[.int .u8 0] 5)) (.slice (some ⟨bb, 0, none⟩) 1 1) [255]) := q9.past hB; clear q9))
                      (try (have q9 := TW.out; clear TW; have TW : Hid (BL (fun _ => True) (z1.alloc (.cells #[.int .u8 0] 5)) (.slice (some ⟨gt, 0, none⟩) 2 2) (dig 2 sz)) := q9.past hB; clear q9))
                      have FZ : Hid _ := L9
                      clear L9 hB
                      refine hK.out _ (z1.alloc (.cells #[.int .u8 0] 5)) H.out.c1 (fun _ => ?_)
                      clear hK K
                      (try simp only [Act.put, List.setIfInBounds_toArray, List.set_cons_zero, List.set_cons_succ])
                      generalize z1.heap.size = bz at FZ ⊢
                      (first | generalize (z1.alloc (.cells #[.int .u8 0] 5)) = z1 at H FB FZ TW ⊢ | generalize (z1.alloc (.cells #[.int .u8 0] 5)) = z1 at H FB FZ ⊢ | generalize (z1.alloc (.cells #[.int .u8 0] 5)) = z1 at H FZ TW ⊢ | generalize (z1.alloc (.cells #[.int .u8 0] 5)) = z1 at H FZ ⊢ | generalize z1.alloc _ = z1 at H FB FZ TW ⊢ | generalize z1.alloc _ = z1 at H FB FZ ⊢ | generalize z1.alloc _ = z1 at H FZ TW ⊢ | generalize z1.alloc _ = z1 at H FZ ⊢)
                      refine wpAnyH_ready (rs := [8]) (by kernel_rfl) (by simp) ?_
                      refine AllReadyH.cons ov8 (fun K hK => ?_) AllReadyH.nil
                      rw [if_pos (by rfl)]
                      refine wp_appB _ _ rfl bw H.out.le vB (A6 ++ [255] ++ dig 2 sz) rfl H.out.row (.slice (some ⟨bz, 0, none⟩) 1 1) [0] rfl FZ.out.bl (by have := HAL.out; (try have := HLN.out); (try have := HFK.out k); (try have := HXL.out); (try simp only [List.length_append]); (try simp only [List.length_cons]); (try simp only [List.length_nil]); (try simp only [dig_len]); omega) ?_
                      intro vC z1 hA
                      have H9 : Hid (HY bw w z1 [.slice ta nt tc, .slice ca nc cc, .slice sa ns sc, .slice da nd dc, .int .i64 z] vC (A6 ++ [255] ++ dig 2 sz ++ [0])) := H.out.step hA
                      clear H FZ hA
                      have H := H9
                      clear H9
                      refine hK.out _ z1 H.out.c1 (fun _ => ?_)
                      clear hK K
                      (try simp only [Act.put, List.setIfInBounds_toArray, List.set_cons_zero, List.set_cons_succ])
                      refine wpAnyH_take (i := 9) (v := vC) ov9 (by kernel_rfl) (by kernel_rfl) (by kernel_rfl) (fun _ _ _ h => h) (Or.inl ⟨by rfl, fun V' hS => ?_⟩) H.out.c1 ?_
                      · go_simp
                      simp only [Act.put, List.setIfInBounds_toArray, List.set_cons_zero, List.set_cons_succ]
                      refine wpAnyH_done (by kernel_rfl) ?_ _
                      clear HH
                      go_wp2
                      go_meet
                      case rel => exact ⟨_, rfl, H.out⟩
                    · rw [if_pos (by rfl)]
                      go_simp
                      have hB : Below z1.heap.size z1 (z1.alloc (.cells #[.int .u8 0] 5)) := below_alloc _ _
                      have L9 := LitAt.new H.out 0
                      have H9 := H.out.past hB
                      clear H
                      have H : Hid _ := H9
                      clear H9
                      (try (have q9 := FB.out; clear FB; have FB : Hid (BL (fun _ => True) (z1.alloc (.cells #[.int .u8 0] 5)) (.slice (some ⟨bb, 0, none⟩) 1 1) [255]) := q9.past hB; clear q9))
                      (try (have q9 := TW.out; clear TW; have TW : Hid (BL (fun _ => True) (z1.alloc (.cells #[.int .u8 0] 5)) (.slice (some ⟨gt, 0, none⟩) 2 2) (dig 2 sz)) := q9.past hB; clear q9))
                      have FZ : Hid _ := L9
                      clear L9 hB
                      refine hK.out _ (z1.alloc (.cells #[.int .u8 0] 5)) H.out.c1 (fun _ => ?_)
                      clear hK K
                      (try simp only [Act.put, List.setIfInBounds_toArray, List.set_cons_zero, List.set_cons_succ])
                      generalize z1.heap.size = bz at FZ ⊢
                      (first | generalize (z1.alloc (.cells #[.int .u8 0] 5)) = z1 at H FB FZ TW ⊢ | generalize (z1.alloc (.cells #[.int .u8 0] 5)) = z1 at H FB FZ ⊢ | generalize (z1.alloc (.cells #[.int .u8 0] 5)) = z1 at H FZ TW ⊢ | generalize (z1.alloc (.cells #[.int .u8 0] 5)) = z1 at H FZ ⊢ | generalize z1.alloc _ = z1 at H FB FZ TW ⊢ | generalize z1.alloc _ = z1 at H FB FZ ⊢ | generalize z1.alloc _ = z1 at H FZ TW ⊢ | generalize z1.alloc _ = z1 at H FZ ⊢)
                      refine wpAnyH_ready (rs := [6]) (by kernel_rfl) (by simp) ?_
                      refine AllReadyH.cons ov6 (fun K hK => ?_) AllReadyH.nil
                      rw [if_pos (by rfl)]
                      refine wp_appB _ _ rfl bw H.out.le vA (A6 ++ [255]) rfl H.out.row (.slice (some ⟨gt, 0, none⟩) 2 2) (dig 2 sz) rfl TW.out (by have := HAL.out; (try have := HLN.out); (try have := HFK.out k); (try have := HXL.out); (try simp only [List.length_append]); (try simp only [List.length_cons]); (try simp only [List.length_nil]); (try simp only [dig_len]); omega) ?_
                      intro vB z1 hA
                      (try (have q9 := FZ.out.app hA; clear FZ; have FZ : Hid _ := q9; clear q9))
                      have H9 : Hid (HY bw w z1 [.slice ta nt tc, .slice ca nc cc, .slice sa ns sc, .slice da nd dc, .int .i64 z] vB (A6 ++ [255] ++ dig 2 sz)) := H.out.step hA
                      clear H TW hA
                      have H := H9
                      clear H9
                      refine hK.out _ z1 H.out.c1 (fun _ => ?_)
                      clear hK K
                      (try simp only [Act.put, List.setIfInBounds_toArray, List.set_cons_zero, List.set_cons_succ])
                      refine wpAnyH_ready (rs := [8]) (by kernel_rfl) (by simp) ?_
                      refine AllReadyH.cons ov8 (fun K hK => ?_) AllReadyH.nil
                      rw [if_pos (by rfl)]
                      refine wp_appB _ _ rfl bw H.out.le vB (A6 ++ [255] ++ dig 2 sz) rfl H.out.row (.slice (some ⟨bz, 0, none⟩) 1 1) [0] rfl FZ.out.bl (by have := HAL.out; (try have := HLN.out); (try have := HFK.out k); (try have := HXL.out); (try simp only [List.length_append]); (try simp only [List.length_cons]); (try simp only [List.length_nil]); (try simp only [dig_len]); omega) ?_
                      intro vC z1 hA
                      have H9 : Hid (HY bw w z1 [.slice ta nt tc, .slice ca nc cc, .slice sa ns sc, .slice da nd dc, .int .i64 z] vC (A6 ++ [255] ++ dig 2 sz ++ [0])) := H.out.step hA
                      clear H FZ hA
                      have H := H9
                      clear H9
                      refine hK.out _ z1 H.out.c1 (fun _ => ?_)
                      clear hK K
                      (try simp only [Act.put, List.setIfInBounds_toArray, List.set_cons_zero, List.set_cons_succ])
                      refine wpAnyH_take (i := 9) (v := vC) ov9 (by kernel_rfl) (by kernel_rfl) (by kernel_rfl) (fun _ _ _ h => h) (Or.inl ⟨by rfl, fun V' hS => ?_⟩) H.out.c1 ?_
                      · go_simp
                      simp only [Act.put, List.setIfInBounds_toArray, List.set_cons_zero, List.set_cons_succ]
                      refine wpAnyH_done (by kernel_rfl) ?_ _
                      clear HH
                      go_wp2
                      go_meet
                      case rel => exact ⟨_, rfl, H.out⟩
                  · rw [if_pos (by rfl)]
                    go_simp
                    have hB : Below z1.heap.size z1 (z1.alloc (.cells #[.int .u8 0] 5)) := below_alloc _ _
                    have L9 := LitAt.new H.out 0
                    have H9 := H.out.past hB
                    clear H
                    have H : Hid _ := H9
                    clear H9
                    (try (have q9 := FB.out; clear FB; have FB : Hid (BL (fun _ => True) (z1.alloc (.cells #[.int .u8 0] 5)) (.slice (some ⟨bb, 0, none⟩) 1 1) [255]) := q9.past hB; clear q9))
                    (try (have q9 := TW.out; clear TW; have TW : Hid (BL (fun _ => True) (z1.alloc (.cells #[.int .u8 0] 5)) (.slice (some ⟨gt, 0, none⟩) 2 2) (dig 2 sz)) := q9.past hB; clear q9))
                    have FZ : Hid _ := L9
                    clear L9 hB
                    refine hK.out _ (z1.alloc (.cells #[.int .u8 0] 5)) H.out.c1 (fun _ => ?_)
                    clear hK K
                    (try simp only [Act.put, List.setIfInBounds_toArray, List.set_cons_zero, List.set_cons_succ])
                    generalize z1.heap.size = bz at FZ ⊢
                    (first | generalize (z1.alloc (.cells #[.int .u8 0] 5)) = z1 at H FB FZ TW ⊢ | generalize (z1.alloc (.cells #[.int .u8 0] 5)) = z1 at H FB FZ ⊢ | generalize (z1.alloc (.cells #[.int .u8 0] 5)) = z1 at H FZ TW ⊢ | generalize (z1.alloc (.cells #[.int .u8 0] 5)) = z1 at H FZ ⊢ | generalize z1.alloc _ = z1 at H FB FZ TW ⊢ | generalize z1.alloc _ = z1 at H FB FZ ⊢ | generalize z1.alloc _ = z1 at H FZ TW ⊢ | generalize z1.alloc _ = z1 at H FZ ⊢)
                    refine wpAnyH_ready (rs := [5]) (by kernel_rfl) (by simp) ?_
                    refine AllReadyH.cons ov5 (fun K hK => ?_) AllReadyH.nil
                    rw [if_pos (by rfl)]
                    go_simp
                    refine (two_is _ z sz HSZ.out (by have := HNB.out; omega)).mono ?_
                    rintro e z1 ⟨⟨gt, rfl, hT⟩, hB⟩
                    have H9 := H.out.past hB
                    clear H
                    have H : Hid _ := H9
                    clear H9
                    (try (have q9 := FB.out; clear FB; have FB : Hid (BL (fun _ => True) z1 (.slice (some ⟨bb, 0, none⟩) 1 1) [255]) := q9.past hB; clear q9))
                    (try (have q9 := FZ.out.past hB; clear FZ; have FZ : Hid _ := q9; clear q9))
                    have TW : Hid (BL (fun _ => True) z1 (.slice (some ⟨gt, 0, none⟩) 2 2) (dig 2 sz)) := hT
                    clear hT hB
                    (try go_wp2_with fail)
                    refine hK.out _ _ H.out.c1 (fun _ => ?_)
                    clear hK K
                    (try simp only [Act.put, List.setIfInBounds_toArray, List.set_cons_zero, List.set_cons_succ])
                    refine wpAnyH_ready (rs := [6]) (by kernel_rfl) (by simp) ?_
                    refine AllReadyH.cons ov6 (fun K hK => ?_) AllReadyH.nil
                    rw [if_pos (by rfl)]
                    refine wp_appB _ _ rfl bw H.out.le vA (A6 ++ [255]) rfl H.out.row (.slice (some ⟨gt, 0, none⟩) 2 2) (dig 2 sz) rfl TW.out (by have := HAL.out; (try have := HLN.out); (try have := HFK.out k); (try have := HXL.out); (try simp only [List.length_append]); (try simp only [List.length_cons]); (try simp only [List.length_nil]); (try simp only [dig_len]); omega) ?_
                    intro vB z1 hA
                    (try (have q9 := FZ.out.app hA; clear FZ; have FZ : Hid _ := q9; clear q9))
                    have H9 : Hid (HY bw w z1 [.slice ta nt tc, .slice ca nc cc, .slice sa ns sc, .slice da nd dc, .int .i64 z] vB (A6 ++ [255] ++ dig 2 sz)) := H.out.step hA
                    clear H TW hA
                    have H := H9
                    clear H9
                    refine hK.out _ z1 H.out.c1 (fun _ => ?_)
                    clear hK K
                    (try simp only [Act.put, List.setIfInBounds_toArray, List.set_cons_zero, List.set_cons_succ])
                    refine wpAnyH_ready (rs := [8]) (by kernel_rfl) (by simp) ?_
                    refine AllReadyH.cons ov8 (fun K hK => ?_) AllReadyH.nil
                    rw [if_pos (by rfl)]
                    refine wp_appB _ _ rfl bw H.out.le vB (A6 ++ [255] ++ dig 2 sz) rfl H.out.row (.slice (some ⟨bz, 0, none⟩) 1 1) [0] rfl FZ.out.bl (by have := HAL.out; (try have := HLN.out); (try have := HFK.out k); (try have := HXL.out); (try simp only [List.length_append]); (try simp only [List.length_cons]); (try simp only [List.length_nil]); (try simp only [dig_len]); omega) ?_
                    intro vC z1 hA
                    have H9 : Hid (HY bw w z1 [.slice ta nt tc, .slice ca nc cc, .slice sa ns sc, .slice da nd dc, .int .i64 z] vC (A6 ++ [255] ++ dig 2 sz ++ [0])) := H.out.step hA
                    clear H FZ hA
                    have H := H9
                    clear H9
                    refine hK.out _ z1 H.out.c1 (fun _ => ?_)
                    clear hK K
                    (try simp only [Act.put, List.setIfInBounds_toArray, List.set_cons_zero, List.set_cons_succ])
                    refine wpAnyH_take (i := 9) (v := vC) ov9 (by kernel_rfl) (by kernel_rfl) (by kernel_rfl) (fun _ _ _ h => h) (Or.inl ⟨by rfl, fun V' hS => ?_⟩) H.out.c1 ?_
                    · go_simp
                    simp only [Act.put, List.setIfInBounds_toArray, List.set_cons_zero, List.set_cons_succ]
                    refine wpAnyH_done (by kernel_rfl) ?_ _
                    clear HH
                    go_wp2
                    go_meet
                    case rel => exact ⟨_, rfl, H.out⟩
                · rw [if_pos (by rfl)]
                  go_simp
                  have hB : Below z1.heap.size z1 (z1.alloc (.cells #[.int .u8 0] 5)) := below_alloc _ _
                  have L9 := LitAt.new H.out 0
                  have H9 := H.out.past hB
                  clear H
                  have H : Hid _ := H9
                  clear H9
                  (try (have q9 := FB.out; clear FB; have FB : Hid (BL (fun _ => True) (z1.alloc (.cells #[.int .u8 0] 5)) (.slice (some ⟨bb, 0, none⟩) 1 1) [255]) := q9.past hB; clear q9))
                  (try (have q9 := TW.out; clear TW; have TW : Hid (BL (fun _ => True) (z1.alloc (.cells #[.int .u8 0] 5)) (.slice (some ⟨gt, 0, none⟩) 2 2) (dig 2 sz)) := q9.past hB; clear q9))
                  have FZ : Hid _ := L9
                  clear L9 hB
                  refine hK.out _ (z1.alloc (.cells #[.int .u8 0] 5)) H.out.c1 (fun _ => ?_)
                  clear hK K
                  (try simp only [Act.put, List.setIfInBounds_toArray, List.set_cons_zero, List.set_cons_succ])
                  generalize z1.heap.size = bz at FZ ⊢
                  (first | generalize (z1.alloc (.cells #[.int .u8 0] 5)) = z1 at H FB FZ TW ⊢ | generalize (z1.alloc (.cells #[.int .u8 0] 5)) = z1 at H FB FZ ⊢ | generalize (z1.alloc (.cells #[.int .u8 0] 5)) = z1 at H FZ TW ⊢ | generalize (z1.alloc (.cells #[.int .u8 0] 5)) = z1 at H FZ ⊢ | generalize z1.alloc _ = z1 at H FB FZ TW ⊢ | generalize z1.alloc _ = z1 at H FB FZ ⊢ | generalize z1.alloc _ = z1 at H FZ TW ⊢ | generalize z1.alloc _ = z1 at H FZ ⊢)
                  refine wpAnyH_ready (rs := [2]) (by kernel_rfl) (by simp) ?_
                  refine AllReadyH.cons ov2 (fun K hK => ?_) AllReadyH.nil
                  rw [if_pos (by rfl)]
                  refine wp_appB _ _ rfl bw H.out.le u3 (A6) rfl H.out.row (.slice (some ⟨bb, 0, none⟩) 1 1) [255] rfl FB.out (by have := HAL.out; (try have := HLN.out); (try have := HFK.out k); (try have := HXL.out); (try simp only [List.length_append]); (try simp only [List.length_cons]); (try simp only [List.length_nil]); (try simp only [dig_len]); omega) ?_
                  intro vA z1 hA
                  (try (have q9 := FZ.out.app hA; clear FZ; have FZ : Hid _ := q9; clear q9))
                  have H9 : Hid (HY bw w z1 [.slice ta nt tc, .slice ca nc cc, .slice sa ns sc, .slice da nd dc, .int .i64 z] vA (A6 ++ [255])) := H.out.step hA
                  clear H FB hA
                  have H := H9
                  clear H9
                  refine hK.out _ z1 H.out.c1 (fun _ => ?_)
                  clear hK K
                  (try simp only [Act.put, List.setIfInBounds_toArray, List.set_cons_zero, List.set_cons_succ])
                  refine wpAnyH_ready (rs := [5]) (by kernel_rfl) (by simp) ?_
                  refine AllReadyH.cons ov5 (fun K hK => ?_) AllReadyH.nil
                  rw [if_pos (by rfl)]
                  go_simp
                  refine (two_is _ z sz HSZ.out (by have := HNB.out; omega)).mono ?_
                  rintro e z1 ⟨⟨gt, rfl, hT⟩, hB⟩
                  have H9 := H.out.past hB
                  clear H
                  have H : Hid _ := H9
                  clear H9
                  (try (have q9 := FB.out; clear FB; have FB : Hid (BL (fun _ => True) z1 (.slice (some ⟨bb, 0, none⟩) 1 1) [255]) := q9.past hB; clear q9))
                  (try (have q9 := FZ.out.past hB; clear FZ; have FZ : Hid _ := q9; clear q9))
                  have TW : Hid (BL (fun _ => True) z1 (.slice (some ⟨gt, 0, none⟩) 2 2) (dig 2 sz)) := hT
                  clear hT hB
                  (try go_wp2_with fail)
                  refine hK.out _ _ H.out.c1 (fun _ => ?_)
                  clear hK K
                  (try simp only [Act.put, List.setIfInBounds_toArray, List.set_cons_zero, List.set_cons_succ])
                  refine wpAnyH_ready (rs := [6]) (by kernel_rfl) (by simp) ?_
                  refine AllReadyH.cons ov6 (fun K hK => ?_) AllReadyH.nil
                  rw [if_pos (by rfl)]
                  refine wp_appB _ _ rfl bw H.out.le vA (A6 ++ [255]) rfl H.out.row (.slice (some ⟨gt, 0, none⟩) 2 2) (dig 2 sz) rfl TW.out (by have := HAL.out; (try have := HLN.out); (try have := HFK.out k); (try have := HXL.out); (try simp only [List.length_append]); (try simp only [List.length_cons]); (try simp only [List.length_nil]); (try simp only [dig_len]); omega) ?_
                  intro vB z1 hA
                  (try (have q9 := FZ.out.app hA; clear FZ; have FZ : Hid _ := q9; clear q9))
                  have H9 : Hid (HY bw w z1 [.slice ta nt tc, .slice ca nc cc, .slice sa ns sc, .slice da nd dc, .int .i64 z] vB (A6 ++ [255] ++ dig 2 sz)) := H.out.step hA
                  clear H TW hA
                  have H := H9
                  clear H9
                  refine hK.out _ z1 H.out.c1 (fun _ => ?_)
                  clear hK K
                  (try simp only [Act.put, List.setIfInBounds_toArray, List.set_cons_zero, List.set_cons_succ])
                  refine wpAnyH_ready (rs := [8]) (by kernel_rfl) (by simp) ?_
                  refine AllReadyH.cons ov8 (fun K hK => ?_) AllReadyH.nil
                  rw [if_pos (by rfl)]
                  refine wp_appB _ _ rfl bw H.out.le vB (A6 ++ [255] ++ dig 2 sz) rfl H.out.row (.slice (some ⟨bz, 0, none⟩) 1 1) [0] rfl FZ.out.bl (by have := HAL.out; (try have := HLN.out); (try have := HFK.out k); (try have := HXL.out); (try simp only [List.length_append]); (try simp only [List.length_cons]); (try simp only [List.length_nil]); (try simp only [dig_len]); omega) ?_
                  intro vC z1 hA
                  have H9 : Hid (HY bw w z1 [.slice ta nt tc, .slice ca nc cc, .slice sa ns sc, .slice da nd dc, .int .i64 z] vC (A6 ++ [255] ++ dig 2 sz ++ [0])) := H.out.step hA
                  clear H FZ hA
                  have H := H9
                  clear H9
                  refine hK.out _ z1 H.out.c1 (fun _ => ?_)
                  clear hK K
                  (try simp only [Act.put, List.setIfInBounds_toArray, List.set_cons_zero, List.set_cons_succ])
                  refine wpAnyH_take (i := 9) (v := vC) ov9 (by kernel_rfl) (by kernel_rfl) (by kernel_rfl) (fun _ _ _ h => h) (Or.inl ⟨by rfl, fun V' hS => ?_⟩) H.out.c1 ?_
                  · go_simp
                  simp only [Act.put, List.setIfInBounds_toArray, List.set_cons_zero, List.set_cons_succ]
                  refine wpAnyH_done (by kernel_rfl) ?_ _
                  clear HH
                  go_wp2
                  go_meet
                  case rel => exact ⟨_, rfl, H.out⟩
              · rw [if_pos (by rfl)]
                go_simp
                have hB : Below z1.heap.size z1 (z1.alloc (.cells #[.int .u8 0] 5)) := below_alloc _ _
                have L9 := LitAt.new H.out 0
                have H9 := H.out.past hB
                clear H
                have H : Hid _ := H9
                clear H9
                (try (have q9 := FB.out; clear FB; have FB : Hid (BL (fun _ => True) (z1.alloc (.cells #[.int .u8 0] 5)) (.slice (some ⟨bb, 0, none⟩) 1 1) [255]) := q9.past hB; clear q9))
                (try (have q9 := TW.out; clear TW; have TW : Hid (BL (fun _ => True) (z1.alloc (.cells #[.int .u8 0] 5)) (.slice (some ⟨gt, 0, none⟩) 2 2) (dig 2 sz)) := q9.past hB; clear q9))
                have FZ : Hid _ := L9
                clear L9 hB
                refine hK.out _ (z1.alloc (.cells #[.int .u8 0] 5)) H.out.c1 (fun _ => ?_)
                clear hK K
                (try simp only [Act.put, List.setIfInBounds_toArray, List.set_cons_zero, List.set_cons_succ])
                generalize z1.heap.size = bz at FZ ⊢
                (first | generalize (z1.alloc (.cells #[.int .u8 0] 5)) = z1 at H FB FZ TW ⊢ | generalize (z1.alloc (.cells #[.int .u8 0] 5)) = z1 at H FB FZ ⊢ | generalize (z1.alloc (.cells #[.int .u8 0] 5)) = z1 at H FZ TW ⊢ | generalize (z1.alloc (.cells #[.int .u8 0] 5)) = z1 at H FZ ⊢ | generalize z1.alloc _ = z1 at H FB FZ TW ⊢ | generalize z1.alloc _ = z1 at H FB FZ ⊢ | generalize z1.alloc _ = z1 at H FZ TW ⊢ | generalize z1.alloc _ = z1 at H FZ ⊢)
                refine wpAnyH_ready (rs := [1]) (by kernel_rfl) (by simp) ?_
                refine AllReadyH.cons ov1 (fun K hK => ?_) AllReadyH.nil
                rw [if_pos (by rfl)]
                go_simp
                have hB : Below z1.heap.size z1 (z1.alloc (.cells #[.int .u8 255] 5)) := below_alloc _ _
                have L9 : BL (fun _ => True) (z1.alloc (.cells #[.int .u8 255] 5)) (.slice (some ⟨z1.heap.size, 0, none⟩) 1 1) [255] := (BL.new z1 [255] (by simp)).mono fun _ _ _ => trivial
                have H9 := H.out.past hB
                clear H
                have H : Hid _ := H9
                clear H9
                (try (have q9 := FZ.out.past hB; clear FZ; have FZ : Hid _ := q9; clear q9))
                (try (have q9 := TW.out; clear TW; have TW : Hid (BL (fun _ => True) (z1.alloc (.cells #[.int .u8 255] 5)) (.slice (some ⟨gt, 0, none⟩) 2 2) (dig 2 sz)) := q9.past hB; clear q9))
                have FB : Hid (BL (fun _ => True) (z1.alloc (.cells #[.int .u8 255] 5)) (.slice (some ⟨z1.heap.size, 0, none⟩) 1 1) [255]) := L9
                clear L9 hB
                refine hK.out _ (z1.alloc (.cells #[.int .u8 255] 5)) H.out.c1 (fun _ => ?_)
                clear hK K
                (try simp only [Act.put, List.setIfInBounds_toArray, List.set_cons_zero, List.set_cons_succ])
                generalize z1.heap.size = bb at FB ⊢
                (first | generalize (z1.alloc (.cells #[.int .u8 255] 5)) = z1 at H FB FZ TW ⊢ | generalize (z1.alloc (.cells #[.int .u8 255] 5)) = z1 at H FB FZ ⊢ | generalize (z1.alloc (.cells #[.int .u8 255] 5)) = z1 at H FB TW ⊢ | generalize (z1.alloc (.cells #[.int .u8 255] 5)) = z1 at H FZ TW ⊢ | generalize (z1.alloc (.cells #[.int .u8 255] 5)) = z1 at H FB ⊢ | generalize (z1.alloc (.cells #[.int .u8 255] 5)) = z1 at H FZ ⊢ | generalize (z1.alloc (.cells #[.int .u8 255] 5)) = z1 at H TW ⊢ | generalize (z1.alloc (.cells #[.int .u8 255] 5)) = z1 at H  ⊢)
                refine wpAnyH_ready (rs := [2]) (by kernel_rfl) (by simp) ?_
                refine AllReadyH.cons ov2 (fun K hK => ?_) AllReadyH.nil
                rw [if_pos (by rfl)]
                refine wp_appB _ _ rfl bw H.out.le u3 (A6) rfl H.out.row (.slice (some ⟨bb, 0, none⟩) 1 1) [255] rfl FB.out (by have := HAL.out; (try have := HLN.out); (try have := HFK.out k); (try have := HXL.out); (try simp only [List.length_append]); (try simp only [List.length_cons]); (try simp only [List.length_nil]); (try simp only [dig_len]); omega) ?_
                intro vA z1 hA
                (try (have q9 := FZ.out.app hA; clear FZ; have FZ : Hid _ := q9; clear q9))
                have H9 : Hid (HY bw w z1 [.slice ta nt tc, .slice ca nc cc, .slice sa ns sc, .slice da nd dc, .int .i64 z] vA (A6 ++ [255])) := H.out.step hA
                clear H FB hA
                have H := H9
                clear H9
                refine hK.out _ z1 H.out.c1 (fun _ => ?_)
                clear hK K
                (try simp only [Act.put, List.setIfInBounds_toArray, List.set_cons_zero, List.set_cons_succ])
                refine wpAnyH_ready (rs := [5]) (by kernel_rfl) (by simp) ?_
                refine AllReadyH.cons ov5 (fun K hK => ?_) AllReadyH.nil
                rw [if_pos (by rfl)]
                go_simp
                refine (two_is _ z sz HSZ.out (by have := HNB.out; omega)).mono ?_
                rintro e z1 ⟨⟨gt, rfl, hT⟩, hB⟩
                have H9 := H.out.past hB
                clear H
                have H : Hid _ := H9
                clear H9
                (try (have q9 := FB.out; clear FB; have FB : Hid (BL (fun _ => True) z1 (.slice (some ⟨bb, 0, none⟩) 1 1) [255]) := q9.past hB; clear q9))
                (try (have q9 := FZ.out.past hB; clear FZ; have FZ : Hid _ := q9; clear q9))
                have TW : Hid (BL (fun _ => True) z1 (.slice (some ⟨gt, 0, none⟩) 2 2) (dig 2 sz)) := hT
                clear hT hB
                (try go_wp2_with fail)
                refine hK.out _ _ H.out.c1 (fun _ => ?_)
                clear hK K
                (try simp only [Act.put, List.setIfInBounds_toArray, List.set_cons_zero, List.set_cons_succ])
                refine wpAnyH_ready (rs := [6]) (by kernel_rfl) (by simp) ?_
                refine AllReadyH.cons ov6 (fun K hK => ?_) AllReadyH.nil
                rw [if_pos (by rfl)]
                refine wp_appB _ _ rfl bw H.out.le vA (A6 ++ [255]) rfl H.out.row (.slice (some ⟨gt, 0, none⟩) 2 2) (dig 2 sz) rfl TW.out (by have := HAL.out; (try have := HLN.out); (try have := HFK.out k); (try have := HXL.out); (try simp only [List.length_append]); (try simp only [List.length_cons]); (try simp only [List.length_nil]); (try simp only [dig_len]); omega) ?_
                intro vB z1 hA
                (try (have q9 := FZ.out.app hA; clear FZ; have FZ : Hid _ := q9; clear q9))
                have H9 : Hid (HY bw w z1 [.slice ta nt tc, .slice ca nc cc, .slice sa ns sc, .slice da nd dc, .int .i64 z] vB (A6 ++ [255] ++ dig 2 sz)) := H.out.step hA
                clear H TW hA
                have H := H9
                clear H9
                refine hK.out _ z1 H.out.c1 (fun _ => ?_)
                clear hK K
                (try simp only [Act.put, List.setIfInBounds_toArray, List.set_cons_zero, List.set_cons_succ])
                refine wpAnyH_ready (rs := [8]) (by kernel_rfl) (by simp) ?_
                refine AllReadyH.cons ov8 (fun K hK => ?_) AllReadyH.nil
                rw [if_pos (by rfl)]
                refine wp_appB _ _ rfl bw H.out.le vB (A6 ++ [255] ++ dig 2 sz) rfl H.out.row (.slice (some ⟨bz, 0, none⟩) 1 1) [0] rfl FZ.out.bl (by have := HAL.out; (try have := HLN.out); (try have := HFK.out k); (try have := HXL.out); (try simp only [List.length_append]); (try simp only [List.length_cons]); (try simp only [List.length_nil]); (try simp only [dig_len]); omega) ?_
                intro vC z1 hA
                have H9 : Hid (HY bw w z1 [.slice ta nt tc, .slice ca nc cc, .slice sa ns sc, .slice da nd dc, .int .i64 z] vC (A6 ++ [255] ++ dig 2 sz ++ [0])) := H.out.step hA
                clear H FZ hA
                have H := H9
                clear H9
                refine hK.out _ z1 H.out.c1 (fun _ => ?_)
                clear hK K
                (try simp only [Act.put, List.setIfInBounds_toArray, List.set_cons_zero, List.set_cons_succ])
                refine wpAnyH_take (i := 9) (v := vC) ov9 (by kernel_rfl) (by kernel_rfl) (by kernel_rfl) (fun _ _ _ h => h) (Or.inl ⟨by rfl, fun V' hS => ?_⟩) H.out.c1 ?_
                · go_simp
                simp only [Act.put, List.setIfInBounds_toArray, List.set_cons_zero, List.set_cons_succ]
                refine wpAnyH_done (by kernel_rfl) ?_ _
                clear HH
                go_wp2
                go_meet
                case rel => exact ⟨_, rfl, H.out⟩
            case rest =>
              obtain ⟨v7, e7, hY⟩ := hcut
              have e8 := e7.symm
              clear e7
              subst e8
              clear H
              have H : Hid (HY bw w wc [.slice ta nt tc, .slice ca nc cc, .slice sa ns sc, .slice da nd dc, .int .i64 z] v7 (A6 ++ [255] ++ dig 2 sz ++ [0])) := hY
              clear hY
              obtain ⟨A7, hA7⟩ : ∃ q, q = A6 ++ [255] ++ dig 2 sz ++ [0] := ⟨_, rfl⟩
              have EA7 : Hid (A7 = A6 ++ [255] ++ dig 2 sz ++ [0]) := hA7
              have H9 : Hid (HY bw w wc [.slice ta nt tc, .slice ca nc cc, .slice sa ns sc, .slice da nd dc, .int .i64 z] v7 (A7)) := by rw [hA7]; exact H.out
              have L9 : Hid (A7.length ≤ 300000000) := by have := HAL.out; unfold Hid; rw [hA7]; (try simp only [List.length_append]); (try simp only [List.length_cons]); (try simp only [List.length_nil]); (try simp only [dig_len]); omega
              clear H HAL hA7
              have H := H9
              have HAL := L9
              clear H9 L9
              have HFK : Hid (∀ k, ((c.ts.take k).flatMap tyb).length ≤ 67108864) := fun k => by rw [tys_len, List.length_take]; have := HSM.out; unfold Small at this; omega
              go_wp2
              go_loopw [3, 7] (fun s3 s7 wr => ∃ k : Nat, s7 = .int .i64 (k : Int) ∧ k ≤ nt ∧ HY bw w wr [.slice ta nt tc, .slice ca nc cc, .slice sa ns sc, .slice da nd dc, .int .i64 z] s3 (A7 ++ (c.ts.take k).flatMap tyb)) (fun _ s7 _ => nt - (intOf s7).toNat)
              case atStart => exact ⟨0, rfl, by omega, by simpa using H.out⟩
              case round =>
                obtain ⟨k, rfl, hk, hA⟩ := hrel
                clear H
                have H : Hid (HY bw w wr [.slice ta nt tc, .slice ca nc cc, .slice sa ns sc, .slice da nd dc, .int .i64 z] u3 (A7 ++ (c.ts.take k).flatMap tyb)) := hA
                clear hA
                have a0 : wr.cell? ⟨bw, 0, none⟩ = some (.slice ta nt tc) := H.out.c1.cell 0
                by_cases e : k = nt
                · have q1 : ¬ (k : Int) < (nt : Int) := by omega
                  have H9 : Hid (HY bw w wr [.slice ta nt tc, .slice ca nc cc, .slice sa ns sc, .slice da nd dc, .int .i64 z] u3 (A7 ++ c.ts.flatMap tyb)) := by have h9 := H.out; rw [e, List.take_of_length_le (by have := HLN.out; omega)] at h9; exact h9
                  clear H e hk
                  have H := H9
                  clear H9
                  clear HFK
                  obtain ⟨A8, hA8⟩ : ∃ q, q = A7 ++ c.ts.flatMap tyb := ⟨_, rfl⟩
                  have EA8 : Hid (A8 = A7 ++ c.ts.flatMap tyb) := hA8
                  have H9 : Hid (HY bw w wr [.slice ta nt tc, .slice ca nc cc, .slice sa ns sc, .slice da nd dc, .int .i64 z] u3 (A8)) := by rw [hA8]; exact H.out
                  have L9 : Hid (A8.length ≤ 400000000) := by have := HAL.out; unfold Hid; rw [hA8]; rw [List.length_append, tys_len]; have := HSM.out; unfold Small at this; omega
                  clear H HAL hA8
                  have H := H9
                  have HAL := L9
                  clear H9 L9
                  have HFK : Hid (∀ k, ((c.cs.take k).flatten).length ≤ 16777216) := fun k => by have h1 := flatten_le c.cs k; have := HSM.out; unfold Small at this; omega
                  go_wp2
                  go_loopw [3, 8] (fun s3 s8 wr => ∃ k : Nat, s8 = .int .i64 (k : Int) ∧ k ≤ nc ∧ HY bw w wr [.slice ta nt tc, .slice ca nc cc, .slice sa ns sc, .slice da nd dc, .int .i64 z] s3 (A8 ++ (c.cs.take k).flatten)) (fun _ s8 _ => nc - (intOf s8).toNat)
                  case atStart => exact ⟨0, rfl, by omega, by simpa using H.out⟩
                  case round =>
                    obtain ⟨k, rfl, hk, hA⟩ := hrel
                    clear H
                    have H : Hid (HY bw w wr [.slice ta nt tc, .slice ca nc cc, .slice sa ns sc, .slice da nd dc, .int .i64 z] u3 (A8 ++ (c.cs.take k).flatten)) := hA
                    clear hA
                    have a1 : wr.cell? ⟨bw, 1, none⟩ = some (.slice ca nc cc) := H.out.c1.cell 1
                    by_cases e : k = nc
                    · have q1 : ¬ (k : Int) < (nc : Int) := by omega
                      have H9 : Hid (HY bw w wr [.slice ta nt tc, .slice ca nc cc, .slice sa ns sc, .slice da nd dc, .int .i64 z] u3 (A8 ++ c.cs.flatten)) := by have h9 := H.out; rw [e, List.take_of_length_le (by have := HLN.out; omega)] at h9; exact h9
                      clear H e hk
                      have H := H9
                      clear H9
                      clear HFK
                      obtain ⟨A9, hA9⟩ : ∃ q, q = A8 ++ c.cs.flatten := ⟨_, rfl⟩
                      have EA9 : Hid (A9 = A8 ++ c.cs.flatten) := hA9
                      have H9 : Hid (HY bw w wr [.slice ta nt tc, .slice ca nc cc, .slice sa ns sc, .slice da nd dc, .int .i64 z] u3 (A9)) := by rw [hA9]; exact H.out
                      have L9 : Hid (A9.length ≤ 500000000) := by have := HAL.out; unfold Hid; rw [hA9]; rw [List.length_append]; have := HSM.out; unfold Small at this; omega
                      clear H HAL hA9
                      have H := H9
                      have HAL := L9
                      clear H9 L9
                      have HFK : Hid (∀ k, ((c.ss.take k).flatten).length ≤ 16777216) := fun k => by have h1 := flatten_le c.ss k; have := HSM.out; unfold Small at this; omega
                      go_wp2
                      go_loopw [3, 9] (fun s3 s9 wr => ∃ k : Nat, s9 = .int .i64 (k : Int) ∧ k ≤ ns ∧ HY bw w wr [.slice ta nt tc, .slice ca nc cc, .slice sa ns sc, .slice da nd dc, .int .i64 z] s3 (A9 ++ (c.ss.take k).flatten)) (fun _ s9 _ => ns - (intOf s9).toNat)
                      case atStart => exact ⟨0, rfl, by omega, by simpa using H.out⟩
                      case round =>
                        obtain ⟨k, rfl, hk, hA⟩ := hrel
                        clear H
                        have H : Hid (HY bw w wr [.slice ta nt tc, .slice ca nc cc, .slice sa ns sc, .slice da nd dc, .int .i64 z] u3 (A9 ++ (c.ss.take k).flatten)) := hA
                        clear hA
                        have a2 : wr.cell? ⟨bw, 2, none⟩ = some (.slice sa ns sc) := H.out.c1.cell 2
                        by_cases e : k = ns
                        · have q1 : ¬ (k : Int) < (ns : Int) := by omega
                          have H9 : Hid (HY bw w wr [.slice ta nt tc, .slice ca nc cc, .slice sa ns sc, .slice da nd dc, .int .i64 z] u3 (A9 ++ c.ss.flatten)) := by have h9 := H.out; rw [e, List.take_of_length_le (by have := HLN.out; omega)] at h9; exact h9
                          clear H e hk
                          have H := H9
                          clear H9
                          clear HFK
                          obtain ⟨A10, hA10⟩ : ∃ q, q = A9 ++ c.ss.flatten := ⟨_, rfl⟩
                          have EA10 : Hid (A10 = A9 ++ c.ss.flatten) := hA10
                          have H9 : Hid (HY bw w wr [.slice ta nt tc, .slice ca nc cc, .slice sa ns sc, .slice da nd dc, .int .i64 z] u3 (A10)) := by rw [hA10]; exact H.out
                          have L9 : Hid (A10.length ≤ 600000000) := by have := HAL.out; unfold Hid; rw [hA10]; rw [List.length_append]; have := HSM.out; unfold Small at this; omega
                          clear H HAL hA10
                          have H := H9
                          have HAL := L9
                          clear H9 L9
                          go_upto_region 28 with fail
                          refine wp_region_lit ?_
                          refine lst_val (v := u3) (by kernel_rfl) ?_ ?_
                          · go_simp
                          simp only [Act.put, List.setIfInBounds_toArray, List.set_cons_zero, List.set_cons_succ]
                          refine lst_val (v := .pointer (some ⟨bw, 3, none⟩)) (by kernel_rfl) ?_ ?_
                          · go_simp
                          simp only [Act.put, List.setIfInBounds_toArray, List.set_cons_zero, List.set_cons_succ]
                          refine lst_val (v := .slice da nd dc) (by kernel_rfl) ?_ ?_
                          · have c0 := H.out.c1.cell 3
                            go_simp
                          simp only [Act.put, List.setIfInBounds_toArray, List.set_cons_zero, List.set_cons_succ]
                          refine wpList_appB rfl _ _ rfl bw H.out.le u3 (A10) rfl H.out.row (.slice da nd dc) (c.d) rfl (HD.out _ H.out.bel) (by have := HAL.out; (try have := HLN.out); (try have := HFK.out k); (try have := HXL.out); (try simp only [List.length_append]); (try simp only [List.length_cons]); (try simp only [List.length_nil]); (try simp only [dig_len]); omega) ?_
                          intro v9 z9 hA
                          have H9 : Hid (HY bw w z9 [.slice ta nt tc, .slice ca nc cc, .slice sa ns sc, .slice da nd dc, .int .i64 z] v9 (A10 ++ c.d)) := H.out.step hA
                          clear H hA 
                          have H := H9
                          clear H9
                          simp only [Act.put, List.setIfInBounds_toArray, List.set_cons_zero, List.set_cons_succ]
                          refine lst_val (v := v9) (by kernel_rfl) ?_ ?_
                          · go_simp
                          simp only [Act.put, List.setIfInBounds_toArray, List.set_cons_zero, List.set_cons_succ]
                          refine wpList_nil ?_
                          go_wp2
                          go_ret
                          refine ⟨v9, rfl, ?_, by first | exact H.out.bel | (rw [GB.out]; exact H.out.bel)⟩
                          have h9 := H.out.row
                          rw [EA10.out, EA9.out, EA8.out, EA7.out, EA6.out, EA5.out, EA4.out, EA3.out, EA2.out, EA1.out] at h9; have e9 : ([239, 0, 1] ++ [1] ++ dig 2 n4 ++ [2] ++ dig 2 nc ++ (lns c.cs).flatMap (dig 2) ++ [3] ++ dig 2 ns ++ (lns c.ss).flatMap (dig 4) ++ [255] ++ dig 2 sz ++ [0] ++ c.ts.flatMap tyb ++ c.cs.flatten ++ c.ss.flatten ++ c.d) = ser c := (by unfold ser hd; rw [HSZN.out]; rw [if_neg (show ¬ (lns c.ss).length = 0 from by rw [lns_len]; have := HLN.out; have := HES.out; omega)]; have hn4 := HN4.out.2.2.1; have hnc := HLN.out.2.1; have hns := HLN.out.2.2.1; subst hnc hns hn4; simp [List.append_assoc, lns_len]); rw [e9] at h9
                          (first | exact h9 | (rw [GB.out]; exact h9))
                        · have q1 : (k : Int) < (ns : Int) := by omega
                          have HK : Hid (k < ns) := by unfold Hid; omega
                          obtain ⟨x, hx⟩ : ∃ x, c.ss[k]? = some x := ⟨c.ss[k]'(by have := HLN.out; omega), List.getElem?_eq_getElem _⟩
                          obtain ⟨g, a, u, eg, hcell, hb⟩ := (HS.out wr H.out.bel).get hx
                          subst eg
                          obtain ⟨xa, xc, rfl, _, _⟩ := hb.len
                          have PX : Hid (wr.cell? ⟨g, a + k, none⟩ = some (.slice xa x.length xc)) := hcell
                          have BX : Hid (BL (fun g => g < bw) wr (.slice xa x.length xc) x) := hb
                          have HX : Hid (c.ss[k]? = some x) := hx
                          have HXL : Hid (x.length ≤ 16777216) := by have h1 := (List.sublist_flatten_of_mem (List.mem_of_getElem? hx)).length_le; have h2 := HSM.out; unfold Small at h2; unfold Hid; omega
                          clear hx hcell hb
                          have kB : (k : Int) < 1152921504606846976 := by have := HLN.out; omega
                          clear e hk
                          go_upto_region 27 with fail
                          clear a2
                          refine wp_region_lit ?_
                          refine lst_val (v := u3) (by kernel_rfl) ?_ ?_
                          · go_simp
                          simp only [Act.put, List.setIfInBounds_toArray, List.set_cons_zero, List.set_cons_succ]
                          refine lst_val (v := .pointer (some ⟨bw, 2, none⟩)) (by kernel_rfl) ?_ ?_
                          · go_simp
                          simp only [Act.put, List.setIfInBounds_toArray, List.set_cons_zero, List.set_cons_succ]
                          refine lst_val (v := .slice (some ⟨g, a, none⟩) ns sc) (by kernel_rfl) ?_ ?_
                          · have c0 := H.out.c1.cell 2
                            go_simp
                          simp only [Act.put, List.setIfInBounds_toArray, List.set_cons_zero, List.set_cons_succ]
                          refine lst_val (v := .int .i64 (k : Int)) (by kernel_rfl) ?_ ?_
                          · go_simp
                          simp only [Act.put, List.setIfInBounds_toArray, List.set_cons_zero, List.set_cons_succ]
                          refine lst_val (v := .pointer (some ⟨g, a + k, none⟩)) (by kernel_rfl) ?_ ?_
                          · go_simp
                          simp only [Act.put, List.setIfInBounds_toArray, List.set_cons_zero, List.set_cons_succ]
                          refine lst_val (v := .slice xa x.length xc) (by kernel_rfl) ?_ ?_
                          · have c0 := PX.out
                            go_simp
                          simp only [Act.put, List.setIfInBounds_toArray, List.set_cons_zero, List.set_cons_succ]
                          refine wpList_appB rfl _ _ rfl bw H.out.le u3 (A9 ++ (c.ss.take k).flatten) rfl H.out.row (.slice xa x.length xc) (x) rfl BX.out (by have := HAL.out; (try have := HLN.out); (try have := HFK.out k); (try have := HXL.out); (try simp only [List.length_append]); (try simp only [List.length_cons]); (try simp only [List.length_nil]); (try simp only [dig_len]); omega) ?_
                          intro v3 z3 hA
                          have H9 : Hid (HY bw w z3 [.slice ta nt tc, .slice ca nc cc, .slice (some ⟨g, a, none⟩) ns sc, .slice da nd dc, .int .i64 z] v3 (A9 ++ (c.ss.take k).flatten ++ x)) := H.out.step hA
                          clear H hA 
                          have H := H9
                          clear H9
                          simp only [Act.put, List.setIfInBounds_toArray, List.set_cons_zero, List.set_cons_succ]
                          refine lst_val (v := v3) (by kernel_rfl) ?_ ?_
                          · go_simp
                          simp only [Act.put, List.setIfInBounds_toArray, List.set_cons_zero, List.set_cons_succ]
                          refine wpList_nil ?_
                          have HR : Hid (HY bw w z3 [.slice ta nt tc, .slice ca nc cc, .slice (some ⟨g, a, none⟩) ns sc, .slice da nd dc, .int .i64 z] v3 (A9 ++ (c.ss.take (k + 1)).flatten)) := by have h9 := H.out; rw [List.append_assoc, ← flatten_snoc HX.out] at h9; exact h9
                          clear H PX BX HX HXL
                          go_wp2
                          go_roundw
                          case rel => exact ⟨k + 1, by first | rfl | go_num, by have := HK.out; omega, HR.out⟩
                          case measure => simp [intOf]; omega
                    · have q1 : (k : Int) < (nc : Int) := by omega
                      have HK : Hid (k < nc) := by unfold Hid; omega
                      obtain ⟨x, hx⟩ : ∃ x, c.cs[k]? = some x := ⟨c.cs[k]'(by have := HLN.out; omega), List.getElem?_eq_getElem _⟩
                      obtain ⟨g, a, u, eg, hcell, hb⟩ := (HC.out wr H.out.bel).get hx
                      subst eg
                      obtain ⟨xa, xc, rfl, _, _⟩ := hb.len
                      have PX : Hid (wr.cell? ⟨g, a + k, none⟩ = some (.slice xa x.length xc)) := hcell
                      have BX : Hid (BL (fun g => g < bw) wr (.slice xa x.length xc) x) := hb
                      have HX : Hid (c.cs[k]? = some x) := hx
                      have HXL : Hid (x.length ≤ 16777216) := by have h1 := (List.sublist_flatten_of_mem (List.mem_of_getElem? hx)).length_le; have h2 := HSM.out; unfold Small at h2; unfold Hid; omega
                      clear hx hcell hb
                      have kB : (k : Int) < 1152921504606846976 := by have := HLN.out; omega
                      clear e hk
                      go_upto_region 23 with fail
                      clear a1
                      refine wp_region_lit ?_
                      refine lst_val (v := u3) (by kernel_rfl) ?_ ?_
                      · go_simp
                      simp only [Act.put, List.setIfInBounds_toArray, List.set_cons_zero, List.set_cons_succ]
                      refine lst_val (v := .pointer (some ⟨bw, 1, none⟩)) (by kernel_rfl) ?_ ?_
                      · go_simp
                      simp only [Act.put, List.setIfInBounds_toArray, List.set_cons_zero, List.set_cons_succ]
                      refine lst_val (v := .slice (some ⟨g, a, none⟩) nc cc) (by kernel_rfl) ?_ ?_
                      · have c0 := H.out.c1.cell 1
                        go_simp
                      simp only [Act.put, List.setIfInBounds_toArray, List.set_cons_zero, List.set_cons_succ]
                      refine lst_val (v := .int .i64 (k : Int)) (by kernel_rfl) ?_ ?_
                      · go_simp
                      simp only [Act.put, List.setIfInBounds_toArray, List.set_cons_zero, List.set_cons_succ]
                      refine lst_val (v := .pointer (some ⟨g, a + k, none⟩)) (by kernel_rfl) ?_ ?_
                      · go_simp
                      simp only [Act.put, List.setIfInBounds_toArray, List.set_cons_zero, List.set_cons_succ]
                      refine lst_val (v := .slice xa x.length xc) (by kernel_rfl) ?_ ?_
                      · have c0 := PX.out
                        go_simp
                      simp only [Act.put, List.setIfInBounds_toArray, List.set_cons_zero, List.set_cons_succ]
                      refine wpList_appB rfl _ _ rfl bw H.out.le u3 (A8 ++ (c.cs.take k).flatten) rfl H.out.row (.slice xa x.length xc) (x) rfl BX.out (by have := HAL.out; (try have := HLN.out); (try have := HFK.out k); (try have := HXL.out); (try simp only [List.length_append]); (try simp only [List.length_cons]); (try simp only [List.length_nil]); (try simp only [dig_len]); omega) ?_
                      intro v3 z3 hA
                      have H9 : Hid (HY bw w z3 [.slice ta nt tc, .slice (some ⟨g, a, none⟩) nc cc, .slice sa ns sc, .slice da nd dc, .int .i64 z] v3 (A8 ++ (c.cs.take k).flatten ++ x)) := H.out.step hA
                      clear H hA 
                      have H := H9
                      clear H9
                      simp only [Act.put, List.setIfInBounds_toArray, List.set_cons_zero, List.set_cons_succ]
                      refine lst_val (v := v3) (by kernel_rfl) ?_ ?_
                      · go_simp
                      simp only [Act.put, List.setIfInBounds_toArray, List.set_cons_zero, List.set_cons_succ]
                      refine wpList_nil ?_
                      have HR : Hid (HY bw w z3 [.slice ta nt tc, .slice (some ⟨g, a, none⟩) nc cc, .slice sa ns sc, .slice da nd dc, .int .i64 z] v3 (A8 ++ (c.cs.take (k + 1)).flatten)) := by have h9 := H.out; rw [List.append_assoc, ← flatten_snoc HX.out] at h9; exact h9
                      clear H PX BX HX HXL
                      go_wp2
                      go_roundw
                      case rel => exact ⟨k + 1, by first | rfl | go_num, by have := HK.out; omega, HR.out⟩
                      case measure => simp [intOf]; omega
                · have q1 : (k : Int) < (nt : Int) := by omega
                  have HK : Hid (k < nt) := by unfold Hid; omega
                  obtain ⟨t, hx⟩ : ∃ t, c.ts[k]? = some t := ⟨c.ts[k]'(by have := HLN.out; omega), List.getElem?_eq_getElem _⟩
                  obtain ⟨g, a, eg, _⟩ := (HT.out wr H.out.bel).get hx
                  subst eg
                  have PX : Hid (∀ W, Below bw w W → W.cell? ⟨g, a + k * 3, none⟩ = some (.int .i64 t.1) ∧ W.cell? ⟨g, a + k * 3 + 1, none⟩ = some (.int .i64 t.2.1) ∧ W.cell? ⟨g, a + k * 3 + 2, none⟩ = some (.int .i64 t.2.2)) := fun W hW => by
                    obtain ⟨g', a', eg', h1, h2, h3⟩ := (HT.out W hW).get hx
                    injection eg' with eg'
                    injection eg' with e1 e2
                    subst e1 e2
                    exact ⟨h1, h2, h3⟩
                  have HX : Hid (c.ts[k]? = some t) := hx
                  have hn := chkT_num _ _ HMY.out.ty t (List.mem_of_getElem? hx)
                  obtain ⟨p1, hp1⟩ : ∃ p, p = t.1.toNat % 256 := ⟨_, rfl⟩
                  obtain ⟨p2, hp2⟩ : ∃ p, p = t.2.1.toNat % 256 := ⟨_, rfl⟩
                  obtain ⟨p3, hp3⟩ : ∃ p, p = t.2.2.toNat := ⟨_, rfl⟩
                  have HP : Hid (IntKind.u8.wrap t.1 = (p1 : Int) ∧ IntKind.u8.wrap t.2.1 = (p2 : Int) ∧ t.2.2 = (p3 : Int) ∧ tyb t = [p1, p2] ++ dig 2 p3) := ⟨by rw [IntKind.wrap_u8]; omega, by rw [IntKind.wrap_u8]; omega, by omega, by rw [tyb_is, hp1, hp2, hp3]⟩
                  have HNB : Hid (p3 < 9223372036854775808) := by unfold Hid; omega
                  clear hx hn hp1 hp2 hp3
                  have kB : (k : Int) < 1152921504606846976 := by have := HLN.out; omega
                  clear e hk
                  go_upto_region 19 with fail
                  clear a0
                  refine wp_region_held_drew (S := fun V' => CBox V' bw 28 [.slice (some ⟨g, a, none⟩) nt tc, .slice ca nc cc, .slice sa ns sc, .slice da nd dc, .int .i64 z] ∧ Below bw w V') (by kernel_rfl) ⟨H.out.c1.past below_drew, H.out.bel.drew⟩ (fun HH => ?_)
                  have H9 : Hid (HY bw w wr.drew [.slice (some ⟨g, a, none⟩) nt tc, .slice ca nc cc, .slice sa ns sc, .slice da nd dc, .int .i64 z] u3 (A7 ++ (c.ts.take k).flatMap tyb)) := H.out.past below_drew
                  clear H
                  have H := H9
                  clear H9
                  generalize wr.drew = z1 at HH H ⊢
                  refine wpAnyH_take (i := 0) (v := u3) ov0 (by kernel_rfl) (by kernel_rfl) (by kernel_rfl) (fun _ _ _ h => h) (Or.inl ⟨by rfl, fun V' hS => ?_⟩) HH ?_
                  · go_simp
                  simp only [Act.put, List.setIfInBounds_toArray, List.set_cons_zero, List.set_cons_succ]
                  refine wpAnyH_take (i := 1) (v := .pointer (some ⟨bw, 0, none⟩)) ov1 (by kernel_rfl) (by kernel_rfl) (by kernel_rfl) (fun _ _ _ h => h) (Or.inl ⟨by rfl, fun V' hS => ?_⟩) HH ?_
                  · go_simp
                  simp only [Act.put, List.setIfInBounds_toArray, List.set_cons_zero, List.set_cons_succ]
                  refine wpAnyH_take (i := 2) (v := .slice (some ⟨g, a, none⟩) nt tc) ov2 (by kernel_rfl) (by kernel_rfl) (by kernel_rfl) (fun _ _ _ h => h) (Or.inl ⟨by rfl, fun V' hS => ?_⟩) HH ?_
                  · have c0 := hS.1.cell 0
                    go_simp
                  simp only [Act.put, List.setIfInBounds_toArray, List.set_cons_zero, List.set_cons_succ]
                  refine wpAnyH_take (i := 3) (v := .int .i64 (k : Int)) ov3 (by kernel_rfl) (by kernel_rfl) (by kernel_rfl) (fun _ _ _ h => h) (Or.inl ⟨by rfl, fun V' hS => ?_⟩) HH ?_
                  · go_simp
                  simp only [Act.put, List.setIfInBounds_toArray, List.set_cons_zero, List.set_cons_succ]
                  refine wpAnyH_take (i := 4) (v := .pointer (some ⟨g, a + k * 3, none⟩)) ov4 (by kernel_rfl) (by kernel_rfl) (by kernel_rfl) (fun _ _ _ h => h) (Or.inl ⟨by rfl, fun V' hS => ?_⟩) HH ?_
                  · go_simp
                  simp only [Act.put, List.setIfInBounds_toArray, List.set_cons_zero, List.set_cons_succ]
                  refine wpAnyH_take (i := 5) (v := .pointer (some ⟨g, a + k * 3, none⟩)) ov5 (by kernel_rfl) (by kernel_rfl) (by kernel_rfl) (fun _ _ _ h => h) (Or.inl ⟨by rfl, fun V' hS => ?_⟩) HH ?_
                  · go_simp
                  simp only [Act.put, List.setIfInBounds_toArray, List.set_cons_zero, List.set_cons_succ]
                  refine wpAnyH_take (i := 6) (v := .int .i64 t.1) ov6 (by kernel_rfl) (by kernel_rfl) (by kernel_rfl) (fun _ _ _ h => h) (Or.inl ⟨by rfl, fun V' hS => ?_⟩) HH ?_
                  · obtain ⟨c0, c1, c2⟩ := PX.out V' hS.2
                    go_simp
                  simp only [Act.put, List.setIfInBounds_toArray, List.set_cons_zero, List.set_cons_succ]
                  refine wpAnyH_take (i := 7) (v := .int .u8 (p1 : Int)) ov7 (by kernel_rfl) (by kernel_rfl) (by kernel_rfl) (fun _ _ _ h => h) (Or.inl ⟨by rfl, fun V' hS => ?_⟩) HH ?_
                  · have c0 := HP.out.1
                    go_simp
                  simp only [Act.put, List.setIfInBounds_toArray, List.set_cons_zero, List.set_cons_succ]
                  refine wpAnyH_take (i := 8) (v := .pointer (some ⟨bw, 0, none⟩)) ov8 (by kernel_rfl) (by kernel_rfl) (by kernel_rfl) (fun _ _ _ h => h) (Or.inl ⟨by rfl, fun V' hS => ?_⟩) HH ?_
                  · go_simp
                  simp only [Act.put, List.setIfInBounds_toArray, List.set_cons_zero, List.set_cons_succ]
                  refine wpAnyH_take (i := 9) (v := .slice (some ⟨g, a, none⟩) nt tc) ov9 (by kernel_rfl) (by kernel_rfl) (by kernel_rfl) (fun _ _ _ h => h) (Or.inl ⟨by rfl, fun V' hS => ?_⟩) HH ?_
                  · have c0 := hS.1.cell 0
                    go_simp
                  simp only [Act.put, List.setIfInBounds_toArray, List.set_cons_zero, List.set_cons_succ]
                  refine wpAnyH_take (i := 10) (v := .int .i64 (k : Int)) ov10 (by kernel_rfl) (by kernel_rfl) (by kernel_rfl) (fun _ _ _ h => h) (Or.inl ⟨by rfl, fun V' hS => ?_⟩) HH ?_
                  · go_simp
                  simp only [Act.put, List.setIfInBounds_toArray, List.set_cons_zero, List.set_cons_succ]
                  refine wpAnyH_take (i := 11) (v := .pointer (some ⟨g, a + k * 3, none⟩)) ov11 (by kernel_rfl) (by kernel_rfl) (by kernel_rfl) (fun _ _ _ h => h) (Or.inl ⟨by rfl, fun V' hS => ?_⟩) HH ?_
                  · go_simp
                  simp only [Act.put, List.setIfInBounds_toArray, List.set_cons_zero, List.set_cons_succ]
                  refine wpAnyH_take (i := 12) (v := .pointer (some ⟨g, a + k * 3 + 1, none⟩)) ov12 (by kernel_rfl) (by kernel_rfl) (by kernel_rfl) (fun _ _ _ h => h) (Or.inl ⟨by rfl, fun V' hS => ?_⟩) HH ?_
                  · go_simp
                  simp only [Act.put, List.setIfInBounds_toArray, List.set_cons_zero, List.set_cons_succ]
                  refine wpAnyH_take (i := 13) (v := .int .i64 t.2.1) ov13 (by kernel_rfl) (by kernel_rfl) (by kernel_rfl) (fun _ _ _ h => h) (Or.inl ⟨by rfl, fun V' hS => ?_⟩) HH ?_
                  · obtain ⟨c0, c1, c2⟩ := PX.out V' hS.2
                    go_simp
                  simp only [Act.put, List.setIfInBounds_toArray, List.set_cons_zero, List.set_cons_succ]
                  refine wpAnyH_take (i := 14) (v := .int .u8 (p2 : Int)) ov14 (by kernel_rfl) (by kernel_rfl) (by kernel_rfl) (fun _ _ _ h => h) (Or.inl ⟨by rfl, fun V' hS => ?_⟩) HH ?_
                  · have c0 := HP.out.2.1
                    go_simp
                  simp only [Act.put, List.setIfInBounds_toArray, List.set_cons_zero, List.set_cons_succ]
                  refine wpAnyH_take (i := 17) (v := .pointer (some ⟨bw, 0, none⟩)) ov17 (by kernel_rfl) (by kernel_rfl) (by kernel_rfl) (fun _ _ _ h => h) (Or.inl ⟨by rfl, fun V' hS => ?_⟩) HH ?_
                  · go_simp
                  simp only [Act.put, List.setIfInBounds_toArray, List.set_cons_zero, List.set_cons_succ]
                  refine wpAnyH_take (i := 18) (v := .slice (some ⟨g, a, none⟩) nt tc) ov18 (by kernel_rfl) (by kernel_rfl) (by kernel_rfl) (fun _ _ _ h => h) (Or.inl ⟨by rfl, fun V' hS => ?_⟩) HH ?_
                  · have c0 := hS.1.cell 0
                    go_simp
                  simp only [Act.put, List.setIfInBounds_toArray, List.set_cons_zero, List.set_cons_succ]
                  refine wpAnyH_take (i := 19) (v := .int .i64 (k : Int)) ov19 (by kernel_rfl) (by kernel_rfl) (by kernel_rfl) (fun _ _ _ h => h) (Or.inl ⟨by rfl, fun V' hS => ?_⟩) HH ?_
                  · go_simp
                  simp only [Act.put, List.setIfInBounds_toArray, List.set_cons_zero, List.set_cons_succ]
                  refine wpAnyH_take (i := 20) (v := .pointer (some ⟨g, a + k * 3, none⟩)) ov20 (by kernel_rfl) (by kernel_rfl) (by kernel_rfl) (fun _ _ _ h => h) (Or.inl ⟨by rfl, fun V' hS => ?_⟩) HH ?_
                  · go_simp
                  simp only [Act.put, List.setIfInBounds_toArray, List.set_cons_zero, List.set_cons_succ]
                  refine wpAnyH_take (i := 21) (v := .pointer (some ⟨g, a + k * 3 + 2, none⟩)) ov21 (by kernel_rfl) (by kernel_rfl) (by kernel_rfl) (fun _ _ _ h => h) (Or.inl ⟨by rfl, fun V' hS => ?_⟩) HH ?_
                  · go_simp
                  simp only [Act.put, List.setIfInBounds_toArray, List.set_cons_zero, List.set_cons_succ]
                  refine wpAnyH_take (i := 22) (v := .int .i64 t.2.2) ov22 (by kernel_rfl) (by kernel_rfl) (by kernel_rfl) (fun _ _ _ h => h) (Or.inl ⟨by rfl, fun V' hS => ?_⟩) HH ?_
                  · obtain ⟨c0, c1, c2⟩ := PX.out V' hS.2
                    go_simp
                  simp only [Act.put, List.setIfInBounds_toArray, List.set_cons_zero, List.set_cons_succ]
                  refine wpAnyH_ready (rs := [15]) (by kernel_rfl) (by simp) ?_
                  refine AllReadyH.cons ov15 (fun K hK => ?_) AllReadyH.nil
                  rw [if_pos (by rfl)]
                  go_simp
                  have hB : Below z1.heap.size z1 (z1.alloc (.cells #[.int .u8 (p1 : Int), .int .u8 (p2 : Int)] 5)) := below_alloc _ _
                  have L9 : BL (fun _ => True) (z1.alloc (.cells #[.int .u8 (p1 : Int), .int .u8 (p2 : Int)] 5)) (.slice (some ⟨z1.heap.size, 0, none⟩) 2 2) [p1, p2] := (BL.new z1 [p1, p2] (by simp)).mono fun _ _ _ => trivial
                  have H9 := H.out.past hB
                  clear H
                  have H : Hid _ := H9
                  clear H9
                  (try (have q9 := FZ.out.past hB; clear FZ; have FZ : Hid _ := q9; clear q9))
                  (try (have q9 := TW.out; clear TW; have TW : Hid (BL (fun _ => True) (z1.alloc (.cells #[.int .u8 (p1 : Int), .int .u8 (p2 : Int)] 5)) (.slice (some ⟨gt, 0, none⟩) 2 2) (dig 2 p3)) := q9.past hB; clear q9))
                  have FB : Hid (BL (fun _ => True) (z1.alloc (.cells #[.int .u8 (p1 : Int), .int .u8 (p2 : Int)] 5)) (.slice (some ⟨z1.heap.size, 0, none⟩) 2 2) [p1, p2]) := L9
                  clear L9 hB
                  refine hK.out _ (z1.alloc (.cells #[.int .u8 (p1 : Int), .int .u8 (p2 : Int)] 5)) ⟨H.out.c1, H.out.bel⟩ (fun _ => ?_)
                  clear hK K
                  (try simp only [Act.put, List.setIfInBounds_toArray, List.set_cons_zero, List.set_cons_succ])
                  generalize z1.heap.size = bb at FB ⊢
                  (first | generalize (z1.alloc (.cells #[.int .u8 (p1 : Int), .int .u8 (p2 : Int)] 5)) = z1 at H FB FZ TW ⊢ | generalize (z1.alloc (.cells #[.int .u8 (p1 : Int), .int .u8 (p2 : Int)] 5)) = z1 at H FB FZ ⊢ | generalize (z1.alloc (.cells #[.int .u8 (p1 : Int), .int .u8 (p2 : Int)] 5)) = z1 at H FB TW ⊢ | generalize (z1.alloc (.cells #[.int .u8 (p1 : Int), .int .u8 (p2 : Int)] 5)) = z1 at H FZ TW ⊢ | generalize (z1.alloc (.cells #[.int .u8 (p1 : Int), .int .u8 (p2 : Int)] 5)) = z1 at H FB ⊢ | generalize (z1.alloc (.cells #[.int .u8 (p1 : Int), .int .u8 (p2 : Int)] 5)) = z1 at H FZ ⊢ | generalize (z1.alloc (.cells #[.int .u8 (p1 : Int), .int .u8 (p2 : Int)] 5)) = z1 at H TW ⊢ | generalize (z1.alloc (.cells #[.int .u8 (p1 : Int), .int .u8 (p2 : Int)] 5)) = z1 at H  ⊢)
                  refine wpAnyH_ready (rs := [16]) (by kernel_rfl) (by simp) ?_
                  refine AllReadyH.cons ov16 (fun K hK => ?_) AllReadyH.nil
                  rw [if_pos (by rfl)]
                  refine wp_appB _ _ rfl bw H.out.le u3 (A7 ++ (c.ts.take k).flatMap tyb) rfl H.out.row (.slice (some ⟨bb, 0, none⟩) 2 2) [p1, p2] rfl FB.out (by have := HAL.out; (try have := HLN.out); (try have := HFK.out k); (try have := HXL.out); (try simp only [List.length_append]); (try simp only [List.length_cons]); (try simp only [List.length_nil]); (try simp only [dig_len]); omega) ?_
                  intro vA z1 hA
                  (try (have q9 := FZ.out.app hA; clear FZ; have FZ : Hid _ := q9; clear q9))
                  have H9 : Hid (HY bw w z1 [.slice (some ⟨g, a, none⟩) nt tc, .slice ca nc cc, .slice sa ns sc, .slice da nd dc, .int .i64 z] vA (A7 ++ (c.ts.take k).flatMap tyb ++ [p1, p2])) := H.out.step hA
                  clear H FB hA
                  have H := H9
                  clear H9
                  refine hK.out _ z1 ⟨H.out.c1, H.out.bel⟩ (fun _ => ?_)
                  clear hK K
                  (try simp only [Act.put, List.setIfInBounds_toArray, List.set_cons_zero, List.set_cons_succ])
                  refine wpAnyH_ready (rs := [23]) (by kernel_rfl) (by simp) ?_
                  refine AllReadyH.cons ov23 (fun K hK => ?_) AllReadyH.nil
                  rw [if_pos (by rfl)]
                  go_simp
                  refine (two_is _ t.2.2 p3 HP.out.2.2.1 (by have := HNB.out; omega)).mono ?_
                  rintro e z1 ⟨⟨gt, rfl, hT⟩, hB⟩
                  have H9 := H.out.past hB
                  clear H
                  have H : Hid _ := H9
                  clear H9
                  (try (have q9 := FB.out; clear FB; have FB : Hid (BL (fun _ => True) z1 (.slice (some ⟨bb, 0, none⟩) 2 2) [p1, p2]) := q9.past hB; clear q9))
                  (try (have q9 := FZ.out.past hB; clear FZ; have FZ : Hid _ := q9; clear q9))
                  have TW : Hid (BL (fun _ => True) z1 (.slice (some ⟨gt, 0, none⟩) 2 2) (dig 2 p3)) := hT
                  clear hT hB
                  (try go_wp2_with fail)
                  refine hK.out _ _ ⟨H.out.c1, H.out.bel⟩ (fun _ => ?_)
                  clear hK K
                  (try simp only [Act.put, List.setIfInBounds_toArray, List.set_cons_zero, List.set_cons_succ])
                  refine wpAnyH_ready (rs := [24]) (by kernel_rfl) (by simp) ?_
                  refine AllReadyH.cons ov24 (fun K hK => ?_) AllReadyH.nil
                  rw [if_pos (by rfl)]
                  refine wp_appB _ _ rfl bw H.out.le vA (A7 ++ (c.ts.take k).flatMap tyb ++ [p1, p2]) rfl H.out.row (.slice (some ⟨gt, 0, none⟩) 2 2) (dig 2 p3) rfl TW.out (by have := HAL.out; (try have := HLN.out); (try have := HFK.out k); (try have := HXL.out); (try simp only [List.length_append]); (try simp only [List.length_cons]); (try simp only [List.length_nil]); (try simp only [dig_len]); omega) ?_
                  intro vB z1 hA
                  (try (have q9 := FZ.out.app hA; clear FZ; have FZ : Hid _ := q9; clear q9))
                  have H9 : Hid (HY bw w z1 [.slice (some ⟨g, a, none⟩) nt tc, .slice ca nc cc, .slice sa ns sc, .slice da nd dc, .int .i64 z] vB (A7 ++ (c.ts.take k).flatMap tyb ++ [p1, p2] ++ dig 2 p3)) := H.out.step hA
                  clear H TW hA
                  have H := H9
                  clear H9
                  refine hK.out _ z1 ⟨H.out.c1, H.out.bel⟩ (fun _ => ?_)
                  clear hK K
                  (try simp only [Act.put, List.setIfInBounds_toArray, List.set_cons_zero, List.set_cons_succ])
                  refine wpAnyH_take (i := 25) (v := vB) ov25 (by kernel_rfl) (by kernel_rfl) (by kernel_rfl) (fun _ _ _ h => h) (Or.inl ⟨by rfl, fun V' hS => ?_⟩) ⟨H.out.c1, H.out.bel⟩ ?_
                  · go_simp
                  simp only [Act.put, List.setIfInBounds_toArray, List.set_cons_zero, List.set_cons_succ]
                  refine wpAnyH_done (by kernel_rfl) ?_ _
                  clear HH
                  have HR : Hid (HY bw w z1 [.slice (some ⟨g, a, none⟩) nt tc, .slice ca nc cc, .slice sa ns sc, .slice da nd dc, .int .i64 z] vB (A7 ++ (c.ts.take (k + 1)).flatMap tyb)) := by have h9 := H.out; rw [List.append_assoc, List.append_assoc, ← HP.out.2.2.2, ← flat_snoc HX.out] at h9; exact h9
                  clear H PX HX HNB HP
                  go_wp2
                  go_roundw
                  case rel => exact ⟨k + 1, by first | rfl | go_num, by have := HK.out; omega, HR.out⟩
                  case measure => simp [intOf]; omega
          · have q1 : (k : Int) < (ns : Int) := by omega
            have HK : Hid (k < ns) := by unfold Hid; omega
            obtain ⟨x, hx⟩ : ∃ x, c.ss[k]? = some x := ⟨c.ss[k]'(by have := HLN.out; omega), List.getElem?_eq_getElem _⟩
            obtain ⟨g, a, u, eg, hcell, hb⟩ := (HS.out wr H.out.bel).get hx
            subst eg
            obtain ⟨xa, xc, rfl, _, _⟩ := hb.len
            have PX : Hid (wr.cell? ⟨g, a + k, none⟩ = some (.slice xa x.length xc)) := hcell
            have BX : Hid (BL (fun g => g < bw) wr (.slice xa x.length xc) x) := hb
            have HX : Hid (c.ss[k]? = some x) := hx
            have HXL : Hid (x.length ≤ 16777216) := by have h1 := (List.sublist_flatten_of_mem (List.mem_of_getElem? hx)).length_le; have h2 := HSM.out; unfold Small at h2; unfold Hid; omega
            clear hx hcell hb
            have HXX : Hid ((lns c.ss)[k]? = some x.length) := lns_get HX.out
            obtain ⟨y, hy⟩ : ∃ y, y = x.length / 65536 := ⟨_, rfl⟩
            have HYE : Hid (y = x.length / 65536) := hy
            have HYS : Hid ((x.length : Int) / 65536 = (y : Int)) := by unfold Hid; omega
            have HNB : Hid (x.length < 9223372036854775808 ∧ y < 9223372036854775808) := by have := HXL.out; unfold Hid; omega
            clear hy
            have kB : (k : Int) < 1152921504606846976 := by have := HLN.out; omega
            have hpx := PX.out
            clear e hk
            go_upto_region 14 with fail
            clear a2 hpx
            refine wp_region_lit ?_
            refine lst_val (v := u3) (by kernel_rfl) ?_ ?_
            · go_simp
            simp only [Act.put, List.setIfInBounds_toArray, List.set_cons_zero, List.set_cons_succ]
            refine lst_val (v := .int .i64 (x.length : Int)) (by kernel_rfl) ?_ ?_
            · go_simp
            simp only [Act.put, List.setIfInBounds_toArray, List.set_cons_zero, List.set_cons_succ]
            refine lst_val (v := .int .i64 (y : Int)) (by kernel_rfl) ?_ ?_
            · have c0 := HYS.out
              go_simp
            simp only [Act.put, List.setIfInBounds_toArray, List.set_cons_zero, List.set_cons_succ]
            refine lst_call (by kernel_rfl) (by first | (go_simp; done) | (go_simp; first | exact rfl | exact ⟨rfl, rfl⟩ | exact ⟨rfl, rfl, rfl⟩)) (two_is _ (y : Int) y rfl (by have := HNB.out; omega)) ?_
            rintro e z2 ⟨⟨gt, rfl, hT⟩, hB⟩
            refine ⟨_, rfl, ?_⟩
            have H9 : Hid (HY bw w z2 [.slice ta nt tc, .slice ca nc cc, .slice (some ⟨g, a, none⟩) ns sc, .slice da nd dc, .int .i64 z] u3 (A5 ++ ((lns c.ss).take k).flatMap (dig 4))) := H.out.past hB
            have TW : Hid (BL (fun _ => True) z2 (.slice (some ⟨gt, 0, none⟩) 2 2) (dig 2 y)) := hT
            clear H hT hB
            have H := H9
            clear H9
            simp only [Act.put, List.setIfInBounds_toArray, List.set_cons_zero, List.set_cons_succ]
            refine wpList_appB rfl _ _ rfl bw H.out.le u3 (A5 ++ ((lns c.ss).take k).flatMap (dig 4)) rfl H.out.row (.slice (some ⟨gt, 0, none⟩) 2 2) (dig 2 y) rfl TW.out (by have := HAL.out; (try have := HLN.out); (try have := HFK.out k); (try have := HXL.out); (try simp only [List.length_append]); (try simp only [List.length_cons]); (try simp only [List.length_nil]); (try simp only [dig_len]); omega) ?_
            intro v3 z3 hA
            have H9 : Hid (HY bw w z3 [.slice ta nt tc, .slice ca nc cc, .slice (some ⟨g, a, none⟩) ns sc, .slice da nd dc, .int .i64 z] v3 (A5 ++ ((lns c.ss).take k).flatMap (dig 4) ++ dig 2 y)) := H.out.step hA
            clear H hA TW
            have H := H9
            clear H9
            simp only [Act.put, List.setIfInBounds_toArray, List.set_cons_zero, List.set_cons_succ]
            refine lst_val (v := .int .i64 (x.length : Int)) (by kernel_rfl) ?_ ?_
            · go_simp
            simp only [Act.put, List.setIfInBounds_toArray, List.set_cons_zero, List.set_cons_succ]
            refine lst_call (by kernel_rfl) (by first | (go_simp; done) | (go_simp; first | exact rfl | exact ⟨rfl, rfl⟩ | exact ⟨rfl, rfl, rfl⟩)) (two_is _ (x.length : Int) x.length rfl (by have := HNB.out; omega)) ?_
            rintro e z4 ⟨⟨gt, rfl, hT⟩, hB⟩
            refine ⟨_, rfl, ?_⟩
            have H9 : Hid (HY bw w z4 [.slice ta nt tc, .slice ca nc cc, .slice (some ⟨g, a, none⟩) ns sc, .slice da nd dc, .int .i64 z] v3 (A5 ++ ((lns c.ss).take k).flatMap (dig 4) ++ dig 2 y)) := H.out.past hB
            have TW : Hid (BL (fun _ => True) z4 (.slice (some ⟨gt, 0, none⟩) 2 2) (dig 2 x.length)) := hT
            clear H hT hB
            have H := H9
            clear H9
            simp only [Act.put, List.setIfInBounds_toArray, List.set_cons_zero, List.set_cons_succ]
            refine wpList_appB rfl _ _ rfl bw H.out.le v3 (A5 ++ ((lns c.ss).take k).flatMap (dig 4) ++ dig 2 y) rfl H.out.row (.slice (some ⟨gt, 0, none⟩) 2 2) (dig 2 x.length) rfl TW.out (by have := HAL.out; (try have := HLN.out); (try have := HFK.out k); (try have := HXL.out); (try simp only [List.length_append]); (try simp only [List.length_cons]); (try simp only [List.length_nil]); (try simp only [dig_len]); omega) ?_
            intro v5 z5 hA
            have H9 : Hid (HY bw w z5 [.slice ta nt tc, .slice ca nc cc, .slice (some ⟨g, a, none⟩) ns sc, .slice da nd dc, .int .i64 z] v5 (A5 ++ ((lns c.ss).take k).flatMap (dig 4) ++ dig 2 y ++ dig 2 x.length)) := H.out.step hA
            clear H hA TW
            have H := H9
            clear H9
            simp only [Act.put, List.setIfInBounds_toArray, List.set_cons_zero, List.set_cons_succ]
            refine lst_val (v := v5) (by kernel_rfl) ?_ ?_
            · go_simp
            simp only [Act.put, List.setIfInBounds_toArray, List.set_cons_zero, List.set_cons_succ]
            refine wpList_nil ?_
            have HR : Hid (HY bw w z5 [.slice ta nt tc, .slice ca nc cc, .slice (some ⟨g, a, none⟩) ns sc, .slice da nd dc, .int .i64 z] v5 (A5 ++ ((lns c.ss).take (k + 1)).flatMap (dig 4))) := by have h9 := H.out; rw [List.append_assoc, List.append_assoc, show dig 2 y ++ dig 2 x.length = dig 4 x.length from by rw [dig4, HYE.out], ← flat_snoc HXX.out] at h9; exact h9
            clear H PX BX HX HXX HXL HNB HYS HYE
            go_wp2
            go_roundw
            case rel => exact ⟨k + 1, by first | rfl | go_num, by have := HK.out; omega, HR.out⟩
            case measure => simp [intOf]; omega
    · have q1 : (k : Int) < (nc : Int) := by omega
      have HK : Hid (k < nc) := by unfold Hid; omega
      obtain ⟨x, hx⟩ : ∃ x, c.cs[k]? = some x := ⟨c.cs[k]'(by have := HLN.out; omega), List.getElem?_eq_getElem _⟩
      obtain ⟨g, a, u, eg, hcell, hb⟩ := (HC.out wr H.out.bel).get hx
      subst eg
      obtain ⟨xa, xc, rfl, _, _⟩ := hb.len
      have PX : Hid (wr.cell? ⟨g, a + k, none⟩ = some (.slice xa x.length xc)) := hcell
      have BX : Hid (BL (fun g => g < bw) wr (.slice xa x.length xc) x) := hb
      have HX : Hid (c.cs[k]? = some x) := hx
      have HXL : Hid (x.length ≤ 16777216) := by have h1 := (List.sublist_flatten_of_mem (List.mem_of_getElem? hx)).length_le; have h2 := HSM.out; unfold Small at h2; unfold Hid; omega
      clear hx hcell hb
      have HXX : Hid ((lns c.cs)[k]? = some x.length) := lns_get HX.out
      have HNB : Hid (x.length < 9223372036854775808) := by have := HXL.out; unfold Hid; omega
      have kB : (k : Int) < 1152921504606846976 := by have := HLN.out; omega
      clear e hk
      go_upto_region 7 with fail
      clear a1
      refine wp_region_lit ?_
      refine lst_val (v := u3) (by kernel_rfl) ?_ ?_
      · go_simp
      simp only [Act.put, List.setIfInBounds_toArray, List.set_cons_zero, List.set_cons_succ]
      refine lst_val (v := .pointer (some ⟨bw, 1, none⟩)) (by kernel_rfl) ?_ ?_
      · go_simp
      simp only [Act.put, List.setIfInBounds_toArray, List.set_cons_zero, List.set_cons_succ]
      refine lst_val (v := .slice (some ⟨g, a, none⟩) nc cc) (by kernel_rfl) ?_ ?_
      · have c0 := H.out.c1.cell 1
        go_simp
      simp only [Act.put, List.setIfInBounds_toArray, List.set_cons_zero, List.set_cons_succ]
      refine lst_val (v := .int .i64 (k : Int)) (by kernel_rfl) ?_ ?_
      · go_simp
      simp only [Act.put, List.setIfInBounds_toArray, List.set_cons_zero, List.set_cons_succ]
      refine lst_val (v := .pointer (some ⟨g, a + k, none⟩)) (by kernel_rfl) ?_ ?_
      · go_simp
      simp only [Act.put, List.setIfInBounds_toArray, List.set_cons_zero, List.set_cons_succ]
      refine lst_val (v := .slice xa x.length xc) (by kernel_rfl) ?_ ?_
      · have c0 := PX.out
        go_simp
      simp only [Act.put, List.setIfInBounds_toArray, List.set_cons_zero, List.set_cons_succ]
      refine lst_val (v := .int .i64 (x.length : Int)) (by kernel_rfl) ?_ ?_
      · go_simp
      simp only [Act.put, List.setIfInBounds_toArray, List.set_cons_zero, List.set_cons_succ]
      refine lst_call (by kernel_rfl) (by first | (go_simp; done) | (go_simp; first | exact rfl | exact ⟨rfl, rfl⟩ | exact ⟨rfl, rfl, rfl⟩)) (two_is _ (x.length : Int) x.length rfl (by have := HNB.out; omega)) ?_
      rintro e z2 ⟨⟨gt, rfl, hT⟩, hB⟩
      refine ⟨_, rfl, ?_⟩
      have H9 : Hid (HY bw w z2 [.slice ta nt tc, .slice (some ⟨g, a, none⟩) nc cc, .slice sa ns sc, .slice da nd dc, .int .i64 z] u3 (A3 ++ ((lns c.cs).take k).flatMap (dig 2))) := H.out.past hB
      have TW : Hid (BL (fun _ => True) z2 (.slice (some ⟨gt, 0, none⟩) 2 2) (dig 2 x.length)) := hT
      clear H hT hB
      have H := H9
      clear H9
      simp only [Act.put, List.setIfInBounds_toArray, List.set_cons_zero, List.set_cons_succ]
      refine wpList_appB rfl _ _ rfl bw H.out.le u3 (A3 ++ ((lns c.cs).take k).flatMap (dig 2)) rfl H.out.row (.slice (some ⟨gt, 0, none⟩) 2 2) (dig 2 x.length) rfl TW.out (by have := HAL.out; (try have := HLN.out); (try have := HFK.out k); (try have := HXL.out); (try simp only [List.length_append]); (try simp only [List.length_cons]); (try simp only [List.length_nil]); (try simp only [dig_len]); omega) ?_
      intro v3 z3 hA
      have H9 : Hid (HY bw w z3 [.slice ta nt tc, .slice (some ⟨g, a, none⟩) nc cc, .slice sa ns sc, .slice da nd dc, .int .i64 z] v3 (A3 ++ ((lns c.cs).take k).flatMap (dig 2) ++ dig 2 x.length)) := H.out.step hA
      clear H hA TW
      have H := H9
      clear H9
      simp only [Act.put, List.setIfInBounds_toArray, List.set_cons_zero, List.set_cons_succ]
      refine lst_val (v := v3) (by kernel_rfl) ?_ ?_
      · go_simp
      simp only [Act.put, List.setIfInBounds_toArray, List.set_cons_zero, List.set_cons_succ]
      refine wpList_nil ?_
      have HR : Hid (HY bw w z3 [.slice ta nt tc, .slice (some ⟨g, a, none⟩) nc cc, .slice sa ns sc, .slice da nd dc, .int .i64 z] v3 (A3 ++ ((lns c.cs).take (k + 1)).flatMap (dig 2))) := by have h9 := H.out; rw [List.append_assoc, ← flat_snoc HXX.out] at h9; exact h9
      clear H PX BX HX HXX HXL HNB
      go_wp2
      go_roundw
      case rel => exact ⟨k + 1, by first | rfl | go_num, by have := HK.out; omega, HR.out⟩
      case measure => simp [intOf]; omega
end Go.Proofs.Ytndhabhlajldeaa
