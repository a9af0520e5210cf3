/- Words of the document's stack; two lists of words are the same. -/
import Derived.Test.YtdddmebihkdkjaaQh
namespace Go.Proofs.Ytdddmebihkdkjaa
open Go.RowKit
theorem rowW_ext {x y : Ring} : ∀ k, (∀ i, i < k → x i = y i) → rowW x k = rowW y k
  | 0, _ => rfl
  | k + 1, h => by rw [rowW, rowW, rowW_ext k (fun i hi => h i (by omega)), h k (by omega)]
theorem rowW_snoc (x : Ring) (k : Nat) (y : W4) : rowW x k ++ y.cs = rowW (rput x k y) (k + 1) := by
  rw [rowW, rowW_ext (x := x) (y := rput x k y) k (fun i hi => by unfold rput; rw [if_neg (by omega)])]
  unfold rput; rw [if_pos rfl]
theorem Wd.news {W : World} {g a : Nat} {y : W4} (h : Wd W g a y) (j : Nat) (u : Value) (hj : y.cs[j]? = some u) : W.cell? ((⟨g, a, none⟩ : Addr).add j) = some u := by
  rw [Addr.add_mid]
  have hl : j < 4 := by have := (List.getElem?_eq_some_iff.1 hj).1; simpa [W4.cs] using this
  rw [W4.cs_at y j hl] at hj
  rw [← hj]; exact (h.cellq j hl).1
theorem W4.one (y : W4) : ∀ u ∈ y.cs, u.oneCell' = true := fun u hu => by
  simp only [W4.cs, List.mem_cons, List.not_mem_nil, or_false] at hu; rcases hu with rfl | rfl | rfl | rfl <;> rfl
/-- one word more on a list of one's own -/
theorem wp_append_word {w : World} {o : Oper} {a : Act} {K : Act → World → Prop} {Q : Exit → Act → World → Prop} (s x : Operand)
    (ho : o.op = .call { callee := .builtin .append, args := #[s, x], argTypes := #[52, 52] })
    (base : Nat) (v : Value) (n : Nat) (xs : Ring) (hs : a.eval s = v) (hown : w.ownsRow base 30 4 v n (rowW xs n)) (g : Nat) (c : Nat) (hx : a.eval x = .slice (some ⟨g, 0, none⟩) 1 c) (y : W4) (hw : Wd w g 0 y) (hn : n ≤ 1048576) (hbase : base ≤ w.heap.size)
    (h : ∀ v' w', w'.ownsRow base 30 4 v' (n + 1) (rowW (rput xs n y) (n + 1)) → w.grownBy w' v.ownBlock → K (a.put o.dst v') w') : o.wp Try.prog a w K Q := by
  obtain ⟨i0, hi, hz0, hz1, hz2⟩ := info_parts Try.infoW
  refine wp_append_own w s x 52 ho base 30 i0 _ 4 32 Try.underlying52 hi hz0 hz1 hz2 rfl (by decide) v n (rowW xs n) hs hown ⟨g, 0, none⟩ 1 c y.cs hx rfl hw.news y.one (by unfold maxLen; omega) (by omega) hbase fun v' w' h1 h2 _ => h v' w' ?_ h2
  rw [← rowW_snoc]; exact h1
theorem wpList_append_word {w : World} {ops : Array Oper} {rest : List Oper} {o : Oper} {a : Act} {Q : Exit → Act → World → Prop} (hgd : o.guard = none) (s x : Operand)
    (ho : o.op = .call { callee := .builtin .append, args := #[s, x], argTypes := #[52, 52] })
    (base : Nat) (v : Value) (n : Nat) (xs : Ring) (hs : a.eval s = v) (hown : w.ownsRow base 30 4 v n (rowW xs n)) (g : Nat) (c : Nat) (hx : a.eval x = .slice (some ⟨g, 0, none⟩) 1 c) (y : W4) (hw : Wd w g 0 y) (hn : n ≤ 1048576) (hbase : base ≤ w.heap.size)
    (h : ∀ v' w', w'.ownsRow base 30 4 v' (n + 1) (rowW (rput xs n y) (n + 1)) → w.grownBy w' v.ownBlock → wpList Try.prog ops Q rest (a.put o.dst v') w') : wpList Try.prog ops Q (o :: rest) a w :=
  wpList_plain hgd fun _ hK => wp_append_word s x ho base v n xs hs hown g c hx y hw hn hbase fun v' w' h1 h2 => hK _ _ (h v' w' h1 h2)
/-- v is a list of these m words, which can be read -/
structure Rd (W : World) (b a : Nat) (x : W4) : Prop where
  c0 : W.cell? ⟨b, a, none⟩ = some (.int .u64 x.a)
  c1 : W.cell? ⟨b, a + 1, none⟩ = some (.int .u64 x.b)
  c2 : W.cell? ⟨b, a + 2, none⟩ = some (.int .u64 x.c)
  c3 : W.cell? ⟨b, a + 3, none⟩ = some (.int .u64 x.d)
theorem Wd.rd {W : World} {b a : Nat} {x : W4} (h : Wd W b a x) : Rd W b a x := ⟨h.c0, h.c1, h.c2, h.c3⟩
theorem Rd.lt {W : World} {b a : Nat} {x : W4} (h : Rd W b a x) : b < W.heap.size := World.block_lt_of_cell? W _ h.c0
theorem Rd.past {W W' : World} {b a : Nat} {x : W4} (h : Rd W b a x) (k : Below W.heap.size W W') : Rd W' b a x :=
  ⟨(k.cell (p := ⟨b, _, none⟩) h.lt).trans h.c0, (k.cell (p := ⟨b, _, none⟩) h.lt).trans h.c1, (k.cell (p := ⟨b, _, none⟩) h.lt).trans h.c2, (k.cell (p := ⟨b, _, none⟩) h.lt).trans h.c3⟩
theorem Rd.below {W W' : World} {B b a : Nat} {x : W4} (h : Rd W b a x) (k : Below B W W') (hb : b < B) : Rd W' b a x :=
  ⟨(k.cell (p := ⟨b, _, none⟩) hb).trans h.c0, (k.cell (p := ⟨b, _, none⟩) hb).trans h.c1, (k.cell (p := ⟨b, _, none⟩) hb).trans h.c2, (k.cell (p := ⟨b, _, none⟩) hb).trans h.c3⟩
theorem Rd.only {W W' : World} {b c a : Nat} {x : W4} (h : Rd W b a x) (k : Only c W W') (hb : b ≠ c) : Rd W' b a x :=
  ⟨(k.cell (p := ⟨b, _, none⟩) h.lt hb).trans h.c0, (k.cell (p := ⟨b, _, none⟩) h.lt hb).trans h.c1, (k.cell (p := ⟨b, _, none⟩) h.lt hb).trans h.c2, (k.cell (p := ⟨b, _, none⟩) h.lt hb).trans h.c3⟩
def WL (W : World) (v : Value) (m : Nat) (x : Ring) : Prop := ∃ ad cap, v = .slice ad m cap ∧ (0 < m → ∃ g a, ad = some ⟨g, a, none⟩ ∧ ∀ i, i < m → Rd W g (a + i * 4) (x i))
theorem WL.past {W W' : World} {v : Value} {m : Nat} {x : Ring} (h : WL W v m x) (k : Below W.heap.size W W') : WL W' v m x := by
  obtain ⟨ad, cap, rfl, h1⟩ := h
  exact ⟨ad, cap, rfl, fun hm => by obtain ⟨g, a, e, h2⟩ := h1 hm; exact ⟨g, a, e, fun i hi => (h2 i hi).past k⟩⟩
theorem WordsIn.wl {W : World} {g a m c : Nat} {x : Ring} (h : WordsIn W g a m x) : WL W (.slice (some ⟨g, a, none⟩) m c) m x := ⟨_, _, rfl, fun _ => ⟨g, a, rfl, fun i hi => (h i hi).rd⟩⟩
theorem owns_words {W : World} {B : Nat} {v : Value} {m : Nat} {x : Ring} (h : W.ownsRow B 30 4 v m (rowW x m)) : ∃ ad cap, v = .slice ad m cap ∧ (0 < m → ∃ g, ad = some ⟨g, 0, none⟩ ∧ B ≤ g ∧ WordsIn W g 0 m x) := by
  have h' := h
  obtain ⟨_, ⟨rfl, rfl⟩ | ⟨g, c, cur, rfl, hb, hh, _⟩⟩ := h'
  · exact ⟨none, 0, rfl, fun e => absurd e (by omega)⟩
  · refine ⟨_, c, rfl, fun _ => ⟨g, rfl, hb, fun i hi => Wd.ofq fun q hq => ⟨?_, h.frozenAt _⟩⟩⟩
    rw [Nat.zero_add, h.cellAt (i * 4 + q) (by omega), rowW_at x m i q hi hq]
theorem owns_wl {W : World} {B : Nat} {v : Value} {m : Nat} {x : Ring} (h : W.ownsRow B 30 4 v m (rowW x m)) : WL W v m x := by
  obtain ⟨ad, cap, rfl, h1⟩ := owns_words h
  exact ⟨ad, cap, rfl, fun hm => by obtain ⟨g, e, _, h2⟩ := h1 hm; exact ⟨g, 0, e, fun i hi => (h2 i hi).rd⟩⟩
theorem grown_of_below {w w' : World} (h : Below w.heap.size w w') : w.grownBy w' none := ⟨h.os, h.tape, h.output, h.size, fun k hk _ => h.block k hk⟩
theorem owns_past {w w' : World} {B n s : Nat} {T : TypeId} {v : Value} {xs : List Value} (h : w.ownsRow B T s v n xs) (k : Below w.heap.size w w') : w'.ownsRow B T s v n xs :=
  h.kept (grown_of_below k) (by cases e : v.ownBlock with | none => exact Or.inl rfl | some x => exact Or.inr (by simp))
/-- what an append leaves of all that lies below its base -/
theorem grown_below {w W W2 : World} {B n s : Nat} {T : TypeId} {v : Value} {xs : List Value} (hB : Below B w W) (hBs : B ≤ W.heap.size) (hown : W.ownsRow B T s v n xs) (ob : Obj) (hg : (W.alloc ob).grownBy W2 v.ownBlock) : Below B w W2 :=
  Below.grown (hB.alloc hBs ob) hg (by simp; omega) (fun q h => (hown.lt q h).1)
set_option maxHeartbeats 2000000 in
set_option maxRecDepth 100000 in
theorem wordsR_is (w : World) (b : Nat) (f : Ring) (n : Int) (h : Stk w b 1 0 f n) (hn : n ≤ 4611686018427387904) : Calls Try.prog 50 #[.pointer (some ⟨b, 0, none⟩)] w fun e w' => ∃ v, e = .returned v ∧ WL w' v (cnt n) (told f n) ∧ Below w.heap.size w w' := by
  have cz := h.sz.1
  have hb := h.lt
  have hm := cnt_le n
  have em := cnt_eq n
  obtain ⟨F, eF⟩ : ∃ F : Int, F = max 0 (n - 1024) := ⟨_, rfl⟩
  have HF : Hid (0 ≤ F ∧ F ≤ 4611686018427387904 ∧ (n ≤ 0 → cnt n = 0) ∧ (0 < n → F + (cnt n : Int) = n)) := by unfold Hid; omega
  have TL : Hid (∀ k : Nat, k < cnt n → f (pl (F + (k : Int))) = told f n k) := fun k hk => by
    unfold told; congr 2; have := HF.out; omega
  have HS : Hid (Stk w b 1 0 f n) := h
  generalize cnt n = m at *
  clear h em
  go_enter Try.func50, Try.ntmps50
  go_upto_if 10 with fail
  go_cut [4] (fun s4 wx => s4 = .int .i64 F ∧ wx = w)
  case first =>
    by_cases h1 : 1024 < n
    · have e1 : n - 1024 = F := by omega
      clear eF
      go_wp2
      go_meet
      case rel => exact ⟨by first | rfl | rw [e1], rfl⟩
    · have e1 : F = 0 := by omega
      clear eF
      go_wp2
      go_meet
      case rel => exact ⟨by rw [e1], rfl⟩
  case rest =>
    obtain ⟨rfl, rfl⟩ := hcut
    have hF0 := HF.out.1
    have hF1 := HF.out.2.1
    clear eF
    go_wp2
    go_loopw [3, 5] (fun s3 si wr => ∃ k : Nat, k ≤ m ∧ si = .int .i64 (F + (k : Int)) ∧ wr.ownsRow wc.heap.size 30 4 s3 k (rowW (told f n) k) ∧ Below wc.heap.size wc wr) (fun _ si _ => (F + (m : Int) - intOf si).toNat)
    case atStart => exact ⟨0, by omega, by simp, World.ownsRow_nil _ _ _ _, Below.refl _ _⟩
    case round =>
      obtain ⟨k, hk, rfl, hown, hB⟩ := hrel
      have HOW : Hid _ := hown
      have HB : Hid _ := hB
      have cz2 := (hB.cell (p := ⟨b, 0, none⟩) hb).trans cz
      have HS2 : Hid (Stk wr b 1 0 f n) := HS.out.below hB hb
      have hsz := hB.size
      clear hown hB
      by_cases hkm : k < m
      · have hlt : F + (k : Int) < n := by have := HF.out; omega
        have kI : F + (k : Int) ≤ 4611686018427387904 := by omega
        have hp := pl_lt (F + (k : Int))
        have ek := TL.out k hkm
        have PL : Hid (∀ W, Calls Try.prog 51 #[.int .i64 (F + (k : Int)), .int .i64 1024] W fun e w' => e = .returned (.int .i64 (pl (F + (k : Int)) : Int)) ∧ w' = W) := fun W => placeR_is W _
        generalize pl (F + (k : Int)) = p at *
        have hpI : (p : Int) < 1024 := by omega
        obtain ⟨x, ex⟩ : ∃ x, f p = x := ⟨_, rfl⟩
        have WX : Hid (∀ W, Stk W b 1 0 f n → Wd W b (1 + p * 4) x) := fun W hW => by rw [← ex]; exact hW.wd p hp
        have RW : Hid (rowW (rput (told f n) k x) (k + 1) = rowW (told f n) (k + 1)) := rowW_ext _ fun i hi => by
          unfold rput; split
          · rename_i e; rw [e, ← ek, ex]
          · rfl
        clear ek ex
        obtain ⟨kF, ekF⟩ : ∃ kF : Int, F + (k : Int) = kF := ⟨_, rfl⟩
        have EKF : Hid (F + (k : Int) = kF) := ekF
        rw [ekF] at hlt kI PL
        rw [ekF]
        have kI0 : 0 ≤ kF := by omega
        clear ekF
        go_upto_region 8 with fail
        have OZ : Hid (wr.drew.ownsRow wc.heap.size 30 4 u3 k (rowW (told f n) k)) := owns_past HOW.out ((Below.refl _ _).drew)
        have BZ : Hid (Below wc.heap.size wc wr.drew) := HB.out.drew
        refine wp_region_held_drew (S := fun V' => Stk V' b 1 0 f n) (by kernel_rfl) HS2.out.drew (fun hHeld => ?_)
        generalize wr.drew = z0 at hHeld OZ BZ ⊢
        clear cz2 HS2
        refine wpAnyH_take (i := 0) (v := u3) ov0 (by kernel_rfl) (by kernel_rfl) (by kernel_rfl) (fun _ _ _ h => h) (Or.inl ⟨by rfl, fun V' hS => ?_⟩) hHeld ?_
        · go_simp
        simp only [Act.put, List.setIfInBounds_toArray, List.set_cons_zero, List.set_cons_succ]
        refine wpAnyH_take (i := 1) (v := .pointer (some ⟨b, 0, none⟩)) ov1 (by kernel_rfl) (by kernel_rfl) (by kernel_rfl) (fun _ _ _ h => h) (Or.inl ⟨by rfl, fun V' hS => ?_⟩) hHeld ?_
        · go_simp
        simp only [Act.put, List.setIfInBounds_toArray, List.set_cons_zero, List.set_cons_succ]
        refine wpAnyH_take (i := 2) (v := .int .i64 kF) ov2 (by kernel_rfl) (by kernel_rfl) (by kernel_rfl) (fun _ _ _ h => h) (Or.inl ⟨by rfl, fun V' hS => ?_⟩) hHeld ?_
        · go_simp
        simp only [Act.put, List.setIfInBounds_toArray, List.set_cons_zero, List.set_cons_succ]
        refine wpAnyH_take (i := 4) (v := .pointer (some ⟨b, 0, none⟩)) ov4 (by kernel_rfl) (by kernel_rfl) (by kernel_rfl) (fun _ _ _ h => h) (Or.inl ⟨by rfl, fun V' hS => ?_⟩) hHeld ?_
        · go_simp
        simp only [Act.put, List.setIfInBounds_toArray, List.set_cons_zero, List.set_cons_succ]
        refine wpAnyH_take (i := 5) (v := .pointer (some ⟨b, 1, none⟩)) ov5 (by kernel_rfl) (by kernel_rfl) (by kernel_rfl) (fun _ _ _ h => h) (Or.inl ⟨by rfl, fun V' hS => ?_⟩) hHeld ?_
        · go_simp
        simp only [Act.put, List.setIfInBounds_toArray, List.set_cons_zero, List.set_cons_succ]
        refine wpAnyH_ready (rs := [3]) (by kernel_rfl) (by simp) ?_
        refine AllReadyH.cons ov3 (fun K hK => ?_) AllReadyH.nil
        rw [if_pos (by rfl)]
        go_simp
        refine (PL.out z0).mono ?_
        rintro e w' ⟨rfl, hw⟩
        have hw2 := hw.symm
        clear hw
        subst hw2
        (try go_wp2_with fail)
        refine hK.out _ _ hHeld (fun _ => ?_)
        clear hK K
        (try simp only [Act.put, List.setIfInBounds_toArray, List.set_cons_zero, List.set_cons_succ])
        refine wpAnyH_take (i := 6) (v := .pointer (some ⟨b, 1 + p * 4, none⟩)) ov6 (by kernel_rfl) (by kernel_rfl) (by kernel_rfl) (fun _ _ _ h => h) (Or.inl ⟨by rfl, fun V' hS => ?_⟩) hHeld ?_
        · go_simp
        simp only [Act.put, List.setIfInBounds_toArray, List.set_cons_zero, List.set_cons_succ]
        refine wpAnyH_take (i := 7) (v := .agg #[.int .u64 x.a, .int .u64 x.b, .int .u64 x.c, .int .u64 x.d]) ov7 (by kernel_rfl) (by kernel_rfl) (by kernel_rfl) (fun _ _ _ h => h) (Or.inl ⟨by rfl, fun V' hS => ?_⟩) hHeld ?_
        · obtain ⟨c0, c1, c2, c3, _⟩ := WX.out _ hS
          go_simp
        simp only [Act.put, List.setIfInBounds_toArray, List.set_cons_zero, List.set_cons_succ]
        refine wpAnyH_ready (rs := [8]) (by kernel_rfl) (by simp) ?_
        refine AllReadyH.cons ov8 (fun K hK => ?_) AllReadyH.nil
        rw [if_pos (by rfl)]
        go_simp
        have hH2 : Stk (z0.alloc (.cells #[.int .u64 x.a, .int .u64 x.b, .int .u64 x.c, .int .u64 x.d] 30)) b 1 0 f n := hHeld.alloc _
        have WN : Hid (Wd (z0.alloc (.cells #[.int .u64 x.a, .int .u64 x.b, .int .u64 x.c, .int .u64 x.d] 30)) z0.heap.size 0 x) := Wd.new z0 _ x
        refine hK.out _ _ hH2 (fun _ => ?_)
        clear hK K
        (try simp only [Act.put, List.setIfInBounds_toArray, List.set_cons_zero, List.set_cons_succ])
        refine wpAnyH_ready (rs := [9]) (by kernel_rfl) (by simp) ?_
        refine AllReadyH.cons ov9 (fun K hK => ?_) AllReadyH.nil
        rw [if_pos (by rfl)]
        refine wp_append_word _ _ rfl wc.heap.size u3 k (told f n) rfl (OZ.out.alloc _) z0.heap.size 1 rfl x WN.out (by omega) (by have := BZ.out.size; simp; omega) ?_
        intro v' w2 h1 h2
        have R1 : Hid (w2.ownsRow wc.heap.size 30 4 v' (k + 1) (rowW (told f n) (k + 1)) ∧ Below wc.heap.size wc w2) := ⟨by rw [← RW.out]; exact h1, grown_below BZ.out BZ.out.size OZ.out _ h2⟩
        have hH3 : Stk w2 b 1 0 f n := HS.out.below R1.out.2 hb
        clear h1 h2 WN OZ
        refine hK.out _ _ hH3 (fun _ => ?_)
        clear hK K
        (try simp only [Act.put, List.setIfInBounds_toArray, List.set_cons_zero, List.set_cons_succ])
        refine wpAnyH_take (i := 10) (v := v') ov10 (by kernel_rfl) (by kernel_rfl) (by kernel_rfl) (fun _ _ _ h => h) (Or.inl ⟨by rfl, fun V' hS => ?_⟩) hH3 ?_
        · go_simp
        simp only [Act.put, List.setIfInBounds_toArray, List.set_cons_zero, List.set_cons_succ]
        refine wpAnyH_done (by kernel_rfl) ?_ _
        go_wp2
        go_roundw
        case rel => exact ⟨k + 1, by omega, by have := EKF.out; rw [← this]; simp; omega, R1.out⟩
        case measure => have := EKF.out; simp [intOf]; omega
      · obtain rfl : k = m := by omega
        have hlt : ¬ (F + (k : Int) < n) := by have := HF.out; omega
        go_wp2
        go_ret
        exact ⟨_, rfl, owns_wl HOW.out, HB.out⟩
theorem eq64_run (k : Nat) (x y : Int) (W : World) : Sem.run Try.prog (Op.equalIn (k+1) 28 (.int .u64 x) (.int .u64 y)) W = .ok (x == y) W := by
  simp [Op.equalIn, run_underlying Try.underlying28]
theorem size64 (W : World) : Sem.run Try.prog (sizeOf 28) W = .ok 1 W := by kernel_rfl
theorem part0 (a0 a1 a2 a3 : Int) (W : World) : Sem.run Try.prog (part 28 #[.int .u64 a0, .int .u64 a1, .int .u64 a2, .int .u64 a3] 0) W = .ok (.int .u64 a0) W := by kernel_rfl
theorem part1 (a0 a1 a2 a3 : Int) (W : World) : Sem.run Try.prog (part 28 #[.int .u64 a0, .int .u64 a1, .int .u64 a2, .int .u64 a3] 1) W = .ok (.int .u64 a1) W := by kernel_rfl
theorem part2 (a0 a1 a2 a3 : Int) (W : World) : Sem.run Try.prog (part 28 #[.int .u64 a0, .int .u64 a1, .int .u64 a2, .int .u64 a3] 2) W = .ok (.int .u64 a2) W := by kernel_rfl
theorem part3 (a0 a1 a2 a3 : Int) (W : World) : Sem.run Try.prog (part 28 #[.int .u64 a0, .int .u64 a1, .int .u64 a2, .int .u64 a3] 3) W = .ok (.int .u64 a3) W := by kernel_rfl
set_option maxRecDepth 100000 in
theorem eqw_self (a0 a1 a2 a3 : Int) (W : World) : Sem.run Try.prog (Op.equalIn 10000 30 (.agg #[.int .u64 a0, .int .u64 a1, .int .u64 a2, .int .u64 a3]) (.agg #[.int .u64 a0, .int .u64 a1, .int .u64 a2, .int .u64 a3])) W = .ok true W := by
  rw [show (10000 : Nat) = 9998 + 1 + 1 from rfl, Op.equalIn]
  simp only [Sem.run_bind, run_underlying Try.underlying30, Result.andThen_ok, size64, Std.Legacy.Range.forIn_eq_forIn_range', Std.Legacy.Range.size]
  simp [List.range', part0, part1, part2, part3, eq64_run]
set_option maxHeartbeats 2000000 in
set_option maxRecDepth 100000 in
theorem sameWords_is (w : World) (va vb : Value) (m : Nat) (x : Ring) (hm : m ≤ 1152921504606846976) (ha : WL w va m x) (hb : WL w vb m x) : Calls Try.prog 29 #[va, vb] w fun e w' => e = .returned (.bool true) ∧ Below w.heap.size w w' := by
  obtain ⟨aa, ca, rfl, ha⟩ := ha
  obtain ⟨ab, cb, rfl, hb⟩ := hb
  have HA : Hid _ := ha
  have HBB : Hid _ := hb
  have mI : (m : Int) ≤ 1152921504606846976 := by omega
  clear ha hb
  go_enter Try.func29, Try.ntmps29
  go_wp2
  go_loopw [5] (fun si wr => ∃ k : Nat, k ≤ m ∧ si = .int .i64 (k : Int) ∧ Below w.heap.size w wr) (fun si _ => (m : Int).toNat - (intOf si).toNat)
  case atStart => exact ⟨0, by omega, rfl, Below.refl _ _⟩
  case round =>
    obtain ⟨k, hk, rfl, hB⟩ := hrel
    have HB : Hid (Below w.heap.size w wr) := hB
    clear hB
    by_cases hkm : k < m
    · have kI : (k : Int) < (m : Int) := by omega
      obtain ⟨g, a, rfl, h1⟩ := HA.out (by omega)
      obtain ⟨g', a', rfl, h2⟩ := HBB.out (by omega)
      have r1 : Rd w g (a + k * 4) (x k) := h1 k hkm
      have r2 : Rd w g' (a' + k * 4) (x k) := h2 k hkm
      have s1 : Rd wr.drew g (a + k * 4) (x k) := r1.below HB.out.drew r1.lt
      have s2 : Rd wr.drew g' (a' + k * 4) (x k) := r2.below HB.out.drew r2.lt
      have BZ : Hid (Below w.heap.size w wr.drew) := HB.out.drew
      generalize x k = y at *
      clear h1 h2 r1 r2
      go_upto_region 6 with fail
      refine wp_region_held_drew (S := fun V' => Rd V' g (a + k * 4) y ∧ Rd V' g' (a' + k * 4) y) (by kernel_rfl) ⟨s1, s2⟩ (fun hHeld => ?_)
      generalize wr.drew = z0 at hHeld BZ ⊢
      refine wpAnyH_take (i := 0) (v := .slice (some ⟨g, a, none⟩) m ca) ov0 (by kernel_rfl) (by kernel_rfl) (by kernel_rfl) (fun _ _ _ h => h) (Or.inl ⟨by rfl, fun V' hS => ?_⟩) hHeld ?_
      · go_simp
      simp only [Act.put, List.setIfInBounds_toArray, List.set_cons_zero, List.set_cons_succ]
      refine wpAnyH_take (i := 1) (v := .int .i64 (k : Int)) ov1 (by kernel_rfl) (by kernel_rfl) (by kernel_rfl) (fun _ _ _ h => h) (Or.inl ⟨by rfl, fun V' hS => ?_⟩) hHeld ?_
      · go_simp
      simp only [Act.put, List.setIfInBounds_toArray, List.set_cons_zero, List.set_cons_succ]
      refine wpAnyH_take (i := 2) (v := .pointer (some ⟨g, a + k * 4, none⟩)) ov2 (by kernel_rfl) (by kernel_rfl) (by kernel_rfl) (fun _ _ _ h => h) (Or.inl ⟨by rfl, fun V' hS => ?_⟩) hHeld ?_
      · go_simp
      simp only [Act.put, List.setIfInBounds_toArray, List.set_cons_zero, List.set_cons_succ]
      refine wpAnyH_take (i := 3) (v := .agg #[.int .u64 y.a, .int .u64 y.b, .int .u64 y.c, .int .u64 y.d]) ov3 (by kernel_rfl) (by kernel_rfl) (by kernel_rfl) (fun _ _ _ h => h) (Or.inl ⟨by rfl, fun V' hS => ?_⟩) hHeld ?_
      · obtain ⟨c0, c1, c2, c3⟩ := hS.1
        go_simp
      simp only [Act.put, List.setIfInBounds_toArray, List.set_cons_zero, List.set_cons_succ]
      refine wpAnyH_take (i := 4) (v := .slice (some ⟨g', a', none⟩) m cb) ov4 (by kernel_rfl) (by kernel_rfl) (by kernel_rfl) (fun _ _ _ h => h) (Or.inl ⟨by rfl, fun V' hS => ?_⟩) hHeld ?_
      · go_simp
      simp only [Act.put, List.setIfInBounds_toArray, List.set_cons_zero, List.set_cons_succ]
      refine wpAnyH_take (i := 5) (v := .int .i64 (k : Int)) ov5 (by kernel_rfl) (by kernel_rfl) (by kernel_rfl) (fun _ _ _ h => h) (Or.inl ⟨by rfl, fun V' hS => ?_⟩) hHeld ?_
      · go_simp
      simp only [Act.put, List.setIfInBounds_toArray, List.set_cons_zero, List.set_cons_succ]
      refine wpAnyH_take (i := 6) (v := .pointer (some ⟨g', a' + k * 4, none⟩)) ov6 (by kernel_rfl) (by kernel_rfl) (by kernel_rfl) (fun _ _ _ h => h) (Or.inl ⟨by rfl, fun V' hS => ?_⟩) hHeld ?_
      · go_simp
      simp only [Act.put, List.setIfInBounds_toArray, List.set_cons_zero, List.set_cons_succ]
      refine wpAnyH_take (i := 7) (v := .agg #[.int .u64 y.a, .int .u64 y.b, .int .u64 y.c, .int .u64 y.d]) ov7 (by kernel_rfl) (by kernel_rfl) (by kernel_rfl) (fun _ _ _ h => h) (Or.inl ⟨by rfl, fun V' hS => ?_⟩) hHeld ?_
      · obtain ⟨c0, c1, c2, c3⟩ := hS.2
        go_simp
      simp only [Act.put, List.setIfInBounds_toArray, List.set_cons_zero, List.set_cons_succ]
      refine wpAnyH_take (i := 8) (v := .bool false) ov8 (by kernel_rfl) (by kernel_rfl) (by kernel_rfl) (fun _ _ _ h => h) (Or.inl ⟨by rfl, fun V' hS => ?_⟩) hHeld ?_
      · have hq := eqw_self y.a y.b y.c y.d V'
        go_simp
      simp only [Act.put, List.setIfInBounds_toArray, List.set_cons_zero, List.set_cons_succ]
      refine wpAnyH_done (by kernel_rfl) ?_ _
      clear s1 s2 hHeld
      go_wp2
      go_roundw
      case rel => exact ⟨k + 1, by omega, by simp, BZ.out⟩
      case measure => simp [intOf]; omega
    · obtain rfl : k = m := by omega
      go_wp2
      go_ret
      exact ⟨rfl, HB.out⟩
end Go.Proofs.Ytdddmebihkdkjaa
