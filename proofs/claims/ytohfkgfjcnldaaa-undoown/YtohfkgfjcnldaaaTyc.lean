/- seen. -/
import Derived.Test.YtohfkgfjcnldaaaTyb
namespace Go.Proofs.Ytohfkgfjcnldaaa
open Go.RowKit Go.Shelf
/-- while seen gathers -/
structure SE (w2 W : World) (xb : Nat) (A : List (Int × Int)) (i j : Nat) (ka : Option Addr) (kc : Nat) (va : Option Addr) (vc : Nat) : Prop where
  box : CBox W xb 67 [.slice ka i kc, .slice va j vc]
  rk : W.ownsRow 0 3 1 (.slice ka i kc) i (intsD ((A.map Prod.fst).take i))
  rv : W.ownsRow 0 3 1 (.slice va j vc) j (intsD ((A.map Prod.snd).take j))
  nk : ∀ q, Own ka q → w2.heap.size ≤ q
  nv : ∀ q, Own va q → w2.heap.size ≤ q
  ap : ∀ q, Own ka q → ¬ Own va q
  but : But (fun q => q = xb) w2 W
theorem SE.same {w2 W : World} {xb : Nat} {A : List (Int × Int)} {i j : Nat} {ka : Option Addr} {kc : Nat} {va : Option Addr} {vc : Nat} {W' : World} {T : Nat → Prop} (h : SE w2 W xb A i j ka kc va vc) (hB : But T W W') (h1 : ∀ q, T q → False) : SE w2 W' xb A i j ka kc va vc :=
  ⟨h.box.but hB (fun e => h1 _ e), row_new h.rk hB (fun _ _ e => h1 _ e), row_new h.rv hB (fun _ _ e => h1 _ e), h.nk, h.nv, h.ap, h.but.trans (hB.mono (fun q e => (h1 q e).elim))⟩
theorem SE.appK {w2 W : World} {xb : Nat} {A : List (Int × Int)} {i j : Nat} {ka : Option Addr} {kc : Nat} {va : Option Addr} {vc : Nat} {W1 W2 : World} {ka' : Option Addr} {kc' : Nat} (h : SE w2 W xb A i j ka kc va vc) (hA : But (fun _ => False) W W1) (h1 : W2.ownsRow 0 3 1 (.slice ka' (i + 1) kc') (i + 1) (intsD ((A.map Prod.fst).take (i + 1)))) (h2 : But (Own ka) W1 W2) (h3 : Fresh W1 ka ka') : SE w2 (W2.setCell ⟨xb, 0, none⟩ (.slice ka' (i + 1) kc')) xb A (i + 1) j ka' kc' va vc := by
  have hs := h.same hA (fun _ => id)
  have bx : CBox W2 xb 67 [.slice ka i kc, .slice va j vc] := hs.box.but h2 (fun e => row_box hs.rk hs.box (by decide) e rfl)
  have hS : But (fun k => k = xb) W2 (W2.setCell ⟨xb, 0, none⟩ (.slice ka' (i + 1) kc')) := (But.refl (fun k => k = xb) W2).setCell ⟨xb, 0, none⟩ _ (Or.inl rfl)
  have rv2 : W2.ownsRow 0 3 1 (.slice va j vc) j (intsD ((A.map Prod.snd).take j)) := row_new hs.rv h2 (fun q hq e => hs.ap q e hq)
  refine ⟨bx.set 0 _, row_new h1 hS (fun q hq => row_box h1 bx (by decide) hq), row_new rv2 hS (fun q hq => row_box rv2 bx (by decide) hq), fun q hq => ?_, h.nv, fun q hq hv => ?_, ?_⟩
  · rcases h3.own hq with e | e
    · exact h.nk q e
    · exact Nat.le_trans (Nat.le_trans h.but.size hA.size) e
  · rcases h3.own hq with e | e
    · exact h.ap q e hv
    · have := row_own_lt hs.rv hv
      omega
  · exact (hs.but.then (S' := Own ka) (fun q hq => Or.inr (h.nk q hq)) h2).trans hS
theorem SE.appV {w2 W : World} {xb : Nat} {A : List (Int × Int)} {i j : Nat} {ka : Option Addr} {kc : Nat} {va : Option Addr} {vc : Nat} {W1 W2 : World} {va' : Option Addr} {vc' : Nat} (h : SE w2 W xb A i j ka kc va vc) (hA : But (fun _ => False) W W1) (h1 : W2.ownsRow 0 3 1 (.slice va' (j + 1) vc') (j + 1) (intsD ((A.map Prod.snd).take (j + 1)))) (h2 : But (Own va) W1 W2) (h3 : Fresh W1 va va') : SE w2 (W2.setCell ⟨xb, 1, none⟩ (.slice va' (j + 1) vc')) xb A i (j + 1) ka kc va' vc' := by
  have hs := h.same hA (fun _ => id)
  have bx : CBox W2 xb 67 [.slice ka i kc, .slice va j vc] := hs.box.but h2 (fun e => row_box hs.rv hs.box (by decide) e rfl)
  have hS : But (fun k => k = xb) W2 (W2.setCell ⟨xb, 1, none⟩ (.slice va' (j + 1) vc')) := (But.refl (fun k => k = xb) W2).setCell ⟨xb, 1, none⟩ _ (Or.inl rfl)
  have rk2 : W2.ownsRow 0 3 1 (.slice ka i kc) i (intsD ((A.map Prod.fst).take i)) := row_new hs.rk h2 (fun q hq e => hs.ap q hq e)
  refine ⟨bx.set 1 _, row_new rk2 hS (fun q hq => row_box rk2 bx (by decide) hq), row_new h1 hS (fun q hq => row_box h1 bx (by decide) hq), h.nk, fun q hq => ?_, fun q hk hq => ?_, ?_⟩
  · rcases h3.own hq with e | e
    · exact h.nv q e
    · exact Nat.le_trans (Nat.le_trans h.but.size hA.size) e
  · rcases h3.own hq with e | e
    · exact h.ap q hk e
    · have := row_own_lt hs.rk hk
      omega
  · exact (hs.but.then (S' := Own va) (fun q hq => Or.inr (h.nv q hq)) h2).trans hS
theorem intsD_take {l : List Int} {i : Nat} {x : Int} (h : l[i]? = some x) : intsD (l.take i) ++ [.int .i64 x] = intsD (l.take (i + 1)) := by
  unfold intsD
  rw [List.take_add_one, h]
  simp
theorem SE.isK {w2 W : World} {xb : Nat} {A : List (Int × Int)} {n : Nat} {ka : Option Addr} {kc : Nat} {va : Option Addr} {vc : Nat} {ow : Nat → Nat} {W9 : World} {T : Nat → Prop} (h : SE w2 W xb A n n ka kc va vc) (hB : But T W W9) (hT : ∀ q, w2.heap.size ≤ q → ¬ T q) (hn : n = A.length) (ho : ∀ q, w2.heap.size ≤ q → ow q = 0) : IsI W9 ow (.slice ka n kc) (A.map Prod.fst) ∧ IsI W9 ow (.slice va n vc) (A.map Prod.snd) := by
  have rk := row_new h.rk hB (fun q hq => hT q (h.nk q hq))
  have rv := row_new h.rv hB (fun q hq => hT q (h.nv q hq))
  refine ⟨⟨ka, kc, by rw [List.length_map, hn], fun i x hx => ?_⟩, ⟨va, vc, by rw [List.length_map, hn], fun i x hx => ?_⟩⟩
  · have hi := (List.getElem?_eq_some_iff.1 hx).1
    rw [List.length_map] at hi
    obtain ⟨g, e, c, _⟩ := row_cell rk (j := i) (u := .int .i64 x) (by unfold intsD; rw [List.getElem?_map, List.getElem?_take_of_lt (by omega), hx]; rfl)
    exact ⟨g, e, ho g (h.nk g ⟨_, e, rfl⟩), c⟩
  · have hi := (List.getElem?_eq_some_iff.1 hx).1
    rw [List.length_map] at hi
    obtain ⟨g, e, c, _⟩ := row_cell rv (j := i) (u := .int .i64 x) (by unfold intsD; rw [List.getElem?_map, List.getElem?_take_of_lt (by omega), hx]; rfl)
    exact ⟨g, e, ho g (h.nv g ⟨_, e, rfl⟩), c⟩
theorem loadView {w : World} {x : Nat} {k v : Value} (c0 : w.cell? ⟨x, 0, none⟩ = some k) (c1 : w.cell? ⟨x, 1, none⟩ = some v) (hk : ∃ a n c, k = .slice a n c) (hv : ∃ a n c, v = .slice a n c) : (loadVar 67 ⟨x, 0, none⟩).run Try.prog w = .ok (.agg #[k, v]) w := by
  obtain ⟨a, n, c, rfl⟩ := hk
  obtain ⟨a', n', c', rfl⟩ := hv
  go_simp
set_option maxHeartbeats 4000000 in
set_option maxRecDepth 100000 in
theorem seen_is (w : World) (ow : Nat → Nat) (s b N : Nat) (A : List (Int × Int)) (H : List (List (Int × Int))) (h : T1 w ow s b N A H) (hN : N < 274877906944) : Calls Try.prog 40 #[.pointer (some ⟨b, 0, none⟩)] w fun e w' => ∃ vk vv, e = .returned (.agg #[vk, vv]) ∧ Below w.heap.size w w' ∧ IsI w' (grow ow w.heap.size 0) vk (A.map Prod.fst) ∧ IsI w' (grow ow w.heap.size 0) vv (A.map Prod.snd) := by
  have TB : Hid (∀ W, Below w.heap.size w W → T1 W (grow ow w.heap.size 0) s b N A H) := fun W hB => h.past hB
  obtain ⟨n, en⟩ : ∃ n, A.length = n := ⟨_, rfl⟩
  have EN : Hid (A.length = n) := en
  have HR : Hid (Ris A ∧ (∀ p ∈ A, I64 p.1) ∧ A.length ≤ N ∧ N < 274877906944) := ⟨h.ris, h.i64, h.lA, hN⟩
  have nX : (n : Int) < 274877906944 := by have := h.lA; omega
  have HG : Hid (∀ q, w.heap.size ≤ q → grow ow w.heap.size 0 q = 0) := fun q hq => grow_ge hq
  clear h hN en
  generalize grow ow w.heap.size 0 = o1 at TB HG ⊢
  have B1 : Hid (Below w.heap.size w ((w.alloc (.cells #[.slice none 0 0, .slice none 0 0] 67)).alloc (.cells #[.slice none 0 0, .slice none 0 0] 67))) := ((Below.refl _ w).alloc (Nat.le_refl _) _).alloc (by simp) _
  have X1 : Hid (CBox ((w.alloc (.cells #[.slice none 0 0, .slice none 0 0] 67)).alloc (.cells #[.slice none 0 0, .slice none 0 0] 67)) (w.alloc (.cells #[.slice none 0 0, .slice none 0 0] 67)).heap.size 67 [.slice none 0 0, .slice none 0 0]) := CBox.new _ _ [_, _]
  have R1 : Hid (CBox ((w.alloc (.cells #[.slice none 0 0, .slice none 0 0] 67)).alloc (.cells #[.slice none 0 0, .slice none 0 0] 67)) w.heap.size 67 [.slice none 0 0, .slice none 0 0]) := (CBox.new w _ [_, _]).but (S := fun _ => False) ((But.refl _ _).alloc _) id
  have NE : Hid (w.heap.size ≠ (w.alloc (.cells #[.slice none 0 0, .slice none 0 0] 67)).heap.size ∧ w.heap.size ≤ (w.alloc (.cells #[.slice none 0 0, .slice none 0 0] 67)).heap.size) := by
    have : (w.alloc (.cells #[.slice none 0 0, .slice none 0 0] 67)).heap.size = w.heap.size + 1 := by simp
    exact ⟨by omega, by omega⟩
  go_enter Try.func40, Try.ntmps40
  go_upto_region 2 with fail
  change Code.wp _ _ _ _ ((w.alloc (.cells #[.slice none 0 0, .slice none 0 0] 67)).alloc (.cells #[.slice none 0 0, .slice none 0 0] 67))
  have e9 : (w.alloc (.cells #[.slice none 0 0, .slice none 0 0] 67)).heap.size = w.heap.size + 1 := by simp
  rw [e9] at X1 NE
  clear e9
  generalize (w.alloc (.cells #[.slice none 0 0, .slice none 0 0] 67)).alloc (.cells #[.slice none 0 0, .slice none 0 0] 67) = w1 at B1 X1 R1 ⊢
  generalize w.heap.size + 1 = xb at X1 NE ⊢
  obtain ⟨rb, eb⟩ : ∃ rb, rb = w.heap.size := ⟨_, rfl⟩
  have EB : Hid (rb = w.heap.size) := eb
  rw [← eb] at R1 NE ⊢
  rw [eb]
  rw [← eb]
  clear eb
  go_upto_region 3 with (go_at_call 49; refine (keys1 w1 o1 s b N A H (TB.out w1 B1.out) (by have := HR.out; omega)).mono ?_; rintro e w2 ⟨rfl, hc, hB⟩; rw [EN.out])
  have K2 : Hid (CBox w2 w1.heap.size 3 (intsD (A.map Prod.fst)) ∧ w1.heap.size < w2.heap.size ∧ xb ≠ w1.heap.size) := ⟨hc, hc.lt, by have := X1.out.lt; omega⟩
  have B2 : Hid (Below w.heap.size w w2) := B1.out.trans (hB.mono B1.out.size)
  have S2 : Hid (SE w2 w2 xb A 0 0 none 0 none 0) := ⟨X1.out.but (below_but (S := fun _ => False) hB) id, World.ownsRow_nil _ _ _ _, World.ownsRow_nil _ _ _ _, fun q ⟨a, e, _⟩ => (by cases e), fun q ⟨a, e, _⟩ => (by cases e), fun q ⟨a, e, _⟩ => (by cases e), But.refl _ _⟩
  have R2 : Hid (CBox w2 rb 67 [.slice none 0 0, .slice none 0 0]) := R1.out.but (below_but (S := fun _ => False) hB) id
  clear hc hB X1 R1 B1
  generalize w1.heap.size = kb at K2 ⊢
  go_wp2
  go_loopw [5] (fun si wr => ∃ (i : Nat) (ka : Option Addr) (kc : Nat) (va : Option Addr) (vc : Nat), i ≤ n ∧ si = .int .i64 (i : Int) ∧ SE w2 wr xb A i i ka kc va vc) (fun si _ => n - (intOf si).toNat)
  case atStart => exact ⟨0, none, 0, none, 0, by omega, rfl, S2.out⟩
  case round =>
    obtain ⟨i, ka, kc, va, vc, hi, rfl, hx⟩ := hrel
    have S3 : Hid (SE w2 wr xb A i i ka kc va vc) := hx
    clear hx S2
    have BW : Hid (∀ W (i j : Nat) ka kc va vc, SE w2 W xb A i j ka kc va vc → Below w.heap.size w W) := fun W i j ka kc va vc h => B2.out.trans (h.but.below (fun q e => by have := NE.out; have := EB.out; omega) B2.out.size)
    by_cases e : i < n
    · have iI : (i : Int) < (n : Int) := by omega
      obtain ⟨⟨kx, vx⟩, hp⟩ : ∃ p, A[i]? = some p := ⟨_, List.getElem?_eq_getElem (by rw [EN.out]; exact e)⟩
      have PQ : Hid (getR A kx = some vx ∧ I64 kx ∧ (A.map Prod.fst)[i]? = some kx ∧ (A.map Prod.snd)[i]? = some vx) := by
        have ea : atL A i = (kx, vx) := by unfold atL; rw [hp]; rfl
        have eg := getR_at HR.out.1 (i := i) (by rw [EN.out]; exact e)
        rw [ea] at eg
        exact ⟨eg, HR.out.2.1 (kx, vx) (List.mem_iff_getElem?.2 ⟨i, hp⟩), by rw [List.getElem?_map, hp]; rfl, by rw [List.getElem?_map, hp]; rfl⟩
      have KC : Hid (∀ W (i' j : Nat) ka kc va vc, SE w2 W xb A i' j ka kc va vc → W.cell? ⟨kb, i, none⟩ = some (.int .i64 kx)) := fun W i' j ka kc va vc h => by
        have := (K2.out.1.but h.but (fun e => K2.out.2.2 e.symm)).cell i
        rw [this]
        unfold intsD
        rw [List.getElem?_map, PQ.out.2.2.1]
        rfl
      have GT : Hid (Calls Try.prog 44 #[.pointer (some ⟨b, 0, none⟩), .int .i64 kx] wr fun e w' => e = .returned (.tuple #[.int .i64 vx, .bool true]) ∧ w' = wr) := by
        have := get1 wr o1 s b N A H (TB.out wr (BW.out _ _ _ _ _ _ _ S3.out)) kx PQ.out.2.1 (by have := HR.out; omega)
        rw [PQ.out.1] at this
        exact this
      have d0 := KC.out _ _ _ _ _ _ _ S3.out
      clear hp
      go_upto_region 7 with (go_at_call 44; refine (GT.out).mono ?_; rintro e w' ⟨rfl, hw⟩; (have hw2 := hw.symm); clear hw; subst hw2)
      clear GT d0
      have S4 : Hid (SE w2 wr.drew xb A i i ka kc va vc) := S3.out.same (T := fun _ => False) ((But.refl _ _).drew) (fun _ => id)
      refine wp_region_held_drew (S := fun V' => V'.cell? ⟨kb, i, none⟩ = some (.int .i64 kx)) (by kernel_rfl) (KC.out _ _ _ _ _ _ _ S4.out) (fun hHeld => ?_)
      generalize wr.drew = z0 at hHeld S4 ⊢
      refine wpAnyH_take (i := 0) (v := .pointer (some ⟨xb, 0, none⟩)) ov0 (by kernel_rfl) (by kernel_rfl) (by kernel_rfl) (fun _ _ _ h => h) (Or.inl ⟨by rfl, fun V' hS => ?_⟩) hHeld ?_
      · go_simp
      simp only [Act.put, List.setIfInBounds_toArray, List.set_cons_zero, List.set_cons_succ]
      refine wpAnyH_take (i := 2) (v := .slice (some ⟨kb, 0, none⟩) n n) ov2 (by kernel_rfl) (by kernel_rfl) (by kernel_rfl) (fun _ _ _ h => h) (Or.inl ⟨by rfl, fun V' hS => ?_⟩) hHeld ?_
      · go_simp
      simp only [Act.put, List.setIfInBounds_toArray, List.set_cons_zero, List.set_cons_succ]
      refine wpAnyH_take (i := 3) (v := .int .i64 (i : Int)) ov3 (by kernel_rfl) (by kernel_rfl) (by kernel_rfl) (fun _ _ _ h => h) (Or.inl ⟨by rfl, fun V' hS => ?_⟩) hHeld ?_
      · go_simp
      simp only [Act.put, List.setIfInBounds_toArray, List.set_cons_zero, List.set_cons_succ]
      refine wpAnyH_take (i := 4) (v := .pointer (some ⟨kb, i, none⟩)) ov4 (by kernel_rfl) (by kernel_rfl) (by kernel_rfl) (fun _ _ _ h => h) (Or.inl ⟨by rfl, fun V' hS => ?_⟩) hHeld ?_
      · go_simp
      simp only [Act.put, List.setIfInBounds_toArray, List.set_cons_zero, List.set_cons_succ]
      refine wpAnyH_take (i := 5) (v := .int .i64 kx) ov5 (by kernel_rfl) (by kernel_rfl) (by kernel_rfl) (fun _ _ _ h => h) (Or.inl ⟨by rfl, fun V' hS => ?_⟩) hHeld ?_
      · go_simp
      simp only [Act.put, List.setIfInBounds_toArray, List.set_cons_zero, List.set_cons_succ]
      refine wpAnyH_ready (rs := [1, 6]) (by kernel_rfl) (by simp) ?_
      refine AllReadyH.cons ov1 (fun K hK => ?_) (AllReadyH.cons ov6 (fun K hK => ?_) AllReadyH.nil)
      · rw [if_pos (by rfl)]
        first | (have k0 := S5.out.box.cell 0; change _ = some (Value.slice ka i kc) at k0; go_simp; clear k0) | (have k0 := S4.out.box.cell 0; change _ = some (Value.slice ka i kc) at k0; go_simp; clear k0)
        refine hK.out _ _ hHeld (fun _ => ?_)
        clear hK K
        (try simp only [Act.put, List.setIfInBounds_toArray, List.set_cons_zero, List.set_cons_succ])
        refine wpAnyH_ready (rs := [6]) (by kernel_rfl) (by simp) ?_
        refine AllReadyH.cons ov6 (fun K hK => ?_) AllReadyH.nil
        rw [if_pos (by rfl)]
        go_simp
        have S5 : Hid (SE w2 (z0.alloc (.cells #[.int .i64 kx] 3)) xb A i i ka kc va vc) := S4.out.same (T := fun _ => False) ((But.refl _ _).alloc _) (fun _ => id)
        have HC : Hid (CBox (z0.alloc (.cells #[.int .i64 kx] 3)) z0.heap.size 3 [.int .i64 kx]) := CBox.new z0 _ _
        have hH2 : (z0.alloc (.cells #[.int .i64 kx] 3)).cell? ⟨kb, i, none⟩ = some (.int .i64 kx) := KC.out _ _ _ _ _ _ _ S5.out
        refine hK.out _ (z0.alloc (.cells #[.int .i64 kx] 3)) hH2 (fun _ => ?_)
        clear hK K
        (try simp only [Act.put, List.setIfInBounds_toArray, List.set_cons_zero, List.set_cons_succ])
        refine wpAnyH_ready (rs := [7]) (by kernel_rfl) (by simp) ?_
        refine AllReadyH.cons ov7 (fun K hK => ?_) AllReadyH.nil
        rw [if_pos (by rfl)]
        refine wp_app _ _ 65 3 rfl (.int .i64 0) 1 8 und_ints info_int rfl (by decide) (by decide) ka i kc (intsD ((A.map Prod.fst).take i)) rfl S5.out.rk z0.heap.size 1 [.int .i64 kx] rfl HC.out rfl (by simp [Value.oneCell']) (by omega) ?_
        intro ka' kc' v2 h1 h2 h3
        have Q6 : Hid (CBox v2 xb 67 [.slice ka i kc, .slice va i vc]) := S5.out.box.but h2 (fun e => row_box S5.out.rk S5.out.box (by decide) e rfl)
        have S6 : Hid (SE w2 (v2.setCell ⟨xb, 0, none⟩ (.slice ka' (i + 1) kc')) xb A (i + 1) i ka' kc' va vc) := S4.out.appK ((But.refl _ _).alloc _) (by rw [← intsD_take PQ.out.2.2.1]; exact h1) h2 h3
        have hH3 : v2.cell? ⟨kb, i, none⟩ = some (.int .i64 kx) := (h2.cell (p := ⟨kb, i, none⟩) (World.block_lt_of_cell? _ _ hH2) (fun e => by have h9 : w2.heap.size ≤ kb := S5.out.nk _ e; have := K2.out; omega)).trans hH2
        clear h1 h2 h3 HC
        refine hK.out _ _ hH3 (fun _ => ?_)
        clear hK K
        (try simp only [Act.put, List.setIfInBounds_toArray, List.set_cons_zero, List.set_cons_succ])
        refine wpAnyH_take (i := 8) (v := .pointer (some ⟨xb, 0, none⟩)) ov8 (by kernel_rfl) (by kernel_rfl) (by kernel_rfl) (fun _ _ _ h => h) (Or.inl ⟨by rfl, fun V' hS => ?_⟩) hH3 ?_
        · go_simp
        simp only [Act.put, List.setIfInBounds_toArray, List.set_cons_zero, List.set_cons_succ]
        refine wpAnyH_ready (rs := [9]) (by kernel_rfl) (by simp) ?_
        refine AllReadyH.cons ov9 (fun K hK => ?_) AllReadyH.nil
        rw [if_pos (by rfl)]
        have k0 : v2.cell? ⟨xb, 0, none⟩ = some (.slice ka i kc) := Q6.out.cell 0
        have k1 : v2.frozen? ⟨xb, 0, none⟩ = false := Q6.out.frozen 0
        go_simp
        clear k0 k1
        have hH4 : (v2.setCell ⟨xb, 0, none⟩ (.slice ka' (i + 1) kc')).cell? ⟨kb, i, none⟩ = some (.int .i64 kx) := KC.out _ _ _ _ _ _ _ S6.out
        refine hK.out _ (v2.setCell ⟨xb, 0, none⟩ (.slice ka' (i + 1) kc')) hH4 (fun _ => ?_)
        clear hK K
        (try simp only [Act.put, List.setIfInBounds_toArray, List.set_cons_zero, List.set_cons_succ])
        generalize v2.setCell ⟨xb, 0, none⟩ (.slice ka' (i + 1) kc') = v3 at S6 hH4 ⊢
        refine wpAnyH_done (by kernel_rfl) ?_ _
        clear S3 S4 S5
        have c1 : v3.cell? ⟨xb, 1, none⟩ = some (.slice va i vc) := S6.out.box.cell 1
        have f1 : v3.frozen? ⟨xb, 1, none⟩ = false := S6.out.box.frozen 1
        have HC8 : Hid (CBox (v3.alloc (.cells #[.int .i64 vx] 3)) v3.heap.size 3 [.int .i64 vx]) := CBox.new v3 _ _
        go_wp2_with (at_builtin; refine wpList_app rfl _ _ 65 3 rfl (.int .i64 0) 1 8 und_ints info_int rfl (by decide) (by decide) va i vc (intsD ((A.map Prod.snd).take i)) rfl (S6.out.same (T := fun _ => False) ((But.refl _ _).alloc _) (fun _ => id)).rv v3.heap.size 1 [.int .i64 vx] rfl HC8.out rfl (by simp [Value.oneCell']) (by omega) ?_; intro va' vc' v4 h1 h2 h3; (have Q8 : Hid (CBox v4 xb 67 [.slice ka' (i + 1) kc', .slice va i vc]) := (S6.out.box.but (S := fun _ => False) ((But.refl _ _).alloc _) id).but h2 (fun e => row_box (S6.out.same (T := fun _ => False) ((But.refl _ _).alloc (.cells #[.int .i64 vx] 3)) (fun _ => id)).rv (S6.out.box.but (S := fun _ => False) ((But.refl _ _).alloc _) id) (by decide) e rfl)); (have S8 : Hid (SE w2 (v4.setCell ⟨xb, 1, none⟩ (.slice va' (i + 1) vc')) xb A (i + 1) (i + 1) ka' kc' va' vc') := S6.out.appV ((But.refl _ _).alloc _) (by rw [← intsD_take PQ.out.2.2.2]; exact h1) h2 h3); clear h1 h2 h3 c1 f1; (have c1 : v4.cell? ⟨xb, 1, none⟩ = some (.slice va i vc) := Q8.out.cell 1); (have f1 : v4.frozen? ⟨xb, 1, none⟩ = false := Q8.out.frozen 1))
        go_roundw
        case rel => exact ⟨i + 1, ka', kc', va', vc', by omega, by go_num, S8.out⟩
        case measure => simp [intOf]; omega
      · rw [if_pos (by rfl)]
        go_simp
        have S5 : Hid (SE w2 (z0.alloc (.cells #[.int .i64 kx] 3)) xb A i i ka kc va vc) := S4.out.same (T := fun _ => False) ((But.refl _ _).alloc _) (fun _ => id)
        have HC : Hid (CBox (z0.alloc (.cells #[.int .i64 kx] 3)) z0.heap.size 3 [.int .i64 kx]) := CBox.new z0 _ _
        have hH2 : (z0.alloc (.cells #[.int .i64 kx] 3)).cell? ⟨kb, i, none⟩ = some (.int .i64 kx) := KC.out _ _ _ _ _ _ _ S5.out
        refine hK.out _ (z0.alloc (.cells #[.int .i64 kx] 3)) hH2 (fun _ => ?_)
        clear hK K
        (try simp only [Act.put, List.setIfInBounds_toArray, List.set_cons_zero, List.set_cons_succ])
        refine wpAnyH_ready (rs := [1]) (by kernel_rfl) (by simp) ?_
        refine AllReadyH.cons ov1 (fun K hK => ?_) AllReadyH.nil
        rw [if_pos (by rfl)]
        first | (have k0 := S5.out.box.cell 0; change _ = some (Value.slice ka i kc) at k0; go_simp; clear k0) | (have k0 := S4.out.box.cell 0; change _ = some (Value.slice ka i kc) at k0; go_simp; clear k0)
        refine hK.out _ _ hH2 (fun _ => ?_)
        clear hK K
        (try simp only [Act.put, List.setIfInBounds_toArray, List.set_cons_zero, List.set_cons_succ])
        refine wpAnyH_ready (rs := [7]) (by kernel_rfl) (by simp) ?_
        refine AllReadyH.cons ov7 (fun K hK => ?_) AllReadyH.nil
        rw [if_pos (by rfl)]
        refine wp_app _ _ 65 3 rfl (.int .i64 0) 1 8 und_ints info_int rfl (by decide) (by decide) ka i kc (intsD ((A.map Prod.fst).take i)) rfl S5.out.rk z0.heap.size 1 [.int .i64 kx] rfl HC.out rfl (by simp [Value.oneCell']) (by omega) ?_
        intro ka' kc' v2 h1 h2 h3
        have Q6 : Hid (CBox v2 xb 67 [.slice ka i kc, .slice va i vc]) := S5.out.box.but h2 (fun e => row_box S5.out.rk S5.out.box (by decide) e rfl)
        have S6 : Hid (SE w2 (v2.setCell ⟨xb, 0, none⟩ (.slice ka' (i + 1) kc')) xb A (i + 1) i ka' kc' va vc) := S4.out.appK ((But.refl _ _).alloc _) (by rw [← intsD_take PQ.out.2.2.1]; exact h1) h2 h3
        have hH3 : v2.cell? ⟨kb, i, none⟩ = some (.int .i64 kx) := (h2.cell (p := ⟨kb, i, none⟩) (World.block_lt_of_cell? _ _ hH2) (fun e => by have h9 : w2.heap.size ≤ kb := S5.out.nk _ e; have := K2.out; omega)).trans hH2
        clear h1 h2 h3 HC
        refine hK.out _ _ hH3 (fun _ => ?_)
        clear hK K
        (try simp only [Act.put, List.setIfInBounds_toArray, List.set_cons_zero, List.set_cons_succ])
        refine wpAnyH_take (i := 8) (v := .pointer (some ⟨xb, 0, none⟩)) ov8 (by kernel_rfl) (by kernel_rfl) (by kernel_rfl) (fun _ _ _ h => h) (Or.inl ⟨by rfl, fun V' hS => ?_⟩) hH3 ?_
        · go_simp
        simp only [Act.put, List.setIfInBounds_toArray, List.set_cons_zero, List.set_cons_succ]
        refine wpAnyH_ready (rs := [9]) (by kernel_rfl) (by simp) ?_
        refine AllReadyH.cons ov9 (fun K hK => ?_) AllReadyH.nil
        rw [if_pos (by rfl)]
        have k0 : v2.cell? ⟨xb, 0, none⟩ = some (.slice ka i kc) := Q6.out.cell 0
        have k1 : v2.frozen? ⟨xb, 0, none⟩ = false := Q6.out.frozen 0
        go_simp
        clear k0 k1
        have hH4 : (v2.setCell ⟨xb, 0, none⟩ (.slice ka' (i + 1) kc')).cell? ⟨kb, i, none⟩ = some (.int .i64 kx) := KC.out _ _ _ _ _ _ _ S6.out
        refine hK.out _ (v2.setCell ⟨xb, 0, none⟩ (.slice ka' (i + 1) kc')) hH4 (fun _ => ?_)
        clear hK K
        (try simp only [Act.put, List.setIfInBounds_toArray, List.set_cons_zero, List.set_cons_succ])
        generalize v2.setCell ⟨xb, 0, none⟩ (.slice ka' (i + 1) kc') = v3 at S6 hH4 ⊢
        refine wpAnyH_done (by kernel_rfl) ?_ _
        clear S3 S4 S5
        have c1 : v3.cell? ⟨xb, 1, none⟩ = some (.slice va i vc) := S6.out.box.cell 1
        have f1 : v3.frozen? ⟨xb, 1, none⟩ = false := S6.out.box.frozen 1
        have HC8 : Hid (CBox (v3.alloc (.cells #[.int .i64 vx] 3)) v3.heap.size 3 [.int .i64 vx]) := CBox.new v3 _ _
        go_wp2_with (at_builtin; refine wpList_app rfl _ _ 65 3 rfl (.int .i64 0) 1 8 und_ints info_int rfl (by decide) (by decide) va i vc (intsD ((A.map Prod.snd).take i)) rfl (S6.out.same (T := fun _ => False) ((But.refl _ _).alloc _) (fun _ => id)).rv v3.heap.size 1 [.int .i64 vx] rfl HC8.out rfl (by simp [Value.oneCell']) (by omega) ?_; intro va' vc' v4 h1 h2 h3; (have Q8 : Hid (CBox v4 xb 67 [.slice ka' (i + 1) kc', .slice va i vc]) := (S6.out.box.but (S := fun _ => False) ((But.refl _ _).alloc _) id).but h2 (fun e => row_box (S6.out.same (T := fun _ => False) ((But.refl _ _).alloc (.cells #[.int .i64 vx] 3)) (fun _ => id)).rv (S6.out.box.but (S := fun _ => False) ((But.refl _ _).alloc _) id) (by decide) e rfl)); (have S8 : Hid (SE w2 (v4.setCell ⟨xb, 1, none⟩ (.slice va' (i + 1) vc')) xb A (i + 1) (i + 1) ka' kc' va' vc') := S6.out.appV ((But.refl _ _).alloc _) (by rw [← intsD_take PQ.out.2.2.2]; exact h1) h2 h3); clear h1 h2 h3 c1 f1; (have c1 : v4.cell? ⟨xb, 1, none⟩ = some (.slice va i vc) := Q8.out.cell 1); (have f1 : v4.frozen? ⟨xb, 1, none⟩ = false := Q8.out.frozen 1))
        go_roundw
        case rel => exact ⟨i + 1, ka', kc', va', vc', by omega, by go_num, S8.out⟩
        case measure => simp [intOf]; omega
    · have iI : ¬ (i : Int) < (n : Int) := by omega
      obtain rfl : i = n := by omega
      have c0 : wr.cell? ⟨xb, 0, none⟩ = some (.slice ka i kc) := S3.out.box.cell 0
      have c1 : wr.cell? ⟨xb, 1, none⟩ = some (.slice va i vc) := S3.out.box.cell 1
      have R3 : Hid (CBox wr rb 67 [.slice none 0 0, .slice none 0 0]) := R2.out.but S3.out.but NE.out.1
      have r0 : wr.cell? ⟨rb, 0, none⟩ = some (.slice none 0 0) := R3.out.cell 0
      have r1 : wr.cell? ⟨rb, 1, none⟩ = some (.slice none 0 0) := R3.out.cell 1
      have y0 : wr.frozen? ⟨rb, 0, none⟩ = false := R3.out.frozen 0
      have y1 : wr.frozen? ⟨rb, 1, none⟩ = false := R3.out.frozen 1
      go_wp2
      have X8 : CBox ((wr.setCell ⟨rb, 0, none⟩ (.slice ka i kc)).setCell ⟨rb, 1, none⟩ (.slice va i vc)) rb 67 [.slice ka i kc, .slice va i vc] := (R3.out.set 0 _).set 1 _
      have S8 : But (fun k => k = rb) wr ((wr.setCell ⟨rb, 0, none⟩ (.slice ka i kc)).setCell ⟨rb, 1, none⟩ (.slice va i vc)) := ((But.refl (fun k => k = rb) wr).setCell ⟨rb, 0, none⟩ _ (Or.inl rfl)).setCell ⟨rb, 1, none⟩ _ (Or.inl rfl)
      have bw := BW.out _ _ _ _ _ _ _ S3.out
      have IS := S3.out.isK (ow := o1) S8 (fun q hq e => by have h9 := R2.out.lt; omega) EN.out.symm (fun q hq => HG.out q (Nat.le_trans B2.out.size hq))
      generalize (wr.setCell ⟨rb, 0, none⟩ (.slice ka i kc)).setCell ⟨rb, 1, none⟩ (.slice va i vc) = W9 at X8 S8 IS ⊢
      refine bodyPost_ret (v := .agg #[.slice ka i kc, .slice va i vc]) (results_cellr rfl _ _ _ ⟨rb, 0, none⟩ rfl (loadView (X8.cell 0) (X8.cell 1) ⟨_, _, _, rfl⟩ ⟨_, _, _, rfl⟩)) rfl ⟨_, _, rfl, ?_, ?_⟩
      · exact bw.trans (S8.below (fun q e => by have := EB.out; omega) bw.size)
      · exact IS
end Go.Proofs.Ytohfkgfjcnldaaa
