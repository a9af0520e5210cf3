/- Package container: headerOf, the header's write. -/
import Derived.Test.YtndhabhlajldeaaBkh
namespace Go.Proofs.Ytndhabhlajldeaa
open Go.RowKit
theorem results_c {fn : Func} {p : Tmp} {ty : TypeId} (h : fn.results = #[.cell p ty]) (tmps : Array Value) (P : Program) (w : World) (a : Addr) (ha : tmps.getD p undef = .pointer (some a)) {v : Value} (hl : (loadVar ty a).run P w = .ok v w) : (results fn tmps).run P w = .ok v w := by
  have ha' : tmps[p]?.getD undef = .pointer (some a) := by simpa using ha
  simp only [results, h]
  simp [ha', hl, asAddr]
theorem results_ct {fn : Func} {p q : Tmp} {ty : TypeId} (h : fn.results = #[.cell p ty, .tmp q]) (tmps : Array Value) (P : Program) (w : World) (a : Addr) (ha : tmps.getD p undef = .pointer (some a)) {v u : Value} (hq : tmps.getD q undef = u) (hl : (loadVar ty a).run P w = .ok v w) : (results fn tmps).run P w = .ok (.tuple #[v, u]) w := by
  have ha' : tmps[p]?.getD undef = .pointer (some a) := by simpa using ha
  have hq' : tmps[q]?.getD undef = u := by simpa using hq
  simp only [results, h]
  simp [ha', hq', hl, asAddr]
theorem CBox.range {W : World} {B : Nat} {t : TypeId} {l : List Value} (h : CBox W B t l) : W.rangeAt B 0 l := fun j v hv => by rw [Nat.zero_add, h.cell]; exact hv
theorem CBox.app {B s n n' b : Nat} {W W' : World} {v v' : Value} {t : TypeId} {l cs cs' : List Value} (h : CBox W b t l) (k : App B 5 s W W' v v' n cs) (hv : W.ownsRow B 5 s v n' cs') (ht : t ≠ 5) : CBox W' b t l := by
  refine h.but k.but fun hg => ?_
  rcases hv.2 with ⟨rfl, _⟩ | ⟨g', c, cur, rfl, _, hh, _⟩
  · cases hg
  · injection hg with hg
    subst hg
    rw [show W.heap[g']? = _ from h] at hh
    cases hh
    exact ht rfl
/-- a header that is being written -/
structure Wr (B bx : Nat) (w W : World) (cv sv : Value) (cs ss : List Nat) (d : Nat) (v0 v : Value) (l : List Nat) : Prop where
  app : App B 5 1 w W v0 v l.length (bV l)
  box : CBox W bx 84 [cv, sv, .int .u64 (d : Int)]
  uc : UL W cv cs
  us : UL W sv ss
  hB : B ≤ w.heap.size
section
variable {B bx d : Nat} {w W W' : World} {cv sv v0 v v' : Value} {cs ss l l' : List Nat}
theorem Wr.le (h : Wr B bx w W cv sv cs ss d v0 v l) : B ≤ W.heap.size := Nat.le_trans h.hB h.app.but.size
theorem Wr.past (h : Wr B bx w W cv sv cs ss d v0 v l) (k : Below W.heap.size W W') : Wr B bx w W' cv sv cs ss d v0 v l := ⟨h.app.then k, h.box.past k, h.uc.past k, h.us.past k, h.hB⟩
theorem Wr.step (h : Wr B bx w W cv sv cs ss d v0 v l) (k : App B 5 1 W W' v v' l'.length (bV l')) : Wr B bx w W' cv sv cs ss d v0 v' l' := ⟨h.app.trans k, h.box.app k h.app.row (by decide), h.uc.app k h.app.row, h.us.app k h.app.row, h.hB⟩
end
set_option maxHeartbeats 4000000 in
set_option maxRecDepth 100000 in
theorem write_is (w : World) (B : Nat) (hB : B ≤ w.heap.size) (v : Value) (l : List Nat) (hv : w.ownsRow B 5 1 v l.length (bV l)) (cv sv : Value) (cs ss : List Nat) (d : Nat) (hc : UL w cv cs) (hs : UL w sv ss) (hx : ∀ x ∈ cs, x < 18446744073709551616) (hy : ∀ x ∈ ss, x < 18446744073709551616) (hn : cs.length ≤ 16777216) (hm : ss.length ≤ 16777216) (hd9 : d < 18446744073709551616) (hl : l.length ≤ 1048576) :
    Calls Try.prog 75 #[.agg #[cv, sv, .int .u64 (d : Int)], v] w fun e w' => ∃ v', e = .returned v' ∧ App B 5 1 w w' v v' (l ++ hd cs ss d).length (bV (l ++ hd cs ss d)) := by
  obtain ⟨ca, rfl⟩ := hc.len
  obtain ⟨sa, rfl⟩ := hs.len
  obtain ⟨F, hF⟩ : ∃ F, F = l ++ hd cs ss d := ⟨_, rfl⟩
  rw [← hF]
  unfold hd at hF
  have HW : Hid (cs.length ≤ 16777216 ∧ ss.length ≤ 16777216 ∧ l.length ≤ 1048576 ∧ d < 18446744073709551616) := ⟨hn, hm, hl, hd9⟩
  have HX : Hid ((∀ x ∈ cs, x < 18446744073709551616) ∧ ∀ x ∈ ss, x < 18446744073709551616) := ⟨hx, hy⟩
  generalize hN : cs.length = n at *
  generalize hM : ss.length = m at *
  have EN : Hid (cs.length = n ∧ ss.length = m) := ⟨hN, hM⟩
  have nI : (n : Int) ≤ 16777216 := by omega
  have mI : (m : Int) ≤ 16777216 := by omega
  have M : Hid (Wr B w.heap.size w (w.alloc (.cells #[.slice ca n n, .slice sa m m, .int .u64 (d : Int)] 84)) (.slice ca n n) (.slice sa m m) cs ss d v v l) := ⟨(App.refl hv).then (below_alloc _ _), CBox.new _ _ [_, _, _], hc.past (below_alloc _ _), hs.past (below_alloc _ _), hB⟩
  have HF : Hid (F = l ++ ([239, 0, 1] ++ ([1] ++ dig 2 (4 * n)) ++ ([2] ++ dig 2 n ++ cs.flatMap (dig 2)) ++ (if m = 0 then [] else [3] ++ dig 2 m ++ ss.flatMap (dig 4)) ++ ([255] ++ dig 2 d) ++ [0])) := hF
  obtain ⟨q, hq⟩ : ∃ q : Nat, q = 4 * n := ⟨_, rfl⟩
  have HLN : Hid ((dig 2 q).length = 2 ∧ (dig 2 cs.length).length = 2 ∧ (cs.flatMap (dig 2)).length = 2 * cs.length ∧ (dig 2 ss.length).length = 2 ∧ (ss.flatMap (dig 4)).length = 4 * ss.length ∧ (dig 2 d).length = 2) := ⟨dig_len _ _, dig_len _ _, flat_len _ _, dig_len _ _, flat_len _ _, dig_len _ _⟩
  have r1 : (4 : Int) * (n : Int) = (q : Int) := by omega
  have wn : IntKind.u64.wrap (n : Int) = (n : Int) := by rw [IntKind.wrap_u64]; omega
  have wq : IntKind.u64.wrap (q : Int) = (q : Int) := by rw [IntKind.wrap_u64]; omega
  have HQ : Hid (q = 4 * n) := hq
  clear hv hc hs hx hy hn hm hl hB hN hM hF hq hd9
  go_enter Try.func75, Try.ntmps75
  go_upto_region 1 with fail
  generalize w.alloc _ = W0 at M ⊢
  generalize w.heap.size = bx at M ⊢
  go_upto_region 2 with (at_builtin; refine wpList_appB (P := fun k => k = W0.heap.size) rfl _ _ rfl B (M.out.past (below_alloc _ _)).le v l rfl (M.out.past (below_alloc _ _)).app.row (.slice (some ⟨W0.heap.size, 0, none⟩) 3 3) [239, 0, 1] rfl (BL.new W0 [239, 0, 1] (by simp)) (by have := HW.out; simp; omega) ?_; intro v1 W1 hA1)
  have M1 : Hid (Wr B bx w W1 (.slice ca n n) (.slice sa m m) cs ss d v v1 (l ++ [239, 0, 1])) := (M.out.past (below_alloc _ _)).step hA1
  clear M hA1
  have M := M1
  clear M1
  refine wp_region_held_drew (S := fun V' => CBox V' bx 84 [.slice ca n n, .slice sa m m, .int .u64 (d : Int)]) (by kernel_rfl) (M.out.box.past below_drew) (fun hHeld => ?_)
  have M0 : Hid (Wr B bx w W1.drew (.slice ca n n) (.slice sa m m) cs ss d v v1 (l ++ [239, 0, 1])) := M.out.past below_drew
  clear M
  generalize W1.drew = z0 at hHeld M0 ⊢
  refine wpAnyH_take (i := 0) (v := v1) ov0 (by kernel_rfl) (by kernel_rfl) (by kernel_rfl) (fun _ _ _ h => h) (Or.inl ⟨by rfl, fun V' hS => ?_⟩) hHeld ?_
  · go_simp
  simp only [Act.put, List.setIfInBounds_toArray, List.set_cons_zero, List.set_cons_succ]
  refine wpAnyH_take (i := 3) (v := .pointer (some ⟨bx, 0, none⟩)) ov3 (by kernel_rfl) (by kernel_rfl) (by kernel_rfl) (fun _ _ _ h => h) (Or.inl ⟨by rfl, fun V' hS => ?_⟩) hHeld ?_
  · go_simp
  simp only [Act.put, List.setIfInBounds_toArray, List.set_cons_zero, List.set_cons_succ]
  refine wpAnyH_take (i := 4) (v := .slice ca n n) ov4 (by kernel_rfl) (by kernel_rfl) (by kernel_rfl) (fun _ _ _ h => h) (Or.inl ⟨by rfl, fun V' hS => ?_⟩) hHeld ?_
  · have c0 : V'.cell? ⟨bx, 0, none⟩ = some (.slice ca n n) := hS.cell 0
    go_simp
  simp only [Act.put, List.setIfInBounds_toArray, List.set_cons_zero, List.set_cons_succ]
  refine wpAnyH_take (i := 5) (v := .int .i64 (n : Int)) ov5 (by kernel_rfl) (by kernel_rfl) (by kernel_rfl) (fun _ _ _ h => h) (Or.inl ⟨by rfl, fun V' hS => ?_⟩) hHeld ?_
  · go_simp
  simp only [Act.put, List.setIfInBounds_toArray, List.set_cons_zero, List.set_cons_succ]
  refine wpAnyH_take (i := 6) (v := .int .u64 (n : Int)) ov6 (by kernel_rfl) (by kernel_rfl) (by kernel_rfl) (fun _ _ _ h => h) (Or.inl ⟨by rfl, fun V' hS => ?_⟩) hHeld ?_
  · go_simp
  simp only [Act.put, List.setIfInBounds_toArray, List.set_cons_zero, List.set_cons_succ]
  refine wpAnyH_take (i := 7) (v := .int .u64 (q : Int)) ov7 (by kernel_rfl) (by kernel_rfl) (by kernel_rfl) (fun _ _ _ h => h) (Or.inl ⟨by rfl, fun V' hS => ?_⟩) hHeld ?_
  · go_simp
  simp only [Act.put, List.setIfInBounds_toArray, List.set_cons_zero, List.set_cons_succ]
  refine wpAnyH_ready (rs := [1]) (by kernel_rfl) (by simp) ?_
  refine AllReadyH.cons ov1 (fun K hK => ?_) AllReadyH.nil
  rw [if_pos (by rfl)]
  go_simp
  refine hK.out _ (z0.alloc (.cells #[.int .u8 1] 5)) (hHeld.past (below_alloc _ _)) (fun _ => ?_)
  clear hK K
  (try simp only [Act.put, List.setIfInBounds_toArray, List.set_cons_zero, List.set_cons_succ])
  refine wpAnyH_ready (rs := [2]) (by kernel_rfl) (by simp) ?_
  refine AllReadyH.cons ov2 (fun K hK => ?_) AllReadyH.nil
  rw [if_pos (by rfl)]
  refine wp_appB (P := fun k => k = z0.heap.size) _ _ rfl B (M0.out.past (below_alloc _ _)).le v1 (l ++ [239, 0, 1]) rfl (M0.out.past (below_alloc _ _)).app.row (.slice (some ⟨z0.heap.size, 0, none⟩) 1 1) [1] rfl (BL.new z0 [1] (by simp)) (by have := HW.out; have := EN.out; have := HLN.out; simp only [List.length_append, List.length_cons, List.length_nil]; omega) ?_
  intro zv2 z2 hA2
  have M2 : Hid (Wr B bx w z2 (.slice ca n n) (.slice sa m m) cs ss d v zv2 (l ++ [239, 0, 1] ++ [1])) := (M0.out.past (below_alloc _ _)).step hA2
  refine hK.out _ z2 M2.out.box (fun _ => ?_)
  clear hK K
  (try simp only [Act.put, List.setIfInBounds_toArray, List.set_cons_zero, List.set_cons_succ])
  clear hA2
  refine wpAnyH_ready (rs := [8]) (by kernel_rfl) (by simp) ?_
  refine AllReadyH.cons ov8 (fun K hK => ?_) AllReadyH.nil
  rw [if_pos (by rfl)]
  go_simp
  refine (writeNumber_is z2 B M2.out.le zv2 (l ++ [239, 0, 1] ++ [1]) M2.out.app.row 2 q (by omega) (by have := HW.out; omega) (by have := HW.out; have := HQ.out; have := EN.out; have := HLN.out; simp only [List.length_append, List.length_cons, List.length_nil]; omega)).mono ?_
  rintro e z3 ⟨zv3, rfl, hA3⟩
  have M3 : Hid (Wr B bx w z3 (.slice ca n n) (.slice sa m m) cs ss d v zv3 ((l ++ [239, 0, 1] ++ [1]) ++ dig 2 q)) := M2.out.step hA3
  clear hA3
  (try go_wp2_with fail)
  refine hK.out _ _ M3.out.box (fun _ => ?_)
  clear hK K
  (try simp only [Act.put, List.setIfInBounds_toArray, List.set_cons_zero, List.set_cons_succ])
  refine wpAnyH_take (i := 9) (v := zv3) ov9 (by kernel_rfl) (by kernel_rfl) (by kernel_rfl) (fun _ _ _ h => h) (Or.inl ⟨by rfl, fun V' hS => ?_⟩) M3.out.box ?_
  · go_simp
  simp only [Act.put, List.setIfInBounds_toArray, List.set_cons_zero, List.set_cons_succ]
  refine wpAnyH_done (by kernel_rfl) ?_ _
  clear hHeld M0 M2
  have M := M3
  clear M3
  go_upto_region 3 with fail
  refine wp_region_held_drew (S := fun V' => CBox V' bx 84 [.slice ca n n, .slice sa m m, .int .u64 (d : Int)]) (by kernel_rfl) (M.out.box.past below_drew) (fun hHeld => ?_)
  have M0 : Hid (Wr B bx w z3.drew (.slice ca n n) (.slice sa m m) cs ss d v zv3 ((l ++ [239, 0, 1] ++ [1]) ++ dig 2 q)) := M.out.past below_drew
  clear M
  generalize z3.drew = y0 at hHeld M0 ⊢
  refine wpAnyH_take (i := 0) (v := zv3) ov0 (by kernel_rfl) (by kernel_rfl) (by kernel_rfl) (fun _ _ _ h => h) (Or.inl ⟨by rfl, fun V' hS => ?_⟩) hHeld ?_
  · go_simp
  simp only [Act.put, List.setIfInBounds_toArray, List.set_cons_zero, List.set_cons_succ]
  refine wpAnyH_take (i := 3) (v := .pointer (some ⟨bx, 0, none⟩)) ov3 (by kernel_rfl) (by kernel_rfl) (by kernel_rfl) (fun _ _ _ h => h) (Or.inl ⟨by rfl, fun V' hS => ?_⟩) hHeld ?_
  · go_simp
  simp only [Act.put, List.setIfInBounds_toArray, List.set_cons_zero, List.set_cons_succ]
  refine wpAnyH_take (i := 4) (v := .slice ca n n) ov4 (by kernel_rfl) (by kernel_rfl) (by kernel_rfl) (fun _ _ _ h => h) (Or.inl ⟨by rfl, fun V' hS => ?_⟩) hHeld ?_
  · have c0 : V'.cell? ⟨bx, 0, none⟩ = some (.slice ca n n) := hS.cell 0
    go_simp
  simp only [Act.put, List.setIfInBounds_toArray, List.set_cons_zero, List.set_cons_succ]
  refine wpAnyH_ready (rs := [1]) (by kernel_rfl) (by simp) ?_
  refine AllReadyH.cons ov1 (fun K hK => ?_) AllReadyH.nil
  rw [if_pos (by rfl)]
  go_simp
  refine hK.out _ (y0.alloc (.cells #[.int .u8 2] 5)) (hHeld.past (below_alloc _ _)) (fun _ => ?_)
  clear hK K
  (try simp only [Act.put, List.setIfInBounds_toArray, List.set_cons_zero, List.set_cons_succ])
  refine wpAnyH_ready (rs := [2]) (by kernel_rfl) (by simp) ?_
  refine AllReadyH.cons ov2 (fun K hK => ?_) AllReadyH.nil
  rw [if_pos (by rfl)]
  refine wp_appB (P := fun k => k = y0.heap.size) _ _ rfl B (M0.out.past (below_alloc _ _)).le zv3 ((l ++ [239, 0, 1] ++ [1]) ++ dig 2 q) rfl (M0.out.past (below_alloc _ _)).app.row (.slice (some ⟨y0.heap.size, 0, none⟩) 1 1) [2] rfl (BL.new y0 [2] (by simp)) (by have := HW.out; have := EN.out; have := HLN.out; simp only [List.length_append, List.length_cons, List.length_nil]; omega) ?_
  intro yv2 y2 hA2
  have M2 : Hid (Wr B bx w y2 (.slice ca n n) (.slice sa m m) cs ss d v yv2 ((l ++ [239, 0, 1] ++ [1]) ++ dig 2 q ++ [2])) := (M0.out.past (below_alloc _ _)).step hA2
  refine hK.out _ y2 M2.out.box (fun _ => ?_)
  clear hK K
  (try simp only [Act.put, List.setIfInBounds_toArray, List.set_cons_zero, List.set_cons_succ])
  clear hA2
  refine wpAnyH_ready (rs := [5]) (by kernel_rfl) (by simp) ?_
  refine AllReadyH.cons ov5 (fun K hK => ?_) AllReadyH.nil
  rw [if_pos (by rfl)]
  go_simp
  refine (writeLengths_is y2 B M2.out.le yv2 ((l ++ [239, 0, 1] ++ [1]) ++ dig 2 q ++ [2]) M2.out.app.row 2 (by omega) (.slice ca n n) cs M2.out.uc HX.out.1 (by have := HW.out; have := EN.out; omega) (by have := HW.out; have := HQ.out; have := EN.out; have := EN.out; have := HLN.out; simp only [List.length_append, List.length_cons, List.length_nil]; omega)).mono ?_
  rintro e y3 ⟨yv3, rfl, hA3⟩
  have M3 : Hid (Wr B bx w y3 (.slice ca n n) (.slice sa m m) cs ss d v yv3 (((l ++ [239, 0, 1] ++ [1]) ++ dig 2 q ++ [2]) ++ (dig 2 cs.length ++ cs.flatMap (dig 2)))) := M2.out.step hA3
  clear hA3
  (try go_wp2_with fail)
  refine hK.out _ _ M3.out.box (fun _ => ?_)
  clear hK K
  (try simp only [Act.put, List.setIfInBounds_toArray, List.set_cons_zero, List.set_cons_succ])
  refine wpAnyH_take (i := 6) (v := yv3) ov6 (by kernel_rfl) (by kernel_rfl) (by kernel_rfl) (fun _ _ _ h => h) (Or.inl ⟨by rfl, fun V' hS => ?_⟩) M3.out.box ?_
  · go_simp
  simp only [Act.put, List.setIfInBounds_toArray, List.set_cons_zero, List.set_cons_succ]
  refine wpAnyH_done (by kernel_rfl) ?_ _
  clear hHeld M0 M2
  have M := M3
  clear M3
  have c1 : y3.cell? ⟨bx, 1, none⟩ = some (.slice sa m m) := M.out.box.cell 1
  by_cases em : m = 0
  · have EM : Hid (m = 0) := em
    have m0 : ¬ (0 : Int) < (m : Int) := by omega
    clear em
    go_upto_region 6 with fail
    clear c1
    refine wp_region_held_drew (S := fun V' => CBox V' bx 84 [.slice ca n n, .slice sa m m, .int .u64 (d : Int)]) (by kernel_rfl) (M.out.box.past below_drew) (fun hHeld => ?_)
    have M0 : Hid (Wr B bx w y3.drew (.slice ca n n) (.slice sa m m) cs ss d v yv3 (((l ++ [239, 0, 1] ++ [1]) ++ dig 2 q ++ [2]) ++ (dig 2 cs.length ++ cs.flatMap (dig 2)))) := M.out.past below_drew
    clear M
    generalize y3.drew = x0 at hHeld M0 ⊢
    refine wpAnyH_take (i := 0) (v := yv3) ov0 (by kernel_rfl) (by kernel_rfl) (by kernel_rfl) (fun _ _ _ h => h) (Or.inl ⟨by rfl, fun V' hS => ?_⟩) hHeld ?_
    · go_simp
    simp only [Act.put, List.setIfInBounds_toArray, List.set_cons_zero, List.set_cons_succ]
    refine wpAnyH_take (i := 3) (v := .pointer (some ⟨bx, 2, none⟩)) ov3 (by kernel_rfl) (by kernel_rfl) (by kernel_rfl) (fun _ _ _ h => h) (Or.inl ⟨by rfl, fun V' hS => ?_⟩) hHeld ?_
    · go_simp
    simp only [Act.put, List.setIfInBounds_toArray, List.set_cons_zero, List.set_cons_succ]
    refine wpAnyH_take (i := 4) (v := .int .u64 (d : Int)) ov4 (by kernel_rfl) (by kernel_rfl) (by kernel_rfl) (fun _ _ _ h => h) (Or.inl ⟨by rfl, fun V' hS => ?_⟩) hHeld ?_
    · have c0 : V'.cell? ⟨bx, 2, none⟩ = some (.int .u64 (d : Int)) := hS.cell 2
      go_simp
    simp only [Act.put, List.setIfInBounds_toArray, List.set_cons_zero, List.set_cons_succ]
    refine wpAnyH_ready (rs := [1]) (by kernel_rfl) (by simp) ?_
    refine AllReadyH.cons ov1 (fun K hK => ?_) AllReadyH.nil
    rw [if_pos (by rfl)]
    go_simp
    refine hK.out _ (x0.alloc (.cells #[.int .u8 255] 5)) (hHeld.past (below_alloc _ _)) (fun _ => ?_)
    clear hK K
    (try simp only [Act.put, List.setIfInBounds_toArray, List.set_cons_zero, List.set_cons_succ])
    refine wpAnyH_ready (rs := [2]) (by kernel_rfl) (by simp) ?_
    refine AllReadyH.cons ov2 (fun K hK => ?_) AllReadyH.nil
    rw [if_pos (by rfl)]
    refine wp_appB (P := fun k => k = x0.heap.size) _ _ rfl B (M0.out.past (below_alloc _ _)).le yv3 (((l ++ [239, 0, 1] ++ [1]) ++ dig 2 q ++ [2]) ++ (dig 2 cs.length ++ cs.flatMap (dig 2))) rfl (M0.out.past (below_alloc _ _)).app.row (.slice (some ⟨x0.heap.size, 0, none⟩) 1 1) [255] rfl (BL.new x0 [255] (by simp)) (by have := HW.out; have := EN.out; have := HLN.out; simp only [List.length_append, List.length_cons, List.length_nil]; omega) ?_
    intro xv2 x2 hA2
    have M2 : Hid (Wr B bx w x2 (.slice ca n n) (.slice sa m m) cs ss d v xv2 (((l ++ [239, 0, 1] ++ [1]) ++ dig 2 q ++ [2]) ++ (dig 2 cs.length ++ cs.flatMap (dig 2)) ++ [255])) := (M0.out.past (below_alloc _ _)).step hA2
    refine hK.out _ x2 M2.out.box (fun _ => ?_)
    clear hK K
    (try simp only [Act.put, List.setIfInBounds_toArray, List.set_cons_zero, List.set_cons_succ])
    clear hA2
    refine wpAnyH_ready (rs := [5]) (by kernel_rfl) (by simp) ?_
    refine AllReadyH.cons ov5 (fun K hK => ?_) AllReadyH.nil
    rw [if_pos (by rfl)]
    go_simp
    refine (writeNumber_is x2 B M2.out.le xv2 (((l ++ [239, 0, 1] ++ [1]) ++ dig 2 q ++ [2]) ++ (dig 2 cs.length ++ cs.flatMap (dig 2)) ++ [255]) M2.out.app.row 2 d (by omega) (by have := HW.out; omega) (by have := HW.out; have := HQ.out; have := EN.out; have := HLN.out; simp only [List.length_append, List.length_cons, List.length_nil]; omega)).mono ?_
    rintro e x3 ⟨xv3, rfl, hA3⟩
    have M3 : Hid (Wr B bx w x3 (.slice ca n n) (.slice sa m m) cs ss d v xv3 ((((l ++ [239, 0, 1] ++ [1]) ++ dig 2 q ++ [2]) ++ (dig 2 cs.length ++ cs.flatMap (dig 2)) ++ [255]) ++ dig 2 d)) := M2.out.step hA3
    clear hA3
    (try go_wp2_with fail)
    refine hK.out _ _ M3.out.box (fun _ => ?_)
    clear hK K
    (try simp only [Act.put, List.setIfInBounds_toArray, List.set_cons_zero, List.set_cons_succ])
    refine wpAnyH_take (i := 6) (v := xv3) ov6 (by kernel_rfl) (by kernel_rfl) (by kernel_rfl) (fun _ _ _ h => h) (Or.inl ⟨by rfl, fun V' hS => ?_⟩) M3.out.box ?_
    · go_simp
    simp only [Act.put, List.setIfInBounds_toArray, List.set_cons_zero, List.set_cons_succ]
    refine wpAnyH_done (by kernel_rfl) ?_ _
    clear hHeld M0 M2
    go_wp2_with (at_builtin; refine wpList_appB (P := fun k => k = x3.heap.size) rfl _ _ rfl B (M3.out.past (below_alloc _ _)).le xv3 ((((l ++ [239, 0, 1] ++ [1]) ++ dig 2 q ++ [2]) ++ (dig 2 cs.length ++ cs.flatMap (dig 2)) ++ [255]) ++ dig 2 d) rfl (M3.out.past (below_alloc _ _)).app.row (.slice (some ⟨x3.heap.size, 0, none⟩) 1 1) [0] rfl (BL.new x3 [0] (by simp)) (by have := HW.out; have := EN.out; have := EN.out; have := HLN.out; simp only [List.length_append, List.length_cons, List.length_nil]; omega) ?_; intro v9 W9 hA9)
    have M9 := ((M3.out.past (below_alloc _ _)).step hA9).app
    go_ret
    refine ⟨_, rfl, ?_⟩
    have EF : ((((l ++ [239, 0, 1] ++ [1]) ++ dig 2 q ++ [2]) ++ (dig 2 cs.length ++ cs.flatMap (dig 2)) ++ [255]) ++ dig 2 d) ++ [0] = F := by rw [HF.out, HQ.out, ← EN.out.1]; rw [if_pos EM.out]; simp only [List.append_assoc, List.nil_append]
    rw [← EF]
    exact M9
  · have EM : Hid (¬ m = 0) := em
    have m0 : (0 : Int) < (m : Int) := by omega
    clear em
    go_upto_region 5 with fail
    clear c1
    refine wp_region_held_drew (S := fun V' => CBox V' bx 84 [.slice ca n n, .slice sa m m, .int .u64 (d : Int)]) (by kernel_rfl) (M.out.box.past below_drew) (fun hHeld => ?_)
    have M0 : Hid (Wr B bx w y3.drew (.slice ca n n) (.slice sa m m) cs ss d v yv3 (((l ++ [239, 0, 1] ++ [1]) ++ dig 2 q ++ [2]) ++ (dig 2 cs.length ++ cs.flatMap (dig 2)))) := M.out.past below_drew
    clear M
    generalize y3.drew = x0 at hHeld M0 ⊢
    refine wpAnyH_take (i := 0) (v := yv3) ov0 (by kernel_rfl) (by kernel_rfl) (by kernel_rfl) (fun _ _ _ h => h) (Or.inl ⟨by rfl, fun V' hS => ?_⟩) hHeld ?_
    · go_simp
    simp only [Act.put, List.setIfInBounds_toArray, List.set_cons_zero, List.set_cons_succ]
    refine wpAnyH_take (i := 3) (v := .pointer (some ⟨bx, 1, none⟩)) ov3 (by kernel_rfl) (by kernel_rfl) (by kernel_rfl) (fun _ _ _ h => h) (Or.inl ⟨by rfl, fun V' hS => ?_⟩) hHeld ?_
    · go_simp
    simp only [Act.put, List.setIfInBounds_toArray, List.set_cons_zero, List.set_cons_succ]
    refine wpAnyH_take (i := 4) (v := .slice sa m m) ov4 (by kernel_rfl) (by kernel_rfl) (by kernel_rfl) (fun _ _ _ h => h) (Or.inl ⟨by rfl, fun V' hS => ?_⟩) hHeld ?_
    · have c0 : V'.cell? ⟨bx, 1, none⟩ = some (.slice sa m m) := hS.cell 1
      go_simp
    simp only [Act.put, List.setIfInBounds_toArray, List.set_cons_zero, List.set_cons_succ]
    refine wpAnyH_ready (rs := [1]) (by kernel_rfl) (by simp) ?_
    refine AllReadyH.cons ov1 (fun K hK => ?_) AllReadyH.nil
    rw [if_pos (by rfl)]
    go_simp
    refine hK.out _ (x0.alloc (.cells #[.int .u8 3] 5)) (hHeld.past (below_alloc _ _)) (fun _ => ?_)
    clear hK K
    (try simp only [Act.put, List.setIfInBounds_toArray, List.set_cons_zero, List.set_cons_succ])
    refine wpAnyH_ready (rs := [2]) (by kernel_rfl) (by simp) ?_
    refine AllReadyH.cons ov2 (fun K hK => ?_) AllReadyH.nil
    rw [if_pos (by rfl)]
    refine wp_appB (P := fun k => k = x0.heap.size) _ _ rfl B (M0.out.past (below_alloc _ _)).le yv3 (((l ++ [239, 0, 1] ++ [1]) ++ dig 2 q ++ [2]) ++ (dig 2 cs.length ++ cs.flatMap (dig 2))) rfl (M0.out.past (below_alloc _ _)).app.row (.slice (some ⟨x0.heap.size, 0, none⟩) 1 1) [3] rfl (BL.new x0 [3] (by simp)) (by have := HW.out; have := EN.out; have := HLN.out; simp only [List.length_append, List.length_cons, List.length_nil]; omega) ?_
    intro xv2 x2 hA2
    have M2 : Hid (Wr B bx w x2 (.slice ca n n) (.slice sa m m) cs ss d v xv2 (((l ++ [239, 0, 1] ++ [1]) ++ dig 2 q ++ [2]) ++ (dig 2 cs.length ++ cs.flatMap (dig 2)) ++ [3])) := (M0.out.past (below_alloc _ _)).step hA2
    refine hK.out _ x2 M2.out.box (fun _ => ?_)
    clear hK K
    (try simp only [Act.put, List.setIfInBounds_toArray, List.set_cons_zero, List.set_cons_succ])
    clear hA2
    refine wpAnyH_ready (rs := [5]) (by kernel_rfl) (by simp) ?_
    refine AllReadyH.cons ov5 (fun K hK => ?_) AllReadyH.nil
    rw [if_pos (by rfl)]
    go_simp
    refine (writeLengths_is x2 B M2.out.le xv2 (((l ++ [239, 0, 1] ++ [1]) ++ dig 2 q ++ [2]) ++ (dig 2 cs.length ++ cs.flatMap (dig 2)) ++ [3]) M2.out.app.row 4 (by omega) (.slice sa m m) ss M2.out.us HX.out.2 (by have := HW.out; have := EN.out; omega) (by have := HW.out; have := HQ.out; have := EN.out; have := EN.out; have := HLN.out; simp only [List.length_append, List.length_cons, List.length_nil]; omega)).mono ?_
    rintro e x3 ⟨xv3, rfl, hA3⟩
    have M3 : Hid (Wr B bx w x3 (.slice ca n n) (.slice sa m m) cs ss d v xv3 ((((l ++ [239, 0, 1] ++ [1]) ++ dig 2 q ++ [2]) ++ (dig 2 cs.length ++ cs.flatMap (dig 2)) ++ [3]) ++ (dig 2 ss.length ++ ss.flatMap (dig 4)))) := M2.out.step hA3
    clear hA3
    (try go_wp2_with fail)
    refine hK.out _ _ M3.out.box (fun _ => ?_)
    clear hK K
    (try simp only [Act.put, List.setIfInBounds_toArray, List.set_cons_zero, List.set_cons_succ])
    refine wpAnyH_take (i := 6) (v := xv3) ov6 (by kernel_rfl) (by kernel_rfl) (by kernel_rfl) (fun _ _ _ h => h) (Or.inl ⟨by rfl, fun V' hS => ?_⟩) M3.out.box ?_
    · go_simp
    simp only [Act.put, List.setIfInBounds_toArray, List.set_cons_zero, List.set_cons_succ]
    refine wpAnyH_done (by kernel_rfl) ?_ _
    clear hHeld M0 M2
    have M := M3
    clear M3
    go_upto_region 6 with fail
    refine wp_region_held_drew (S := fun V' => CBox V' bx 84 [.slice ca n n, .slice sa m m, .int .u64 (d : Int)]) (by kernel_rfl) (M.out.box.past below_drew) (fun hHeld => ?_)
    have M0 : Hid (Wr B bx w x3.drew (.slice ca n n) (.slice sa m m) cs ss d v xv3 ((((l ++ [239, 0, 1] ++ [1]) ++ dig 2 q ++ [2]) ++ (dig 2 cs.length ++ cs.flatMap (dig 2)) ++ [3]) ++ (dig 2 ss.length ++ ss.flatMap (dig 4)))) := M.out.past below_drew
    clear M
    generalize x3.drew = u0 at hHeld M0 ⊢
    refine wpAnyH_take (i := 0) (v := xv3) ov0 (by kernel_rfl) (by kernel_rfl) (by kernel_rfl) (fun _ _ _ h => h) (Or.inl ⟨by rfl, fun V' hS => ?_⟩) hHeld ?_
    · go_simp
    simp only [Act.put, List.setIfInBounds_toArray, List.set_cons_zero, List.set_cons_succ]
    refine wpAnyH_take (i := 3) (v := .pointer (some ⟨bx, 2, none⟩)) ov3 (by kernel_rfl) (by kernel_rfl) (by kernel_rfl) (fun _ _ _ h => h) (Or.inl ⟨by rfl, fun V' hS => ?_⟩) hHeld ?_
    · go_simp
    simp only [Act.put, List.setIfInBounds_toArray, List.set_cons_zero, List.set_cons_succ]
    refine wpAnyH_take (i := 4) (v := .int .u64 (d : Int)) ov4 (by kernel_rfl) (by kernel_rfl) (by kernel_rfl) (fun _ _ _ h => h) (Or.inl ⟨by rfl, fun V' hS => ?_⟩) hHeld ?_
    · have c0 : V'.cell? ⟨bx, 2, none⟩ = some (.int .u64 (d : Int)) := hS.cell 2
      go_simp
    simp only [Act.put, List.setIfInBounds_toArray, List.set_cons_zero, List.set_cons_succ]
    refine wpAnyH_ready (rs := [1]) (by kernel_rfl) (by simp) ?_
    refine AllReadyH.cons ov1 (fun K hK => ?_) AllReadyH.nil
    rw [if_pos (by rfl)]
    go_simp
    refine hK.out _ (u0.alloc (.cells #[.int .u8 255] 5)) (hHeld.past (below_alloc _ _)) (fun _ => ?_)
    clear hK K
    (try simp only [Act.put, List.setIfInBounds_toArray, List.set_cons_zero, List.set_cons_succ])
    refine wpAnyH_ready (rs := [2]) (by kernel_rfl) (by simp) ?_
    refine AllReadyH.cons ov2 (fun K hK => ?_) AllReadyH.nil
    rw [if_pos (by rfl)]
    refine wp_appB (P := fun k => k = u0.heap.size) _ _ rfl B (M0.out.past (below_alloc _ _)).le xv3 ((((l ++ [239, 0, 1] ++ [1]) ++ dig 2 q ++ [2]) ++ (dig 2 cs.length ++ cs.flatMap (dig 2)) ++ [3]) ++ (dig 2 ss.length ++ ss.flatMap (dig 4))) rfl (M0.out.past (below_alloc _ _)).app.row (.slice (some ⟨u0.heap.size, 0, none⟩) 1 1) [255] rfl (BL.new u0 [255] (by simp)) (by have := HW.out; have := EN.out; have := HLN.out; simp only [List.length_append, List.length_cons, List.length_nil]; omega) ?_
    intro uv2 u2 hA2
    have M2 : Hid (Wr B bx w u2 (.slice ca n n) (.slice sa m m) cs ss d v uv2 ((((l ++ [239, 0, 1] ++ [1]) ++ dig 2 q ++ [2]) ++ (dig 2 cs.length ++ cs.flatMap (dig 2)) ++ [3]) ++ (dig 2 ss.length ++ ss.flatMap (dig 4)) ++ [255])) := (M0.out.past (below_alloc _ _)).step hA2
    refine hK.out _ u2 M2.out.box (fun _ => ?_)
    clear hK K
    (try simp only [Act.put, List.setIfInBounds_toArray, List.set_cons_zero, List.set_cons_succ])
    clear hA2
    refine wpAnyH_ready (rs := [5]) (by kernel_rfl) (by simp) ?_
    refine AllReadyH.cons ov5 (fun K hK => ?_) AllReadyH.nil
    rw [if_pos (by rfl)]
    go_simp
    refine (writeNumber_is u2 B M2.out.le uv2 ((((l ++ [239, 0, 1] ++ [1]) ++ dig 2 q ++ [2]) ++ (dig 2 cs.length ++ cs.flatMap (dig 2)) ++ [3]) ++ (dig 2 ss.length ++ ss.flatMap (dig 4)) ++ [255]) M2.out.app.row 2 d (by omega) (by have := HW.out; omega) (by have := HW.out; have := HQ.out; have := EN.out; have := HLN.out; simp only [List.length_append, List.length_cons, List.length_nil]; omega)).mono ?_
    rintro e u3 ⟨uv3, rfl, hA3⟩
    have M3 : Hid (Wr B bx w u3 (.slice ca n n) (.slice sa m m) cs ss d v uv3 (((((l ++ [239, 0, 1] ++ [1]) ++ dig 2 q ++ [2]) ++ (dig 2 cs.length ++ cs.flatMap (dig 2)) ++ [3]) ++ (dig 2 ss.length ++ ss.flatMap (dig 4)) ++ [255]) ++ dig 2 d)) := M2.out.step hA3
    clear hA3
    (try go_wp2_with fail)
    refine hK.out _ _ M3.out.box (fun _ => ?_)
    clear hK K
    (try simp only [Act.put, List.setIfInBounds_toArray, List.set_cons_zero, List.set_cons_succ])
    refine wpAnyH_take (i := 6) (v := uv3) ov6 (by kernel_rfl) (by kernel_rfl) (by kernel_rfl) (fun _ _ _ h => h) (Or.inl ⟨by rfl, fun V' hS => ?_⟩) M3.out.box ?_
    · go_simp
    simp only [Act.put, List.setIfInBounds_toArray, List.set_cons_zero, List.set_cons_succ]
    refine wpAnyH_done (by kernel_rfl) ?_ _
    clear hHeld M0 M2
    go_wp2_with (at_builtin; refine wpList_appB (P := fun k => k = u3.heap.size) rfl _ _ rfl B (M3.out.past (below_alloc _ _)).le uv3 (((((l ++ [239, 0, 1] ++ [1]) ++ dig 2 q ++ [2]) ++ (dig 2 cs.length ++ cs.flatMap (dig 2)) ++ [3]) ++ (dig 2 ss.length ++ ss.flatMap (dig 4)) ++ [255]) ++ dig 2 d) rfl (M3.out.past (below_alloc _ _)).app.row (.slice (some ⟨u3.heap.size, 0, none⟩) 1 1) [0] rfl (BL.new u3 [0] (by simp)) (by have := HW.out; have := EN.out; have := EN.out; have := HLN.out; simp only [List.length_append, List.length_cons, List.length_nil]; omega) ?_; intro v9 W9 hA9)
    have M9 := ((M3.out.past (below_alloc _ _)).step hA9).app
    go_ret
    refine ⟨_, rfl, ?_⟩
    have EF : (((((l ++ [239, 0, 1] ++ [1]) ++ dig 2 q ++ [2]) ++ (dig 2 cs.length ++ cs.flatMap (dig 2)) ++ [3]) ++ (dig 2 ss.length ++ ss.flatMap (dig 4)) ++ [255]) ++ dig 2 d) ++ [0] = F := by rw [HF.out, HQ.out, ← EN.out.1]; rw [if_neg EM.out, ← EN.out.2]; simp only [List.append_assoc]
    rw [← EF]
    exact M9
end Go.Proofs.Ytndhabhlajldeaa
