/- The document's table: Back, Forget. -/
import Derived.Test.YtohfkgfjcnldaaaTza
namespace Go.Proofs.Ytohfkgfjcnldaaa
open Go.RowKit Go.Shelf
theorem und_olds : Try.prog.underlying 84 = some (.slice 56) := by kernel_rfl
theorem elem_olds : Try.prog.elem 84 = 56 := by kernel_rfl
theorem size_list (W : World) : (sizeOf 56).run Try.prog W = .ok 1 W := by kernel_rfl
theorem RTab.cutOld {w : World} {c : Nat} {lv : Value} {oa : Option Addr} {oc : Nat} {RL : List (Int × Int)} {OV : List Value} {OL : List (List (Int × Int))} (h : RTab w c lv oa oc RL OV OL) (k : Nat) (hk : k ≤ OV.length) : RTab (w.setCell ⟨c, 1, none⟩ (.slice oa k oc)) c lv oa oc RL (OV.take k) (OL.take k) ∧ But (RS c oa) w (w.setCell ⟨c, 1, none⟩ (.slice oa k oc)) ∧ k ≤ oc := by
  have hS : But (fun k => k = c) w (w.setCell ⟨c, 1, none⟩ (.slice oa k oc)) := (But.refl (fun k => k = c) w).setCell ⟨c, 1, none⟩ (.slice oa k oc) (Or.inl rfl)
  have nc : ∀ v l, PrL w v l → ∀ j, v.ownBlock = some j → ¬ j = c := fun v l hv j hj e => h.apart hv j hj (Or.inl e)
  have el : (OV.take k).length = k := List.length_take_of_le hk
  have ht := row_take h.row k hk
  rw [Nat.mul_one] at ht
  refine ⟨⟨?_, ?_, h.cur.but hS (nc _ _ h.cur), by rw [List.length_take, List.length_take, h.len], fun i v l h1 h2 => ?_⟩, hS.mono (fun k e => Or.inl e), ?_⟩
  · rw [el]
    exact h.box.set 1 _
  · rw [el]
    exact row_new ht hS (fun j hj e => row_box h.row h.box (by decide) hj e)
  · rw [List.getElem?_take] at h1 h2
    split at h1
    · rename_i hi
      rw [if_pos hi] at h2
      exact (h.old i v l h1 h2).but hS (nc _ _ (h.old i v l h1 h2))
    · cases h1
  · rcases ht.2 with ⟨e1, e2⟩ | ⟨g9, c9, cur, e1, _, _, h9, _⟩
    · omega
    · injection e1 with _ _ e3
      omega
theorem RTab.setTo {w : World} {lv' : Value} {RL' : List (Int × Int)} {c : Nat} {lv : Value} {oa : Option Addr} {oc : Nat} {RL : List (Int × Int)} {OV : List Value} {OL : List (List (Int × Int))} (h : RTab w c lv oa oc RL OV OL) (hv : PrL w lv' RL') : RTab (w.setCell ⟨c, 0, none⟩ lv') c lv' oa oc RL' OV OL ∧ But (RS c oa) w (w.setCell ⟨c, 0, none⟩ lv') := by
  have hS : But (fun k => k = c) w (w.setCell ⟨c, 0, none⟩ lv') := (But.refl (fun k => k = c) w).setCell ⟨c, 0, none⟩ lv' (Or.inl rfl)
  have nc : ∀ v l, PrL w v l → ∀ j, v.ownBlock = some j → ¬ j = c := fun v l hv j hj e => h.apart hv j hj (Or.inl e)
  exact ⟨⟨h.box.set 0 _, row_new h.row hS (fun j hj e => row_box h.row h.box (by decide) hj e), hv.but hS (nc _ _ hv), h.len, fun i v l h1 h2 => (h.old i v l h1 h2).but hS (nc _ _ (h.old i v l h1 h2))⟩, hS.mono (fun k e => Or.inl e)⟩
set_option maxHeartbeats 2000000 in
set_option maxRecDepth 100000 in
theorem backR_no (w : World) (c : Nat) (lv : Value) (oa : Option Addr) (oc : Nat) (RL : List (Int × Int)) (OV : List Value) (OL : List (List (Int × Int))) (h : RTab w c lv oa oc RL OV OL) (k : Int) (hk : ¬ (0 ≤ k ∧ k < (OL.length : Int))) : Calls Try.prog 28 #[.pointer (some ⟨c, 0, none⟩), .int .i64 k] w fun e w' => e = .returned (.int .i64 30) ∧ w' = w := by
  have c1 : w.cell? ⟨c, 1, none⟩ = some (.slice oa OV.length oc) := h.box.cell 1
  rw [h.len] at c1
  clear h
  generalize OL.length = n at *
  by_cases h0 : k < 0
  · clear hk
    go_enter Try.func28, Try.ntmps28
    go_wp2
    go_ret
    exact ⟨rfl, rfl⟩
  · have h1 : (n : Int) ≤ k := by omega
    clear hk
    go_enter Try.func28, Try.ntmps28
    go_wp2
    go_ret
    exact ⟨rfl, rfl⟩
set_option maxHeartbeats 2000000 in
set_option maxRecDepth 100000 in
theorem forgetR_no (w : World) (c : Nat) (lv : Value) (oa : Option Addr) (oc : Nat) (RL : List (Int × Int)) (OV : List Value) (OL : List (List (Int × Int))) (h : RTab w c lv oa oc RL OV OL) (k : Int) (hk : ¬ (0 ≤ k ∧ k < (OL.length : Int))) : Calls Try.prog 30 #[.pointer (some ⟨c, 0, none⟩), .int .i64 k] w fun e w' => e = .returned (.int .i64 30) ∧ w' = w := by
  have c1 : w.cell? ⟨c, 1, none⟩ = some (.slice oa OV.length oc) := h.box.cell 1
  rw [h.len] at c1
  clear h
  generalize OL.length = n at *
  by_cases h0 : k < 0
  · clear hk
    go_enter Try.func30, Try.ntmps30
    go_wp2
    go_ret
    exact ⟨rfl, rfl⟩
  · have h1 : (n : Int) ≤ k := by omega
    clear hk
    go_enter Try.func30, Try.ntmps30
    go_wp2
    go_ret
    exact ⟨rfl, rfl⟩
set_option maxHeartbeats 2000000 in
set_option maxRecDepth 100000 in
theorem forgetR_yes (w : World) (c : Nat) (lv : Value) (oa : Option Addr) (oc : Nat) (RL : List (Int × Int)) (OV : List Value) (OL : List (List (Int × Int))) (h : RTab w c lv oa oc RL OV OL) (k : Nat) (hk : k < OL.length) : Calls Try.prog 30 #[.pointer (some ⟨c, 0, none⟩), .int .i64 (k : Int)] w fun e w' => e = .returned (.int .i64 0) ∧ RTab w' c lv oa oc RL (OV.take k) (OL.take k) ∧ But (RS c oa) w w' := by
  have c1 : w.cell? ⟨c, 1, none⟩ = some (.slice oa OV.length oc) := h.box.cell 1
  have f1 : w.frozen? ⟨c, 1, none⟩ = false := h.box.frozen 1
  obtain ⟨t1, t2, t3⟩ := h.cutOld k (by rw [h.len]; omega)
  have HT : Hid (RTab (w.setCell ⟨c, 1, none⟩ (.slice oa k oc)) c lv oa oc RL (OV.take k) (OL.take k) ∧ But (RS c oa) w (w.setCell ⟨c, 1, none⟩ (.slice oa k oc))) := ⟨t1, t2⟩
  have sh := slice_head (W := w) und_olds elem_olds size_list oa OV.length oc k t3
  rw [h.len] at c1 sh
  obtain ⟨n, en⟩ : ∃ n, OL.length = n := ⟨_, rfl⟩
  rw [en] at c1 sh
  have kX : (k : Int) < (n : Int) := by omega
  have kN : ¬ (n : Int) ≤ (k : Int) := by omega
  clear h hk t1 t2 t3 en
  go_enter Try.func30, Try.ntmps30
  go_wp2
  go_ret
  exact ⟨rfl, HT.out⟩
set_option maxHeartbeats 2000000 in
set_option maxRecDepth 100000 in
theorem backR_yes (w : World) (c : Nat) (lv : Value) (oa : Option Addr) (oc : Nat) (RL : List (Int × Int)) (OV : List Value) (OL : List (List (Int × Int))) (h : RTab w c lv oa oc RL OV OL) (k : Nat) (l : List (Int × Int)) (hk : OL[k]? = some l) : Calls Try.prog 28 #[.pointer (some ⟨c, 0, none⟩), .int .i64 (k : Int)] w fun e w' => e = .returned (.int .i64 0) ∧ ∃ lv', RTab w' c lv' oa oc l (OV.take k) (OL.take k) ∧ But (RS c oa) w w' := by
  have kl : k < OL.length := (List.getElem?_eq_some_iff.1 hk).1
  obtain ⟨v, hv⟩ : ∃ v, OV[k]? = some v := ⟨_, List.getElem?_eq_getElem (by rw [h.len]; exact kl)⟩
  have hp := h.old k v l hv hk
  obtain ⟨g, rfl, r0, _⟩ := row_cell h.row hv
  obtain ⟨va, vc, rfl⟩ := hp.form
  obtain ⟨lla, llc, rfl⟩ := h.cur.form
  have a1 : w.cell? ⟨c, 1, none⟩ = some (.slice (some ⟨g, 0, none⟩) OV.length oc) := h.box.cell 1
  have a0 : w.cell? ⟨c, 0, none⟩ = some (.slice lla RL.length llc) := h.box.cell 0
  have f0 : w.frozen? ⟨c, 0, none⟩ = false := h.box.frozen 0
  obtain ⟨s1, s2⟩ := h.setTo hp
  obtain ⟨t1, t2, t3⟩ := s1.cutOld k (by rw [h.len]; omega)
  have HT : Hid (RTab ((w.setCell ⟨c, 0, none⟩ (.slice va l.length vc)).setCell ⟨c, 1, none⟩ (.slice (some ⟨g, 0, none⟩) k oc)) c (.slice va l.length vc) (some ⟨g, 0, none⟩) oc l (OV.take k) (OL.take k) ∧ But (RS c (some ⟨g, 0, none⟩)) w ((w.setCell ⟨c, 0, none⟩ (.slice va l.length vc)).setCell ⟨c, 1, none⟩ (.slice (some ⟨g, 0, none⟩) k oc))) := ⟨t1, s2.trans t2⟩
  have sh := slice_head (W := w.setCell ⟨c, 0, none⟩ (.slice va l.length vc)) und_olds elem_olds size_list (some ⟨g, 0, none⟩) OV.length oc k t3
  have b1 : (w.setCell ⟨c, 0, none⟩ (.slice va l.length vc)).cell? ⟨c, 1, none⟩ = some (.slice (some ⟨g, 0, none⟩) OV.length oc) := s1.box.cell 1
  have g1 : (w.setCell ⟨c, 0, none⟩ (.slice va l.length vc)).frozen? ⟨c, 1, none⟩ = false := s1.box.frozen 1
  rw [h.len] at a1 sh b1
  obtain ⟨n, en⟩ : ∃ n, OL.length = n := ⟨_, rfl⟩
  rw [en] at a1 sh b1
  have kX : (k : Int) < (n : Int) := by omega
  have kN : ¬ (n : Int) ≤ (k : Int) := by omega
  clear h hk kl hv hp s1 s2 t1 t2 t3 en
  go_enter Try.func28, Try.ntmps28
  go_upto_region 4 with fail
  generalize w.setCell ⟨c, 0, none⟩ (.slice va l.length vc) = v1 at HT sh b1 g1 ⊢
  clear a0 a1 f0 r0
  go_wp2
  go_ret
  first | exact ⟨rfl, _, HT.out.1, HT.out.2⟩ | exact ⟨rfl, ⟨_, HT.out.1⟩, HT.out.2⟩
end Go.Proofs.Ytohfkgfjcnldaaa
