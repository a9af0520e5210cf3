/- Package undo: Back and Forget of a table. -/
import Derived.Test.YtohfkgfjcnldaaaTr
namespace Go.Proofs.Ytohfkgfjcnldaaa
open Go.RowKit Go.Shelf
theorem back_yes (w : World) (b : Nat) (S : Nat → Prop) (L : List (Int × Int)) (V : List Un) (M : List Nat) (h : TabU w b S L V M) (ok : OkB V L) (k f : Nat) (hf : M[k]? = some f) (hfV : f ≤ V.length) (hB : L.length + V.length < 549755813888) (hM : M.length < 549755813888) :
    Calls Try.prog 45 #[.pointer (some ⟨b, 0, none⟩), .int .i64 (k : Int)] w fun e w' => e = .returned (.int .i64 0) ∧ ∃ S', TabU w' b S' (stB V L (V.length - f)) (V.take f) (M.take k) ∧ But S w w' ∧ Grown S S' w := by
  obtain ⟨pm, ra, rc, ba, bc, ma, mc, m, h1, rfl, h2⟩ := h
  exact (callsIn_wide (n := 10)).1 (back_in w b pm ra rc ba bc ma mc m L V M h1 h2 ok k f hf hfV hB hM)
theorem back_no (w : World) (b : Nat) (S : Nat → Prop) (L : List (Int × Int)) (V : List Un) (M : List Nat) (h : TabU w b S L V M) (k : Int) (hk : ¬ (0 ≤ k ∧ k < (M.length : Int))) :
    Calls Try.prog 45 #[.pointer (some ⟨b, 0, none⟩), .int .i64 k] w fun e w' => e = .returned (.int .i64 30) ∧ w' = w := by
  obtain ⟨pm, ra, rc, ba, bc, ma, mc, m, h1, rfl, h2⟩ := h
  have IM : Hid (Calls Try.prog 76 #[.pointer (some ⟨b, 0, none⟩), .int .i64 k] w fun e w' => e = .returned (.bool false) ∧ w' = w) := by
    have := isMark_is w b pm ra rc ba bc ma mc m L (V.map uv) M h1 k
    rw [decide_eq_false hk] at this
    exact this
  clear h1 h2 hk
  go_enter Try.func45, Try.ntmps45
  go_wp2_with (go_at_call 76; refine (IM.out).mono ?_; rintro e w' ⟨rfl, hw⟩; (have hw2 := hw.symm); clear hw; subst hw2)
  go_ret
  exact ⟨rfl, rfl⟩
theorem forget_no (w : World) (b : Nat) (S : Nat → Prop) (L : List (Int × Int)) (V : List Un) (M : List Nat) (h : TabU w b S L V M) (k : Int) (hk : ¬ (0 ≤ k ∧ k < (M.length : Int))) :
    Calls Try.prog 47 #[.pointer (some ⟨b, 0, none⟩), .int .i64 k] w fun e w' => e = .returned (.int .i64 30) ∧ w' = w := by
  obtain ⟨pm, ra, rc, ba, bc, ma, mc, m, h1, rfl, h2⟩ := h
  have IM : Hid (Calls Try.prog 76 #[.pointer (some ⟨b, 0, none⟩), .int .i64 k] w fun e w' => e = .returned (.bool false) ∧ w' = w) := by
    have := isMark_is w b pm ra rc ba bc ma mc m L (V.map uv) M h1 k
    rw [decide_eq_false hk] at this
    exact this
  clear h1 h2 hk
  go_enter Try.func47, Try.ntmps47
  go_wp2_with (go_at_call 76; refine (IM.out).mono ?_; rintro e w' ⟨rfl, hw⟩; (have hw2 := hw.symm); clear hw; subst hw2)
  go_ret
  exact ⟨rfl, rfl⟩
theorem takeMarks {v : World} {b pm : Nat} {ra : Option Addr} {rc : Nat} {ba : Option Addr} {bc : Nat} {ma : Option Addr} {mc n : Nat} {m : Int → Option Nat} {L : List (Int × Int)} {U : List Value} {M : List Nat} (h : Tab0 v b pm ra rc ba bc ma mc n m L U M) (k : Nat) (hk : k ≤ M.length) : Tab0 (v.setCell ⟨b, 3, none⟩ (.slice ma k mc)) b pm ra rc ba bc ma mc n m L U (M.take k) ∧ But (TS b pm ra ba ma) v (v.setCell ⟨b, 3, none⟩ (.slice ma k mc)) ∧ k ≤ mc := by
  have el : (M.take k).length = k := List.length_take_of_le hk
  have hR : v.ownsRow 0 3 1 (.slice ma (M.take k).length mc) (M.take k).length (mksD (M.take k)) := by
    rw [el, ← mksD_take]
    have := row_take h.marks k hk
    rw [Nat.mul_one] at this
    exact this
  have U4 := h.upMarks (ma' := ma) (mc' := mc) (M' := M.take k) (But.refl _ _) hR (Or.inl rfl)
  rw [el] at U4 hR
  refine ⟨U4.1, U4.2.1, ?_⟩
  rcases hR.2 with ⟨e1, e2⟩ | ⟨g9, c, cur, e1, _, _, h9, _⟩
  · omega
  · injection e1 with _ _ e3
    omega
set_option maxHeartbeats 2000000 in
set_option maxRecDepth 100000 in
theorem forget_yes (w : World) (b : Nat) (S : Nat → Prop) (L : List (Int × Int)) (V : List Un) (M : List Nat) (h : TabU w b S L V M) (k : Nat) (hk : k < M.length) (hM : M.length < 549755813888) :
    Calls Try.prog 47 #[.pointer (some ⟨b, 0, none⟩), .int .i64 (k : Int)] w fun e w' => e = .returned (.int .i64 0) ∧ TabU w' b S L (if k = 0 then [] else V) (M.take k) ∧ But S w w' := by
  obtain ⟨pm, ra, rc, ba, bc, ma, mc, m, h1, rfl, h2⟩ := h
  have IM : Hid (Calls Try.prog 76 #[.pointer (some ⟨b, 0, none⟩), .int .i64 (k : Int)] w fun e w' => e = .returned (.bool true) ∧ w' = w) := by
    have := isMark_is w b pm ra rc ba bc ma mc m L (V.map uv) M h1 (k : Int)
    rw [decide_eq_true ⟨by omega, by omega⟩] at this
    exact this
  have HH : Hid (Tab w b pm ra rc ba bc ma mc m L (V.map uv) M ∧ (∀ u ∈ V, UnOk w b (TS b pm ra ba ma) u) ∧ k ≤ M.length) := ⟨h1, h2, by omega⟩
  obtain ⟨mn, em⟩ : ∃ mn, M.length = mn := ⟨_, rfl⟩
  have EM : Hid (M.length = mn) := em
  have kX : (k : Int) < (mn : Int) := by omega
  have mX : (mn : Int) < 549755813888 := by omega
  have MC := (takeMarks h1.toTab0 k (by omega)).2.2
  have hs5 := fun W => slice_head (W := W) und_ints elem_ints size_int ma mn mc k MC
  by_cases k0 : k = 0
  · have kz : ((k : Int) == 0) = true := by simp [k0]
    rw [if_pos k0]
    have DR : Hid (Calls Try.prog 77 #[.pointer (some ⟨b, 0, none⟩), .int .i64 0] w fun e w' => e = .returned (.tuple #[]) ∧ Tab0 w' b pm ra rc ba bc ma mc L.length m L ((V.map uv).take 0) M ∧ But (TS b pm ra ba ma) w w') := drop_is w b pm ra rc ba bc ma mc _ m L (V.map uv) M h1.toTab0 0 (Nat.zero_le _)
    clear h1 h2 hk hM MC em k0
    go_enter Try.func47, Try.ntmps47
    go_wp2_with (first | (go_at_call 76; refine (IM.out).mono ?_; rintro e w' ⟨rfl, hw⟩; (have hw2 := hw.symm); clear hw IM; subst hw2) | (go_at_call 77; refine (DR.out).mono ?_; rintro e v3 ⟨rfl, q1, q2⟩; (have Q3 : Hid (Tab0 v3 b pm ra rc ba bc ma mc L.length m L ((V.map uv).take 0) M ∧ But (TS b pm ra ba ma) w v3) := ⟨q1, q2⟩); (have d3 : v3.cell? ⟨b, 3, none⟩ = some (.slice ma mn mc) := by have := q1.c3; rw [EM.out] at this; exact this); (have e3 : v3.frozen? ⟨b, 3, none⟩ = false := q1.fr 3); (have hs6 := hs5 v3); clear q1 q2 DR hs5))
    go_ret
    have t4 := takeMarks Q3.out.1 k HH.out.2.2
    refine ⟨rfl, ⟨pm, ra, rc, ba, bc, ma, mc, m, ⟨t4.1, HH.out.1.ix, HH.out.1.keys⟩, rfl, fun u hu => (by cases hu)⟩, Q3.out.2.trans t4.2.1⟩
  · have c3 : w.cell? ⟨b, 3, none⟩ = some (.slice ma mn mc) := by rw [← em]; exact h1.c3
    have f3 : w.frozen? ⟨b, 3, none⟩ = false := h1.fr 3
    have hs6 := hs5 w
    have kz : ((k : Int) == 0) = false := by simpa using k0
    rw [if_neg k0]
    clear h1 h2 hk hM MC em hs5 k0
    go_enter Try.func47, Try.ntmps47
    go_wp2_with (go_at_call 76; refine (IM.out).mono ?_; rintro e w' ⟨rfl, hw⟩; (have hw2 := hw.symm); clear hw IM; subst hw2)
    go_ret
    have t4 := takeMarks HH.out.1.toTab0 k HH.out.2.2
    exact ⟨rfl, ⟨pm, ra, rc, ba, bc, ma, mc, m, ⟨t4.1, HH.out.1.ix, HH.out.1.keys⟩, rfl, fun u hu => (HH.out.2.1 u hu).but t4.2.1 (Grown.refl _ _)⟩, t4.2.1⟩
end Go.Proofs.Ytohfkgfjcnldaaa
