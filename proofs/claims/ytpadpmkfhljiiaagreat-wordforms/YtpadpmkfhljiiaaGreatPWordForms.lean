/- WordForms: for every list of bytes, word, number of 64 bits and address, in whatever world, the call returns true, and each argument reads behind it as before. No condition. -/
import Derived.Test.YtpadpmkfhljiiaaGreatMf1
import Derived.Test.YtpadpmkfhljiiaaGreatMf8
import Derived.Test.YtpadpmkfhljiiaaGreatMf9
namespace Go.Proofs.YtpadpmkfhljiiaaGreat
open Go.ChangeShapes Go.WideShapes Go.ChangeAt Go.RowKit

set_option maxHeartbeats 1000000 in
set_option maxRecDepth 100000 in
theorem forms_big (w : World) (ad : Option Addr) (n cap : Nat) (h : 1048576 < n) (hm : n ≤ 9223372036854775807) (x0 x1 x2 x3 : Int) (m : Int) (f : Nat → Nat) : Calls Tryz.prog 8 #[.slice ad n cap, .agg #[.int .u64 x0, .int .u64 x1, .int .u64 x2, .int .u64 x3], .int .u64 m, .agg (rowB 20 (fun i => (f i : Int))).toArray] w fun e w' => e = .returned (.bool true) ∧ Below w.heap.size w w' := by
  have hI : (1048576 : Int) < (n : Int) := by omega
  have B0 : Hid (Below w.heap.size w (w.alloc (.cells #[.int .u64 x0, .int .u64 x1, .int .u64 x2, .int .u64 x3] 24))) := (Below.refl _ _).alloc (Nat.le_refl _) _
  go_enter Tryz.func8, Tryz.ntmps8
  go_upto_region 1 with (refine box20 (fun i => (f i : Int)) rfl _ rfl rfl ?_; intro W0 hW0)
  have K0 : Hid (Below w.heap.size w W0) := B0.out.trans (hW0.bel.mono (by simp))
  clear hW0 B0
  go_wp2
  go_ret
  exact ⟨rfl, K0.out⟩
theorem forms_any (w : World) (v : Value) (n : Nat) (u : Nat → Nat) (hv : BytesAt w v n u) (hm : n ≤ maxLen) (X : Int) (x0 x1 x2 x3 : Int) (hx : IsW X x0 x1 x2 x3) (m : Int) (f : Nat → Nat) (hf : ∀ i, f i < 256) :
    Calls Tryz.prog 8 #[v, .agg #[.int .u64 x0, .int .u64 x1, .int .u64 x2, .int .u64 x3], .int .u64 m, .agg (rowB 20 (fun i => (f i : Int))).toArray] w fun e w' => e = .returned (.bool true) ∧ Below w.heap.size w w' := by
  unfold maxLen at hm
  by_cases h : 1048576 < n
  · obtain ⟨_, ad, cap, rfl, _⟩ := hv
    exact forms_big w ad n cap h (by omega) x0 x1 x2 x3 m f
  · exact forms_walk w v n u hv (by omega) X x0 x1 x2 x3 hx m f hf
set_option maxRecDepth 100000 in
theorem wordForms_lifted (os : Os) (started : os.Started) (H : Type) (enc : TypeId × Value → H) :
    ReturnsInHanded {} Tryz.checked os 8 .any (Rows.wordFormsSpec.pre6 enc Tryz.prog Tryz.f8 Rows.wordFormsRow.domain false) (Rows.wordFormsSpec.post enc Tryz.prog Tryz.f8 false true false false) := by
  refine returnsInHanded_of_change (C := Tryz.checked) Tryz.own started (by kernel_rfl) Tryz.func8
    (ChangeSpec.witness6 (enc := enc) (C := Tryz.checked) false ⟨#[], #[.slice none 0 0, .agg #[.int .u64 0, .int .u64 0, .int .u64 0, .int .u64 0], .int .u64 0, .agg (rowB 20 (fun _ => 0)).toArray], []⟩ 8 (by kernel_rfl) (by kernel_rfl) (by kernel_rfl) (by kernel_rfl)) ?_
  intro W base args ds gs before hval0 hW hcnd _
  have hval : ∀ (j : Nat) t v, Tryz.f8.params[j]? = some t → args[j]? = some v → Value.okWide Tryz.prog W .any base t v := hval0
  have hW' := hW
  obtain ⟨p, q, hA0, hV, rfl, hfz, hnd⟩ := hW
  have hA : DataW.TrodAll enc Tryz.prog W 0 (fun _ => true) true Tryz.f8.params.toList args.toList ds p := hA0
  rw [Tryz.params8] at hA hval
  obtain ⟨v0, vs0, d0, ds0, p0, q0, hargs, rfl, rfl, h0, r0⟩ := trodAll_cons hA
  obtain ⟨v1, vs1, d1, ds1, p1, q1, rfl, rfl, rfl, h1, r1⟩ := trodAll_cons r0
  obtain ⟨v2, vs2, d2, ds2, p2, q2, rfl, rfl, rfl, h2, r2⟩ := trodAll_cons r1
  obtain ⟨v3, vs3, d3, ds3, p3, q3, rfl, rfl, rfl, h3, r3⟩ := trodAll_cons r2
  obtain ⟨rfl, rfl, rfl⟩ := trodAll_nil r3
  obtain rfl : args = #[v0, v1, v2, v3] := by cases args; simp_all
  obtain ⟨rfl, rfl⟩ := trodVars_none hV
  have k0 := h0
  have lt0 : ∀ x ∈ p0, x.block < W.heap.size := by obtain ⟨m, hm⟩ := k0; exact DataW.trod_lt m _ _ _ hm
  obtain ⟨n, u, hmx, hv⟩ := openBs (hval 0 35 v0 rfl rfl) h0
  have k1 := h1
  have lt1 : ∀ x ∈ p1, x.block < W.heap.size := by obtain ⟨m, hm⟩ := k1; exact DataW.trod_lt m _ _ _ hm
  have k2 := h2
  have lt2 : ∀ x ∈ p2, x.block < W.heap.size := by obtain ⟨m, hm⟩ := k2; exact DataW.trod_lt m _ _ _ hm
  have k3 := h3
  have lt3 : ∀ x ∈ p3, x.block < W.heap.size := by obtain ⟨m, hm⟩ := k3; exact DataW.trod_lt m _ _ _ hm
  obtain ⟨a0, a1, a2, a3, rfl, u_a0, u_a1, u_a2, u_a3⟩ := openW (hval 1 24 v1 rfl rfl) h1
  obtain ⟨nn, rfl, _⟩ := open_int Tryz.underlying22 (hval 2 22 v2 rfl rfl) h2
  obtain ⟨f, hf, rfl⟩ := openA (hval 3 37 v3 rfl rfl) h3
  clear hA0 hval0
  refine (forms_any W v0 n u hv hmx _ a0 a1 a2 a3 (isW_mk u_a0 u_a1 u_a2 u_a3) nn f hf).mono fun e W' ⟨he, bel⟩ => ?_
  subst he
  exact ⟨_, rfl, _, _, _, [], _, [], hW', trodAll_mk1 (shut_bool Tryz.underlying4 _), (trodAll_cons_mk (Below.trod Tryz.laidOut (by kernel_rfl) (of_decide_eq_true (by kernel_rfl)) k0 bel lt0) (trodAll_cons_mk (Below.trod Tryz.laidOut (by kernel_rfl) (of_decide_eq_true (by kernel_rfl)) k1 bel lt1) (trodAll_cons_mk (Below.trod Tryz.laidOut (by kernel_rfl) (of_decide_eq_true (by kernel_rfl)) k2 bel lt2) (trodAll_cons_mk (Below.trod Tryz.laidOut (by kernel_rfl) (of_decide_eq_true (by kernel_rfl)) k3 bel lt3) trodAll_mk0)))), rfl, bel.frame _, fun h => by cases h⟩

theorem wordForms_holds : Rows.WordFormsSaid :=
  OpenClaim.holds_of_wide 8 Tryz.f8 rfl rfl rfl rfl rfl rfl rfl ⟨rfl, rfl, rfl, rfl, rfl⟩ rfl rfl rfl rfl rfl (by kernel_rfl) Tryz.func8 (by kernel_rfl)
    (of_decide_eq_true (by kernel_rfl)) (by unfold Func.isWrapper; first | (rw [if_pos (by decide +kernel)]; kernel_rfl) | (rw [if_neg (by decide +kernel)]; exact ⟨rfl, rfl⟩))
    (fun os started H enc _ => wordForms_lifted os started H enc)

end Go.Proofs.YtpadpmkfhljiiaaGreat
