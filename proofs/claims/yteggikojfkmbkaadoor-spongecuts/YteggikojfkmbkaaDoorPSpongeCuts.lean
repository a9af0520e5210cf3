/- SpongeCuts: for every two slices of bytes and every slice of numbers, in whatever world in which the package's three tables hold what the program's text lays into them, the call returns true, and each argument reads behind it as before; the tables are tied to the text (a card). No condition besides. -/
import Derived.Test.YteggikojfkmbkaaDoorKf
import Derived.Test.YteggikojfkmbkaaDoorKce
import Derived.Test.YteggikojfkmbkaaDoorKfc
import Derived.Test.YteggikojfkmbkaaDoorCards
import Derived.Test.YteggikojfkmbkaaDoorTie
import Derived.SevenTiedAt
namespace Go.Proofs.YteggikojfkmbkaaDoor
open Go.ChangeShapes Go.WideShapes Go.ChangeAt Go.RowKit

set_option maxHeartbeats 1000000 in
theorem cuts_big (w : World) (hT : Tabs w) (ad la ao : Option Addr) (cap lc co n m no : Nat) (h : 16777216 < n ∨ 4096 < m ∨ 4096 < no) (hn : n ≤ 9223372036854775807) (hm : m ≤ 9223372036854775807) (hno : no ≤ 9223372036854775807) : Calls Tryd.prog 6 #[.slice ad n cap, .slice la m lc, .slice ao no co] w fun e w' => e = .returned (.bool true) ∧ Below w.heap.size w w' := by
  have HT : Hid (Tabs w) := hT
  clear hT
  by_cases h1 : 16777216 < n
  · have hI : (16777216 : Int) < (n : Int) := by omega
    clear h
    go_enter Tryd.func6, Tryd.ntmps6
    go_wp2_with (go_at_call 26; refine (known_any _ HT.out).mono ?_; rintro e v1 ⟨rfl, hB1⟩; (have W1 : Hid (Below w.heap.size w v1) := hB1); clear hB1)
    go_ret
    exact ⟨rfl, W1.out⟩
  · have hI : ¬ ((16777216 : Int) < (n : Int)) := by omega
    by_cases h2 : 4096 < m
    · have mI : (4096 : Int) < (m : Int) := by omega
      clear h
      go_enter Tryd.func6, Tryd.ntmps6
      go_wp2_with (go_at_call 26; refine (known_any _ HT.out).mono ?_; rintro e v1 ⟨rfl, hB1⟩; (have W1 : Hid (Below w.heap.size w v1) := hB1); clear hB1)
      go_ret
      exact ⟨rfl, W1.out⟩
    · have mI : ¬ ((4096 : Int) < (m : Int)) := by omega
      have oI : (4096 : Int) < (no : Int) := by omega
      clear h
      go_enter Tryd.func6, Tryd.ntmps6
      go_wp2_with (go_at_call 26; refine (known_any _ HT.out).mono ?_; rintro e v1 ⟨rfl, hB1⟩; (have W1 : Hid (Below w.heap.size w v1) := hB1); clear hB1)
      go_ret
      exact ⟨rfl, W1.out⟩
theorem spongeCuts_walk (w : World) (hT : Tabs w) (ad ao : Option Addr) (cap co : Nat) (l o : List Nat) (hv : Seg w (.slice ad l.length cap) l) (ho : Seg w (.slice ao o.length co) o) (hl : ∀ i, l.getD i 0 < 256) (hlo : ∀ i, o.getD i 0 < 256)
    (la : Option Addr) (lc m : Nat) (zs : List Int) (hm : m ≤ maxLen) (hc : m ≠ 0 → ∃ pb po, la = some ⟨pb, po, none⟩ ∧ ∀ i, i < m → w.cell? ⟨pb, po + i, none⟩ = some (.int .i64 (zs.getD i 0))) :
    Calls Tryd.prog 6 #[.slice ad l.length cap, .slice la m lc, .slice ao o.length co] w fun e w' => e = .returned (.bool true) ∧ Below w.heap.size w w' := by
  have k1 : l.length ≤ maxLen := by obtain ⟨_, _, _, h2, h3, _⟩ := hv; omega
  have k2 : o.length ≤ maxLen := by obtain ⟨_, _, _, h2, h3, _⟩ := ho; omega
  unfold maxLen at k1 k2 hm
  by_cases h : 16777216 < l.length ∨ 4096 < m ∨ 4096 < o.length
  · exact cuts_big w hT ad la ao cap lc co l.length m o.length h (by omega) (by omega) (by omega)
  · exact cuts_walk w hT ad ao cap co l o hv ho hl hlo (by omega) (by omega) la lc m zs (by omega) hc
set_option maxRecDepth 100000 in
theorem spongeCuts_lifted (os : Os) (started : os.Started) (H : Type) (enc : TypeId × Value → H) :
    ReturnsInHanded {} Tryd.checked os 6 .any (fun w args => (Rows.spongeCutsSpec.pre enc Tryd.prog Tryd.f6 [] false w args ∧ laidMetH Tryd.prog laid3 w) ∧ sizedMet enc Tryd.prog Tryd.f6 (OpenSpec.ofChange Rows.spongeCutsSpec) false w args)
      (Rows.spongeCutsSpec.post enc Tryd.prog Tryd.f6 false true false false) := by
  refine returnsInHanded_of_change_and (C := Tryd.checked) (X := fun w _ => laidMetH Tryd.prog laid3 w) (fun _ _ _ hh h => h.of_heap hh) Tryd.own started (by kernel_rfl) Tryd.func6
    (ChangeSpec.witness_shaped (enc := enc) (C := Tryd.checked) (os := os) (X := fun w _ => laidMetH Tryd.prog laid3 w) false (World.doorLaid Tryd.prog 400 os) #[.slice none 0 0, .slice none 0 0, .slice none 0 0] 8 rfl (World.shaped_of_RefB (by kernel_rfl) (by kernel_rfl)) (by kernel_rfl) (by kernel_rfl) (by kernel_rfl) (door_met os _)) ?_
  intro W base args ds gs before hval0 hW _ _ hL _
  have hval : ∀ (j : Nat) t v, Tryd.f6.params[j]? = some t → args[j]? = some v → Value.okWide Tryd.prog W .any base t v := hval0
  have hW' := hW
  obtain ⟨p, q, hA0, hV, rfl, hfz, hnd⟩ := hW
  have hA : DataW.TrodAll enc Tryd.prog W 0 (fun _ => true) true Tryd.f6.params.toList args.toList ds p := hA0
  rw [Tryd.params6] at hA hval
  obtain ⟨v0, vs0, d0, ds0, p0, q0, hargs, rfl, rfl, h0, r0⟩ := trodAll_cons hA
  obtain ⟨v1, vs1, d1, ds1, p1, q1, hargs1, rfl, rfl, h1, r1⟩ := trodAll_cons r0
  obtain ⟨v2, vs2, d2, ds2, p2, q2, hargs2, rfl, rfl, h2, r2⟩ := trodAll_cons r1
  obtain ⟨rfl, rfl, rfl⟩ := trodAll_nil r2
  obtain rfl : args = #[v0, v1, v2] := by cases args; simp_all
  obtain ⟨rfl, rfl⟩ := trodVars_none hV
  have k0 := h0
  have k1 := h1
  have k2 := h2
  have lt0 : ∀ x ∈ p0, x.block < W.heap.size := by obtain ⟨m, hm⟩ := k0; exact DataW.trod_lt m _ _ _ hm
  have lt1 : ∀ x ∈ p1, x.block < W.heap.size := by obtain ⟨m, hm⟩ := k1; exact DataW.trod_lt m _ _ _ hm
  have lt2 : ∀ x ∈ p2, x.block < W.heap.size := by obtain ⟨m, hm⟩ := k2; exact DataW.trod_lt m _ _ _ hm
  obtain ⟨ad, cap, l, rfl, hl, hsg⟩ := openSeg (hval 0 29 v0 rfl rfl) h0
  obtain ⟨la, lc, m, zs, rfl, hm, hc⟩ := openI (hval 1 50 v1 rfl rfl) h1
  obtain ⟨ao, co, o, rfl, hlo, hso⟩ := openSeg (hval 2 29 v2 rfl rfl) h2
  clear hA0 hval0
  refine (spongeCuts_walk W (tabs_of_laid hL) ad ao cap co l o hsg hso hl hlo la lc m zs hm hc).mono fun e W' ⟨he, bel⟩ => ?_
  subst he
  exact ⟨_, rfl, _, _, _, [], _, [], hW', trodAll_mk1 (shut_bool Tryd.underlying4 _), (trodAll_cons_mk (Below.trod Tryd.laidOut (by kernel_rfl) (of_decide_eq_true (by kernel_rfl)) k0 bel lt0) (trodAll_cons_mk (Below.trod Tryd.laidOut (by kernel_rfl) (of_decide_eq_true (by kernel_rfl)) k1 bel lt1) (trodAll_cons_mk (Below.trod Tryd.laidOut (by kernel_rfl) (of_decide_eq_true (by kernel_rfl)) k2 bel lt2) trodAll_mk0))), rfl, bel.frame _, fun h => by cases h⟩

theorem spongeCuts_row : Rows.SpongeCutsSaid :=
  OpenClaim.holds_of_wide 6 Tryd.f6 rfl rfl rfl rfl rfl rfl rfl ⟨rfl, rfl, rfl, rfl, rfl⟩ rfl rfl rfl rfl rfl (by kernel_rfl) Tryd.func6 (by kernel_rfl)
    (of_decide_eq_true (by kernel_rfl)) (by unfold Func.isWrapper; first | (rw [if_pos (by decide +kernel)]; kernel_rfl) | (rw [if_neg (by decide +kernel)]; exact ⟨rfl, rfl⟩))
    (fun os started H enc _ => spongeCuts_lifted os started H enc)
theorem spongeCuts_holds : Rows.SpongeCutsCardSaid :=
  Claim7.holds_tied_plain_at .later [] [.data, .data, .data] true (true, "2677852aa0de3483ce2a1a2e8852c94a40522379c82480f4aeb970673792fd9a") false
    spongeCuts_row (fun _ h => by cases h) (by kernel_rfl) (fun _ h => by cases h) spongeCuts_row_tie rfl ⟨rfl, rfl⟩ (by kernel_rfl) rfl
    (fun f fn hf hfn => by
      obtain rfl : f = 6 := Option.some.inj ((show Tryd.prog.funcNamed "vouch/vouchlaw2.SpongeCuts" = some 6 by kernel_rfl).symm.trans hf) |>.symm
      obtain rfl : fn = Tryd.f6 := (Option.some.inj (Tryd.func6.symm.trans hfn)).symm
      exact ⟨by kernel_rfl, fun j t ht => by
        rw [Tryd.params6] at ht
        have h3 : t = 29 ∨ t = 50 := by
          rcases j with _ | _ | _ | j
          · exact Or.inl (by simpa using ht.symm)
          · exact Or.inr (by simpa using ht.symm)
          · exact Or.inl (by simpa using ht.symm)
          · simp at ht
        rcases h3 with rfl | rfl
        · exact (show Tryd.prog.wantsStandIn 29 = false by kernel_rfl)
        · exact (show Tryd.prog.wantsStandIn 50 = false by kernel_rfl)⟩)
    (by kernel_rfl)
end Go.Proofs.YteggikojfkmbkaaDoor
