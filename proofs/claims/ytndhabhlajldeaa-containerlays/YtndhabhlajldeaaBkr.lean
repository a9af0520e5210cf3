/- bytes.Clone; package container: the reader's lengths and measure. -/
import Derived.Test.YtndhabhlajldeaaBkq
namespace Go.Proofs.Ytndhabhlajldeaa
open Go.RowKit
theorem owns_emptyB (w : World) : (w.alloc (.cells #[] 5)).ownsRow w.heap.size 5 1 (.slice (some ⟨w.heap.size, 0, none⟩) 0 0) ([] : List Nat).length (bV []) :=
  ⟨rfl, Or.inr ⟨w.heap.size, 0, #[], rfl, Nat.le_refl _, heap_alloc_new w _, by simp, by simp, by simp, by simp [bV]⟩⟩
theorem nilB (W : World) : Sem.run Try.prog (binOp BinOp.eql 22 (.slice none 0 0) (.slice none 0 0)) W = .ok (.bool true) W := by kernel_rfl
theorem notNilB (W : World) (a : Addr) (n c : Nat) : Sem.run Try.prog (binOp BinOp.eql 22 (.slice (some a) n c) (.slice none 0 0)) W = .ok (.bool false) W := by kernel_rfl
set_option maxHeartbeats 4000000 in
set_option maxRecDepth 100000 in
theorem clone_is {P : Nat → Prop} (w : World) (v : Value) (l : List Nat) (h : BL P w v l) (hl : l.length ≤ 2199023255552) : Calls Try.prog 88 #[v] w fun e w' => ∃ v', e = .returned v' ∧ w'.ownsRow w.heap.size 5 1 v' l.length (bV l) ∧ Below w.heap.size w w' := by
  obtain ⟨_, ad, cap, rfl, h0, h1, hz, h2⟩ := id h
  cases ad with
  | none =>
    have e0 : cap = 0 := hz rfl
    have e1 : l.length = 0 := by omega
    obtain rfl := List.eq_nil_of_length_eq_zero e1
    subst e0
    clear h h0 h1 h2 hz e1 hl
    have hnil := nilB w
    go_enter Try.func88, Try.ntmps88
    go_wp2
    go_ret
    exact ⟨_, rfl, World.ownsRow_nil _ _ _ _, Below.refl _ _⟩
  | some a =>
    have HB : Hid (BL P (w.alloc (.cells #[] 5)) (.slice (some a) l.length cap) l) := h.past (below_alloc _ _)
    have HO : Hid ((w.alloc (.cells #[] 5)).ownsRow w.heap.size 5 1 (.slice (some ⟨w.heap.size, 0, none⟩) 0 0) ([] : List Nat).length (bV [])) := owns_emptyB w
    have HP : Hid (Below w.heap.size w (w.alloc (.cells #[] 5))) := below_alloc _ _
    have HL : Hid (([] : List Nat).length + l.length ≤ 2199023255552) := by unfold Hid; simpa using hl
    generalize hn : l.length = n at *
    have HN : Hid (l.length = n) := hn
    have HL2 : Hid (([] : List Nat).length + l.length ≤ 2199023255552) := by unfold Hid; rw [hn]; exact HL.out
    clear h h0 h1 h2 hz hn hl HL
    have hnil := notNilB w a n cap
    go_enter Try.func88, Try.ntmps88
    go_wp2_with (at_builtin; refine wpList_appB rfl _ _ rfl w.heap.size HP.out.size (.slice (some ⟨w.heap.size, 0, none⟩) 0 0) [] rfl HO.out (.slice (some a) n cap) l rfl HB.out HL2.out ?_; intro v' w' hA)
    go_ret
    exact ⟨_, rfl, by have := hA.row; rw [List.nil_append, HN.out] at this; exact this, HP.out.trans (hA.below HO.out HP.out.size)⟩
set_option maxHeartbeats 4000000 in
set_option maxRecDepth 100000 in
theorem len1_is (V : World) (x : Nat) : Calls Try.prog 113 #[.int .u64 (x : Int)] V fun e V' => e = .returned (.bool (decide (0 < x))) ∧ V' = V := by
  go_enter Try.func113, Try.ntmps113
  go_wp2
  go_ret
  exact ⟨rfl, rfl⟩
/-- the numbers so far, zeros behind them -/
theorem uV_set (L : List Nat) (r x : Nat) : (uV (L ++ List.replicate (r + 1) 0)).set L.length (.int .u64 (x : Int)) = uV ((L ++ [x]) ++ List.replicate r 0) := by
  unfold uV
  rw [List.map_append, List.set_append_right _ _ (by simp), List.length_map, Nat.sub_self, List.replicate_succ, List.map_cons, List.set_cons_zero, List.map_append, List.map_append]
  simp
theorem lens_len : ∀ (b : List Nat) (wd k m : Nat) (l : List Nat), lens b wd k m = .ok l → l.length = m
  | b, wd, k, 0, l, h => by unfold lens at h; cases h; rfl
  | b, wd, k, m + 1, l, h => by
    unfold lens at h
    cases e1 : fld b k wd 56 (fun n => decide (0 < n)) with
    | error er => rw [e1] at h; cases h
    | ok x =>
      rw [e1] at h
      cases e2 : lens b wd (k + wd) m with
      | error er => simp only [Except.bind, e2] at h; cases h
      | ok r =>
        simp only [Except.bind, e2] at h
        cases h
        rw [List.length_cons, lens_len b wd (k + wd) m r e2]
/-- lengths that were read -/
structure LnQ (rb : Nat) (w w' : World) (bs : Value) (b : List Nat) (k : Nat) (e : Ending) (l : List Nat) : Prop where
  ex : ∃ g, e = .returned (.slice (some ⟨g, 0, none⟩) l.length l.length) ∧ CBox w' g 73 (uV l) ∧ w.heap.size ≤ g
  rd : Rdr w' rb bs b k
  but : RB rb w w'
set_option maxHeartbeats 4000000 in
set_option maxRecDepth 100000 in
theorem rlengths_is (w : World) (rb : Nat) (bs : Value) (b : List Nat) (k m wd : Nat) (h : Rdr w rb bs b k) (hk : k ≤ b.length) (hw : wd ≤ 8) (hm : m ≤ 16777216) :
    Calls Try.prog 94 #[.pointer (some ⟨rb, 0, none⟩), .int .u64 (m : Int), .int .i64 (wd : Int)] w fun e w' => Out rb w (lens b wd k m) (fun l e w' => LnQ rb w w' bs b (k + wd * m) e l) e w' := by
  obtain ⟨W1, hmk, hcb, hB1, hsz⟩ := make_n 82 73 (.int .u64 0) (.int .u64 0) 1 8 Try.underlying82 Try.infoU (one_cell rfl) (by simp [Value.cells]) .u64 w m (by omega) (by omega)
  have NE : Hid (w.heap.size ≠ rb) := by unfold Hid; have := h.box.lt; omega
  obtain ⟨LL, hLL⟩ : ∃ LL, LL = lens b wd k m := ⟨_, rfl⟩
  rw [← hLL]
  have C0 : Hid (CBox W1 w.heap.size 73 (uV ([] ++ List.replicate (m - 0) 0)) ∧ RB rb w W1 ∧ Rdr W1 rb bs b (k + wd * 0) ∧ k + wd * 0 ≤ b.length ∧ LL = (lens b wd (k + wd * 0) (m - 0)).bind fun r => .ok ([] ++ r)) := ⟨by rw [Nat.mul_one] at hcb; simpa [uV] using hcb, below_but hB1, h.past hB1, by omega, by rw [hLL]; cases lens b wd k m <;> simp [Except.bind]⟩
  have HK : Hid (wd ≤ 8 ∧ m ≤ 16777216) := ⟨hw, hm⟩
  have HRB : Hid (rb < w.heap.size) := h.box.lt
  have mI : (m : Int) ≤ 16777216 := by omega
  clear hcb hB1 hsz h hk
  clear hLL hw hm
  go_enter Try.func94, Try.ntmps94
  go_upto_region 2 with fail
  generalize hg : w.heap.size = g at *
  have HG : Hid (w.heap.size = g) := hg
  clear hmk hg
  go_wp2
  go_loopw [13] (fun s13 wr => ∃ (i : Nat) (L : List Nat), s13 = .int .i64 (i : Int) ∧ i ≤ m ∧ L.length = i ∧ CBox wr g 73 (uV (L ++ List.replicate (m - i) 0)) ∧ RB rb w wr ∧ Rdr wr rb bs b (k + wd * i) ∧ k + wd * i ≤ b.length ∧ LL = (lens b wd (k + wd * i) (m - i)).bind fun r => .ok (L ++ r)) (fun s13 _ => m - (intOf s13).toNat)
  case atStart => exact ⟨0, [], rfl, by omega, rfl, C0.out⟩
  case round =>
    obtain ⟨i, L, rfl, hi, hL, hC, hB, hR, hkl, hE⟩ := hrel
    have HC : Hid (CBox wr g 73 (uV (L ++ List.replicate (m - i) 0)) ∧ RB rb w wr ∧ Rdr wr rb bs b (k + wd * i)) := ⟨hC, hB, hR⟩
    have HE : Hid (LL = (lens b wd (k + wd * i) (m - i)).bind fun r => .ok (L ++ r)) := hE
    have HLn : Hid (L.length = i) := hL
    clear hC hB hR hE C0 hL
    by_cases e : i = m
    · subst e
      have E0 : Hid (LL = .ok L) := by unfold Hid; rw [HE.out, Nat.sub_self, lens]; simp [Except.bind]
      have E1 : Hid (CBox wr g 73 (uV L)) := by have := HC.out.1; rwa [Nat.sub_self, List.replicate_zero, List.append_nil] at this
      go_wp2
      go_ret
      rw [E0.out]
      exact ⟨⟨g, by rw [HLn.out]; rfl, E1.out, by rw [HG.out]; exact Nat.le_refl _⟩, HC.out.2.2, HC.out.2.1⟩
    · have iI : (i : Int) < (m : Int) := by omega
      obtain ⟨r, hr⟩ : ∃ r, m - i = r + 1 := ⟨m - i - 1, by omega⟩
      have hE2 : LL = ((fld b (k + wd * i) wd 56 (fun n => decide (0 < n))).bind fun n => (lens b wd (k + wd * i + wd) r).bind fun q => .ok (n :: q)).bind fun q => .ok (L ++ q) := by rw [HE.out, hr]; rfl
      have FC0 := field0_is wr rb bs b (k + wd * i) wd 56 HC.out.2.2 hkl HK.out.1 (fun n => decide (0 < n)) 113 (fun _ _ => by kernel_rfl) (fun V _ => len1_is V (rd b (k + wd * i) wd))
      have ek : k + wd * i + wd = k + wd * (i + 1) := by rw [Nat.mul_add]; omega
      rw [ek] at FC0 hE2
      have HE2 : Hid _ := hE2
      have FC : Hid _ := FC0
      have FK : Hid (∀ x, fld b (k + wd * i) wd 56 (fun n => decide (0 < n)) = .ok x → k + wd * (i + 1) ≤ b.length) := fun x q => by
        rw [← ek]
        unfold fld at q
        split at q
        · cases q
        · omega
      generalize fld b (k + wd * i) wd 56 (fun n => decide (0 < n)) = FF at *
      have HR1 : Hid (m - i = r + 1) := hr
      clear hE2 FC0 hkl hr ek HE
      cases FF with
      | error er =>
        obtain ⟨ec, ea⟩ := er
        have E0 : Hid (LL = .error (ec, ea)) := HE2.out
        go_wp2_with (go_at_call 91; refine Calls.mono FC.out ?_; rintro e w' ⟨rfl, hB⟩; unfold thrown rejV)
        refine ⟨rfl, ?_⟩
        rw [E0.out]
        exact ⟨rfl, HC.out.2.1.trans hB⟩
      | ok x =>
        have E0 : Hid (LL = (lens b wd (k + wd * (i + 1)) (m - (i + 1))).bind fun q => .ok ((L ++ [x]) ++ q)) := by
          unfold Hid
          rw [HE2.out, show m - (i + 1) = r by have := HR1.out; omega]
          cases lens b wd (k + wd * (i + 1)) r <;> simp [Except.bind]
        have HLe : Hid (k + wd * (i + 1) ≤ b.length) := FK.out x rfl
        clear HE2 FK
        go_upto_region 6 with (go_at_call 91; refine Calls.mono FC.out ?_; rintro e w1 ⟨rfl, hR, hB⟩; (have z1 : w1.cell? ⟨g, i, none⟩ = some (.int .u64 0) := by (rw [(HC.out.1.but hB NE.out).cell, HR1.out]; simp [uV, HLn.out])); (have z2 := (HC.out.1.but hB NE.out).frozen i))
        have HN : Hid (CBox (w1.setCell ⟨g, i, none⟩ (.int .u64 (x : Int))) g 73 (uV ((L ++ [x]) ++ List.replicate (m - (i + 1)) 0)) ∧ RB rb w (w1.setCell ⟨g, i, none⟩ (.int .u64 (x : Int))) ∧ Rdr (w1.setCell ⟨g, i, none⟩ (.int .u64 (x : Int))) rb bs b (k + wd * (i + 1))) := by
          have hs : But (fun q => q = g) w1 (w1.setCell ⟨g, i, none⟩ (.int .u64 (x : Int))) := (But.refl (fun q => q = g) w1).setCell ⟨g, i, none⟩ _ (Or.inl rfl)
          refine ⟨?_, (HC.out.2.1.trans hB).setCell ⟨g, i, none⟩ _ (Or.inr (by rw [HG.out]; exact Nat.le_refl _)), ⟨hR.box.but hs (Ne.symm NE.out), hR.by'.but hs (fun q hq e => by have h1 := HG.out; have h2 := HRB.out; omega), hR.byt, hR.len⟩⟩
          have h9 := (HC.out.1.but hB NE.out).set i (.int .u64 (x : Int))
          rw [HR1.out, ← HLn.out, uV_set] at h9
          rw [show m - (i + 1) = r by have := HR1.out; omega]
          rw [HLn.out] at h9
          exact h9
        clear z1 z2 hR hB FC
        go_wp2
        go_roundw
        case rel => exact ⟨i + 1, L ++ [x], by first | rfl | go_num, by omega, by rw [List.length_append, HLn.out]; rfl, HN.out.1, HN.out.2.1, HN.out.2.2, HLe.out, E0.out⟩
        case measure => simp [intOf]; omega
end Go.Proofs.Ytndhabhlajldeaa
