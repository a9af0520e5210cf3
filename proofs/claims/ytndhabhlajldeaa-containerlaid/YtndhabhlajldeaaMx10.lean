/- A law's container in its box. -/
import Derived.Test.YtndhabhlajldeaaMx7
import Derived.Lib.AppendZerosOnto
namespace Go.Proofs.Ytndhabhlajldeaa
open Go.RowKit
/-- a law's container in its box -/
structure CtM (bx : Nat) (w W : World) (L : List Value) (c : Con) : Prop where
  cb : CBox W bx 28 L
  cw : CW (fun _ => True) W (.agg L.toArray) c
  bel : Below w.heap.size w W
theorem CtM.past {bx : Nat} {w W W' : World} {L : List Value} {c : Con} (h : CtM bx w W L c) (k : Below W.heap.size W W') : CtM bx w W' L c := ⟨h.cb.past k, h.cw.past k, h.bel.trans (k.mono h.bel.size)⟩
end Go.Proofs.Ytndhabhlajldeaa
/- slices.Clone of types, package container's copies, slices.Grow and slices.Concat of bytes. -/
namespace Go.Proofs.Ytndhabhlajldeaa
open Go.RowKit
theorem nilT (W : World) : Sem.run Try.prog (binOp BinOp.eql 25 (.slice none 0 0) (.slice none 0 0)) W = .ok (.bool true) W := by kernel_rfl
theorem notNilT (W : World) (a : Addr) (n c : Nat) : Sem.run Try.prog (binOp BinOp.eql 25 (.slice (some a) n c) (.slice none 0 0)) W = .ok (.bool false) W := by kernel_rfl
theorem owns_emptyT (w : World) : (w.alloc (.cells #[] 77)).ownsRow w.heap.size 77 3 (.slice (some ⟨w.heap.size, 0, none⟩) 0 0) ([] : List Ty).length (tV []) :=
  ⟨rfl, Or.inr ⟨w.heap.size, 0, #[], rfl, Nat.le_refl _, heap_alloc_new w _, by simp, by simp, by simp, by simp [tV]⟩⟩
theorem wpList_appTs {P : Nat → Prop} {w : World} {ops : Array Oper} {rest : List Oper} {o : Oper} {a : Act} {Q : Exit → Act → World → Prop} (hgd : o.guard = none) (s x : Operand)
    (ho : o.op = .call { callee := .builtin .append, args := #[s, x], argTypes := #[25, 25] }) (B : Nat) (hB : B ≤ w.heap.size) (v : Value) (l : List Ty) (hs : a.eval s = v) (hown : w.ownsRow B 77 3 v l.length (tV l))
    (u : Value) (m : List Ty) (hx : a.eval x = u) (hu : TL P w u m) (hn : l.length + m.length ≤ 2199023255552)
    (h : ∀ v' w', App B 77 3 w w' v v' (l ++ m).length (tV (l ++ m)) → wpList Try.prog ops Q rest (a.put o.dst v') w') : wpList Try.prog ops Q (o :: rest) a w :=
  wpList_plain hgd fun _ hK => wp_appTs s x ho B hB v l hs hown u m hx hu hn fun v' w' q => hK _ _ (h v' w' q)
set_option maxHeartbeats 8000000 in
set_option maxRecDepth 100000 in
theorem cloneT_is {P : Nat → Prop} (w : World) (v : Value) (l : List Ty) (h : TL P w v l) (hl : l.length ≤ 16777216) : Calls Try.prog 60 #[v] w fun e w' => ∃ v', e = .returned v' ∧ w'.ownsRow w.heap.size 77 3 v' l.length (tV l) ∧ Below w.heap.size w w' := by
  obtain ⟨_, ad, cap, rfl, h0, h1, hz, h2⟩ := id h
  cases ad with
  | none =>
    have e0 : cap = 0 := hz rfl
    have e1 : l.length = 0 := by omega
    obtain rfl := List.eq_nil_of_length_eq_zero e1
    subst e0
    clear h h0 h1 h2 hz e1 hl
    have hnil := nilT w
    go_enter Try.func60, Try.ntmps60
    go_wp2
    go_ret
    exact ⟨_, rfl, World.ownsRow_nil _ _ _ _, Below.refl _ _⟩
  | some a =>
    have HB : Hid (TL P (w.alloc (.cells #[] 77)) (.slice (some a) l.length cap) l) := h.past (below_alloc _ _)
    have HO : Hid ((w.alloc (.cells #[] 77)).ownsRow w.heap.size 77 3 (.slice (some ⟨w.heap.size, 0, none⟩) 0 0) ([] : List Ty).length (tV [])) := owns_emptyT w
    have HP : Hid (Below w.heap.size w (w.alloc (.cells #[] 77))) := below_alloc _ _
    generalize hn : l.length = n at *
    have HN : Hid (l.length = n) := hn
    have HL2 : Hid (([] : List Ty).length + l.length ≤ 2199023255552) := by unfold Hid; rw [hn]; simp only [List.length_nil]; omega
    clear h h0 h1 h2 hz hn hl
    have hnil := notNilT w a n cap
    go_enter Try.func60, Try.ntmps60
    go_wp2_with (at_builtin; refine wpList_appTs rfl _ _ rfl w.heap.size HP.out.size (.slice (some ⟨w.heap.size, 0, none⟩) 0 0) [] rfl HO.out (.slice (some a) n cap) l rfl HB.out HL2.out ?_; intro v' w' hA)
    go_ret
    exact ⟨_, rfl, by have := hA.row; rw [List.nil_append, HN.out] at this; exact this, HP.out.trans (hA.below HO.out HP.out.size)⟩
theorem append_new (W : World) (k : Nat) (hk : 0 < k) (hkk : k ≤ 67108864) (ty : TypeId) : ∃ C W1, (Builtin.append_ #[22, 3] ty #[.slice none 0 0, .int .i64 (k : Int)]).run Try.prog W = .ok (.slice (some ⟨W.heap.size, 0, none⟩) k C) W1 ∧ W1.ownsRow W.heap.size 5 1 (.slice (some ⟨W.heap.size, 0, none⟩) 0 C) 0 [] ∧ Below W.heap.size W W1 := by
  obtain ⟨i0, hi, hz0, hz1, hz2⟩ := info_parts Try.info8
  have hle := Go.nextslicecap_le (need := 0 + k) (old := 0) (by omega)
  have hfc : (Builtin.firstCells i0.size 0 (.slice none 0 0)).run Try.prog W.drew = .ok ([] : List Value).toArray W.drew := by simp [Builtin.firstCells]
  have hr := Lib.run_append_grow_zeros (P := Try.prog) W 22 3 ty 5 i0 (.int .u8 0) .i64 .i64 Try.underlying22 Try.underlying3 hi hz0 none 0 0 [] hfc k hk (by omega) (by omega) (by omega) (by rw [hz2]; omega) (by rw [hz2]; omega)
  rw [Nat.zero_add] at hr
  refine ⟨_, _, hr, ⟨by simp, Or.inr ⟨W.heap.size, _, _, rfl, Nat.le_refl _, heap_alloc_new W.drew _, Nat.zero_le _, grownCap_le_maxLen _ _ _ _ (by unfold maxLen; omega), ?_, by simp⟩⟩, (Below.refl _ _).drew.alloc (Nat.le_refl _) _⟩
  have hge := grownCap_ge W k 0 5
  simp [Builtin.zeroCells, Value.cells]
  omega
theorem wpList_appN {w W1 : World} {ops : Array Oper} {rest : List Oper} {o : Oper} {a : Act} {Q : Exit → Act → World → Prop} {v : Value} (hgd : o.guard = none) (s x : Operand)
    (ho : o.op = .call { callee := .builtin .append, args := #[s, x], argTypes := #[22, 3] }) (hs : a.eval s = .slice none 0 0) (n : Nat) (hx : a.eval x = .int .i64 (n : Int))
    (hrun : ∀ ty, (Builtin.append_ #[22, 3] ty #[.slice none 0 0, .int .i64 (n : Int)]).run Try.prog w = .ok v W1) (h : wpList Try.prog ops Q rest (a.put o.dst v) W1) : wpList Try.prog ops Q (o :: rest) a w :=
  wpList_plain hgd fun _ hK => by
    unfold Oper.wp
    simp [execOp, ho, resolve, invoke, builtin, hs, hx, hrun, Result.andThen]
    exact hK _ _ h
set_option maxHeartbeats 8000000 in
set_option maxRecDepth 100000 in
theorem grow_is (w : World) (n : Nat) (hn : n ≤ 67108864) : Calls Try.prog 89 #[.slice none 0 0, .int .i64 (n : Int)] w fun e w' => ∃ v', e = .returned v' ∧ w'.ownsRow w.heap.size 5 1 v' ([] : List Nat).length (bV []) ∧ Below w.heap.size w w' := by
  have q1 : ¬ (n : Int) < 0 := by omega
  have w1 : IntKind.i64.wrap (n : Int) = (n : Int) := by rw [IntKind.wrap_i64]; omega
  by_cases e : n = 0
  · subst e
    clear q1 w1 hn
    go_enter Try.func89, Try.ntmps89
    go_wp2
    go_ret
    exact ⟨_, rfl, World.ownsRow_nil _ _ _ _, Below.refl _ _⟩
  · have q2 : (0 : Int) < (n : Int) := by omega
    have hap0 := append_new w n (by omega) hn
    have hs0 : ∀ W, Sem.run Try.prog (Instr.slice 22 (.slice none 0 0) none (some (.int .i64 0)) none) W = .ok (.slice none 0 0) W := fun W => by kernel_rfl
    obtain ⟨C, W1, hap, hO, hB⟩ : ∃ C W1, (∀ ty, (Builtin.append_ #[22, 3] ty #[.slice none 0 0, .int .i64 (n : Int)]).run Try.prog w = .ok (.slice (some ⟨w.heap.size, 0, none⟩) n C) W1) ∧ W1.ownsRow w.heap.size 5 1 (.slice (some ⟨w.heap.size, 0, none⟩) 0 C) 0 [] ∧ Below w.heap.size w W1 := by
      obtain ⟨C, W1, h1, h2, h3⟩ := hap0 22
      refine ⟨C, W1, fun ty => ?_, h2, h3⟩
      exact h1
    have HO : Hid (W1.ownsRow w.heap.size 5 1 (.slice (some ⟨w.heap.size, 0, none⟩) 0 C) 0 [] ∧ Below w.heap.size w W1) := ⟨hO, hB⟩
    clear hap0 hO hB e hn
    generalize hg : w.heap.size = g at hap HO
    have GB : Hid (w.heap.size = g) := hg
    have hs1 : Sem.run Try.prog (Instr.slice 22 (.slice (some ⟨g, 0, none⟩) n C) none (some (.int .i64 0)) none) W1 = .ok (.slice (some ⟨g, 0, none⟩) 0 C) W1 := slice_j g n C 0 (Nat.zero_le _) W1
    clear hg
    go_enter Try.func89, Try.ntmps89
    go_wp2_with (at_builtin; refine wpList_appN rfl _ _ rfl rfl n rfl hap ?_)
    go_ret
    exact ⟨_, rfl, by first | exact HO.out.1 | (rw [GB.out]; exact HO.out.1), by first | exact HO.out.2 | (rw [GB.out]; exact HO.out.2)⟩
set_option maxHeartbeats 8000000 in
set_option maxRecDepth 100000 in
theorem concat_is {P : Nat → Prop} (w : World) (v : Value) (ll : List (List Nat)) (h : PL P w v ll) (hl : ll.length ≤ 1000) (hs : ll.flatten.length ≤ 67108864) : Calls Try.prog 62 #[v] w fun e w' => ∃ v', e = .returned v' ∧ w'.ownsRow w.heap.size 5 1 v' ll.flatten.length (bV ll.flatten) ∧ Below w.heap.size w w' := by
  obtain ⟨ad, cap, rfl, _, _⟩ := h.len
  have HPL : Hid (∀ W, Below w.heap.size w W → PL P W (.slice ad ll.length cap) ll) := fun W hW => h.past hW
  have nI : (ll.length : Int) ≤ 1000 := by omega
  have HS : Hid (ll.flatten.length ≤ 67108864) := hs
  generalize hN : ll.length = n at *
  have HN : Hid (ll.length = n) := hN
  clear h hl hs hN
  generalize hbw : w.heap.size = bw at *
  have GB : Hid (w.heap.size = bw) := hbw
  have GE : Hid (bw ≤ w.heap.size) := by unfold Hid; omega
  clear hbw
  obtain ⟨fl, hfl⟩ : ∃ fl, fl = ll.flatten := ⟨_, rfl⟩
  rw [← hfl]
  have HFL : Hid (fl = ll.flatten) := hfl
  clear hfl
  go_enter Try.func62, Try.ntmps62
  go_wp2
  go_loopw [3, 11] (fun s3 s11 wr => ∃ k : Nat, s11 = .int .i64 (k : Int) ∧ k ≤ n ∧ s3 = .int .i64 ((ll.take k).flatten.length : Int) ∧ wr = w) (fun _ s11 _ => n - (intOf s11).toNat)
  case atStart => exact ⟨0, rfl, by omega, by simp, rfl⟩
  case round =>
    obtain ⟨k, rfl, hk, rfl, hw⟩ := hrel
    have hw2 := hw.symm
    clear hw
    subst hw2
    by_cases e : k = n
    rotate_left
    · have kn : (k : Int) < (n : Int) := by omega
      obtain ⟨x, hx⟩ : ∃ x, ll[k]? = some x := ⟨ll[k]'(by have := HN.out; omega), List.getElem?_eq_getElem _⟩
      obtain ⟨g, a, u, eg, hcell, hb⟩ := (HPL.out w (by rw [← GB.out]; exact Below.refl _ _)).get hx
      subst eg
      obtain ⟨xa, xc, rfl, _, _⟩ := hb.len
      have h1 := flatten_snoc hx
      have h2 := flatten_le ll (k + 1)
      have h3 := HS.out
      obtain ⟨s1, hs1⟩ : ∃ s1, s1 = (ll.take (k + 1)).flatten.length := ⟨_, rfl⟩
      obtain ⟨s0, hs0⟩ : ∃ s0, s0 = (ll.take k).flatten.length := ⟨_, rfl⟩
      have HR : Hid (s1 = (ll.take (k + 1)).flatten.length) := hs1
      have h4 : s1 = s0 + x.length := by rw [hs1, h1, List.length_append, hs0]
      rw [← hs0]
      have r1 : (s0 : Int) + (x.length : Int) = (s1 : Int) := by omega
      have r2 : IntKind.i64.wrap (s1 : Int) = (s1 : Int) := by rw [IntKind.wrap_i64]; omega
      have r3 : ¬ (s1 : Int) < 0 := by omega
      have HK : Hid (k < n) := by unfold Hid; omega
      clear hb h1 h2 h3 hs1 hs0 h4 hx e hk
      go_wp2
      go_roundw
      case rel => exact ⟨k + 1, by first | rfl | go_num, by have := HK.out; omega, by rw [← HR.out], by first | rfl | trivial⟩
      case measure => simp [intOf]; omega
    · have q1 : ¬ (k : Int) < (n : Int) := by omega
      obtain ⟨sz, hsz⟩ : ∃ sz, sz = (ll.take k).flatten.length := ⟨_, rfl⟩
      rw [← hsz]
      have hb : sz ≤ 67108864 := by have := flatten_le ll k; have := HS.out; omega
      have GR : Hid (Calls Try.prog 89 #[.slice none 0 0, .int .i64 (sz : Int)] w fun e w' => ∃ v', e = .returned v' ∧ w'.ownsRow w.heap.size 5 1 v' ([] : List Nat).length (bV []) ∧ Below w.heap.size w w') := grow_is w sz hb
      clear hsz hb e hk
      go_upto_region 10 with (go_at_call 89; refine GR.out.mono ?_; rintro e w1 ⟨v1, rfl, hO, hB⟩; (have M : Hid (w1.ownsRow bw 5 1 v1 ([] : List Nat).length (bV []) ∧ Below bw w w1) := ⟨by rw [← GB.out]; exact hO, by rw [← GB.out]; exact hB⟩); (clear hO hB))
      clear GR q1
      go_wp2
      go_loopw [6, 27] (fun s6 s27 wr => ∃ k : Nat, s27 = .int .i64 (k : Int) ∧ k ≤ n ∧ wr.ownsRow bw 5 1 s6 (ll.take k).flatten.length (bV (ll.take k).flatten) ∧ Below bw w wr) (fun _ s27 _ => n - (intOf s27).toNat)
      case atStart => exact ⟨0, rfl, by omega, by simpa using M.out.1, M.out.2⟩
      case round =>
        obtain ⟨j, rfl, hj, hO, hB⟩ := hrel
        clear M
        have M : Hid (wr.ownsRow bw 5 1 u6 (ll.take j).flatten.length (bV (ll.take j).flatten) ∧ Below bw w wr) := ⟨hO, hB⟩
        clear hO hB
        by_cases e : j = n
        rotate_left
        · have kn : (j : Int) < (n : Int) := by omega
          obtain ⟨x, hx⟩ : ∃ x, ll[j]? = some x := ⟨ll[j]'(by have := HN.out; omega), List.getElem?_eq_getElem _⟩
          obtain ⟨g, a, u, eg, hcell, hb⟩ := (HPL.out wr M.out.2).get hx
          subst eg
          obtain ⟨xa, xc, rfl, _, _⟩ := hb.len
          have HB : Hid (BL P wr (.slice xa x.length xc) x) := hb
          have HX : Hid (ll[j]? = some x) := hx
          have HK : Hid (j < n) := by unfold Hid; omega
          have HL2 : Hid ((ll.take j).flatten.length + x.length ≤ 2199023255552) := by
            have h1 := flatten_snoc hx
            have h2 := flatten_le ll (j + 1)
            have h3 := HS.out
            rw [h1, List.length_append] at h2
            unfold Hid
            omega
          have HBW : Hid (bw ≤ wr.heap.size) := Nat.le_trans GE.out M.out.2.size
          clear hb hx e hj
          go_upto_region 14 with (at_builtin; refine wpList_appB rfl _ _ rfl bw HBW.out u6 (ll.take j).flatten rfl M.out.1 (.slice xa x.length xc) x rfl HB.out HL2.out ?_; intro v7 w7 hA)
          have HR : Hid (w7.ownsRow bw 5 1 v7 (ll.take (j + 1)).flatten.length (bV (ll.take (j + 1)).flatten) ∧ Below bw w w7) := by rw [flatten_snoc HX.out]; exact ⟨hA.row, M.out.2.trans (hA.below M.out.1 HBW.out)⟩
          clear hA M HB HX HL2 HBW hcell
          go_wp2
          go_roundw
          case rel => exact ⟨j + 1, by first | rfl | go_num, by have := HK.out; omega, HR.out.1, HR.out.2⟩
          case measure => simp [intOf]; omega
        · have q1 : ¬ (j : Int) < (n : Int) := by omega
          have HF : Hid (wr.ownsRow bw 5 1 u6 fl.length (bV fl)) := by have h9 := M.out.1; rw [List.take_of_length_le (by have := HN.out; omega), ← HFL.out] at h9; exact h9
          clear e hj
          go_wp2
          go_ret
          exact ⟨_, rfl, by first | exact HF.out | (rw [GB.out]; exact HF.out), by first | exact M.out.2 | (rw [GB.out]; exact M.out.2)⟩
set_option maxHeartbeats 8000000 in
set_option maxRecDepth 100000 in
theorem copies_is {P : Nat → Prop} (w : World) (v : Value) (ll : List (List Nat)) (h : PL P w v ll) (hl : ll.length ≤ 16777216) (hf : ll.flatten.length ≤ 67108864) : Calls Try.prog 61 #[v] w fun e w' => ∃ v', e = .returned v' ∧ PO w.heap.size w' v' ll ∧ Below w.heap.size w w' := by
  obtain ⟨ad, cap, rfl, _, _⟩ := h.len
  obtain ⟨W1, hmk, hcb, hB1, hsz⟩ := make_n 26 22 (.slice none 0 0) (.slice none 0 0) 1 24 Try.underlying26 Try.infoB (one_cell rfl) (by simp [Value.cells]) .i64 w ll.length (by omega) (by omega)
  have HPL : Hid (∀ W, Below w.heap.size w W → PL P W (.slice ad ll.length cap) ll) := fun W hW => h.past hW
  have C0 : Hid (CBox W1 w.heap.size 22 (([] : List Value) ++ List.replicate (ll.length - 0) nilV) ∧ Below w.heap.size w W1) := ⟨by rw [Nat.mul_one] at hcb; simpa [nilV] using hcb, hB1⟩
  have nI : (ll.length : Int) ≤ 16777216 := by omega
  have HF : Hid (ll.flatten.length ≤ 67108864) := hf
  generalize hN : ll.length = n at *
  have HN : Hid (ll.length = n) := hN
  have HNB : Hid (n ≤ 16777216) := hl
  clear h hl hf hcb hB1 hsz hN
  generalize hbw : w.heap.size = bw at *
  have GB : Hid (w.heap.size = bw) := hbw
  have GE : Hid (bw ≤ w.heap.size) := by unfold Hid; omega
  go_enter Try.func61, Try.ntmps61
  go_upto_region 2 with fail
  clear hmk hbw
  generalize hg : bw = g at C0 ⊢
  have HGB : Hid (bw = g) := hg
  clear hg
  go_wp2
  go_loopw [11] (fun s11 wr => ∃ (k : Nat) (us : List Value), s11 = .int .i64 (k : Int) ∧ k ≤ n ∧ us.length = k ∧ CBox wr g 22 (us ++ List.replicate (n - k) nilV) ∧ Below bw w wr ∧ Own1 bw wr us ll) (fun s11 _ => n - (intOf s11).toNat)
  case atStart => exact ⟨0, [], rfl, by omega, rfl, C0.out.1, by rw [HGB.out]; exact C0.out.2, fun i u l h1 _ => by cases h1⟩
  case round =>
    obtain ⟨k, us, rfl, hk, hU, hC, hB, hO⟩ := hrel
    have HU : Hid (us.length = k) := hU
    have M : Hid (CBox wr g 22 (us ++ List.replicate (n - k) nilV) ∧ Below bw w wr ∧ Own1 bw wr us ll) := ⟨hC, hB, hO⟩
    clear hC hB hO hU C0
    by_cases e : k = n
    · have q1 : ¬ (k : Int) < (n : Int) := by omega
      have HF9 : Hid (PO bw wr (.slice (some ⟨g, 0, none⟩) n n) ll) := by
        have h1 := M.out.1
        have h2 := HU.out
        have h3 := HNB.out
        have h4 : us.length = n := by rw [h2]; exact e
        rw [e, Nat.sub_self, List.replicate_zero, List.append_nil] at h1
        refine ⟨us, by rw [h2, HN.out, e], ?_, M.out.2.2⟩
        rw [HN.out]
        exact ⟨by omega, Or.inr ⟨g, n, us.toArray, rfl, Nat.le_of_eq HGB.out, h1, Nat.le_refl _, by unfold maxLen; omega, by rw [List.size_toArray, h4, Nat.mul_one], by rw [Nat.mul_one]; show us.take n = us; exact List.take_of_length_le (by omega)⟩⟩
      clear e hk
      go_wp2
      go_ret
      exact ⟨_, rfl, by first | exact HF9.out | (rw [GB.out]; exact HF9.out), by first | exact M.out.2.1 | (rw [GB.out]; exact M.out.2.1)⟩
    · have kn : (k : Int) < (n : Int) := by omega
      obtain ⟨x, hx⟩ : ∃ x, ll[k]? = some x := ⟨ll[k]'(by have := HN.out; omega), List.getElem?_eq_getElem _⟩
      obtain ⟨r, hr⟩ : ∃ r, n - k = r + 1 := ⟨n - k - 1, by omega⟩
      have HR1 : Hid (n - k = r + 1) := hr
      obtain ⟨g2, a2, u2, eg, hcell, hb⟩ := (HPL.out wr M.out.2.1).get hx
      subst eg
      obtain ⟨xa, xc, rfl, _, _⟩ := hb.len
      have HB : Hid (BL P wr (.slice xa x.length xc) x) := hb
      have HX : Hid (ll[k]? = some x) := hx
      have HK : Hid (k < n) := by unfold Hid; omega
      have HXL : Hid (x.length ≤ 67108864) := by have h1 := (List.sublist_flatten_of_mem (List.mem_of_getElem? hx)).length_le; have h2 := HF.out; unfold Hid; omega
      clear hb hx e hk hr
      go_upto_region 5 with fail
      clear hcell
      refine wp_region_lit ?_
      refine lst_val (v := .slice (some ⟨g, 0, none⟩) n n) (by kernel_rfl) ?_ ?_
      · go_simp
      simp only [Act.put, List.setIfInBounds_toArray, List.set_cons_zero, List.set_cons_succ]
      refine lst_val (v := .int .i64 (k : Int)) (by kernel_rfl) ?_ ?_
      · go_simp
      simp only [Act.put, List.setIfInBounds_toArray, List.set_cons_zero, List.set_cons_succ]
      refine lst_val (v := .slice xa x.length xc) (by kernel_rfl) ?_ ?_
      · go_simp
      simp only [Act.put, List.setIfInBounds_toArray, List.set_cons_zero, List.set_cons_succ]
      refine lst_call (by kernel_rfl) (by first | (go_simp; done) | (go_simp; first | exact rfl | exact ⟨rfl, rfl⟩ | exact ⟨rfl, rfl, rfl⟩)) (clone_is _ _ x HB.out (by have := HXL.out; omega)) ?_
      rintro e z1 ⟨v5, rfl, hO, hB⟩
      refine ⟨_, rfl, ?_⟩
      obtain ⟨oa, oc, e9⟩ := owns_sl hO
      subst e9
      have M1 : Hid (CBox z1 g 22 (us ++ List.replicate (n - k) nilV) ∧ Below bw w z1 ∧ Own1 bw z1 us ll ∧ z1.ownsRow bw 5 1 (.slice oa x.length oc) x.length (bV x)) := ⟨M.out.1.past hB, M.out.2.1.trans (hB.mono (Nat.le_trans GE.out M.out.2.1.size)), M.out.2.2.but (below_but (S := fun _ => False) hB) (fun _ _ => id), owns_base hO (Nat.le_trans GE.out M.out.2.1.size)⟩
      clear hO hB M HB
      have kI : (k : Int) < (n : Int) := kn
      simp only [Act.put, List.setIfInBounds_toArray, List.set_cons_zero, List.set_cons_succ]
      refine lst_val (v := .pointer (some ⟨g, k, none⟩)) (by kernel_rfl) ?_ ?_
      · go_simp
      simp only [Act.put, List.setIfInBounds_toArray, List.set_cons_zero, List.set_cons_succ]
      have k0 : z1.cell? ⟨g, k, none⟩ = some nilV := by have := M1.out.1.cell k; rw [this, HR1.out, List.getElem?_append_right (by have := HU.out; omega)]; simp [HU.out]
      have f0 := CBox.frozen M1.out.1 k
      unfold nilV at k0
      go_wp2
      clear k0 f0 kI
      have hs : But (fun y => y = g) z1 (z1.setCell ⟨g, k, none⟩ (.slice oa x.length oc)) := (But.refl (fun y => y = g) z1).setCell ⟨g, k, none⟩ _ (Or.inl rfl)
      have HN2 : Hid (CBox (z1.setCell ⟨g, k, none⟩ (.slice oa x.length oc)) g 22 ((us ++ [.slice oa x.length oc]) ++ List.replicate (n - (k + 1)) nilV) ∧ Below bw w (z1.setCell ⟨g, k, none⟩ (.slice oa x.length oc)) ∧ Own1 bw (z1.setCell ⟨g, k, none⟩ (.slice oa x.length oc)) (us ++ [.slice oa x.length oc]) ll) := by
        refine ⟨?_, M1.out.2.1.trans (hs.below (fun q e => by have := HGB.out; omega) (Nat.le_trans GE.out M1.out.2.1.size)), (M1.out.2.2.1.butT hs M1.out.1 (by decide)).snoc (by rw [HU.out]; exact HX.out) (owns_row_blockB M1.out.2.2.2 fun q hq => hs.block q (World.ownsRow.lt M1.out.2.2.2 q hq).2 fun e => own_box M1.out.2.2.2 M1.out.1 (by decide) hq e)⟩
        have h9 := M1.out.1.set k (.slice oa x.length oc)
        rw [HR1.out] at h9
        have h8 := vs_set us r nilV (.slice oa x.length oc)
        rw [HU.out] at h8
        rw [h8] at h9
        rw [show n - (k + 1) = r by have := HR1.out; omega]
        exact h9
      clear hs M1
      generalize z1.setCell ⟨g, k, none⟩ (.slice oa x.length oc) = Z9 at HN2 ⊢
      (try go_wp2)
      go_roundw
      case rel => exact ⟨k + 1, us ++ [.slice oa x.length oc], by first | rfl | go_num, by have := HK.out; omega, by rw [List.length_append, HU.out]; rfl, HN2.out.1, HN2.out.2.1, HN2.out.2.2⟩
      case measure => simp [intOf]; omega
end Go.Proofs.Ytndhabhlajldeaa
/- Package container: Lay. -/
namespace Go.Proofs.Ytndhabhlajldeaa
open Go.RowKit
theorem pl_two {P : Nat → Prop} (W : World) (u v : Value) (x y : List Nat) (hu : BL P W u x) (hv : BL P W v y) : PL (fun _ => True) (W.alloc (.cells #[u, v] 22)) (.slice (some ⟨W.heap.size, 0, none⟩) 2 2) [x, y] := by
  have k := below_alloc W (.cells #[u, v] 22)
  refine ⟨[u, v], SL.box (CBox.new W 22 [u, v]) rfl (by simp) trivial, fun i l hi => ?_⟩
  rcases i with _ | _ | i
  · cases hi; exact ⟨u, rfl, (hu.past k).mono fun _ _ _ => trivial⟩
  · cases hi; exact ⟨v, rfl, (hv.past k).mono fun _ _ _ => trivial⟩
  · cases hi
/-- what a Lay answers -/
def LayQ (B : Nat) (c' : Con) (x : Int) (e : Ending) (w' : World) : Prop := ∃ v', e = .returned (.tuple #[v', .int .i64 x]) ∧ DO B w' v' c'
theorem DO.zero (B : Nat) (W : World) : DO B W (.agg #[.slice none 0 0, .slice none 0 0, .slice none 0 0, .slice none 0 0, .int .i64 0]) con0 := ⟨none, 0, none, 0, none, 0, none, 0, rfl, World.ownsRow_nil _ _ _ _, PO.nil _ _, PO.nil _ _, World.ownsRow_nil _ _ _ _, fun _ h => by cases h⟩
/-- in the midst of Lay -/
structure LyM (b1 b2 : Nat) (w W : World) (L Z : List Value) : Prop where
  c1 : CBox W b1 28 L
  c2 : CBox W b2 28 Z
  bel : Below w.heap.size w W
theorem LyM.past {b1 b2 : Nat} {w W W' : World} {L Z : List Value} (h : LyM b1 b2 w W L Z) (k : Below W.heap.size W W') : LyM b1 b2 w W' L Z := ⟨h.c1.past k, h.c2.past k, h.bel.trans (k.mono h.bel.size)⟩
set_option maxHeartbeats 8000000 in
set_option maxRecDepth 100000 in
theorem lay_is {P R : Nat → Prop} (w : World) (v u : Value) (c : Con) (b : List Nat) (h : CW P w v c) (k : BL R w u b) (hs : Small c) (hb : b.length ≤ 16777216) : Calls Try.prog 27 #[v, u] w fun e w' => LayQ w.heap.size (layC c b).2 (layC c b).1 e w' ∧ Below w.heap.size w w' := by
  obtain ⟨tv, cv, sv, dv, rfl, h1, h2, h3, h4⟩ := id h
  obtain ⟨ta, tc, rfl, _⟩ := h1.len
  obtain ⟨ca, cc, rfl, _⟩ := h2.len
  obtain ⟨sa, sc, rfl, _⟩ := h3.len
  obtain ⟨da, dc, rfl, _⟩ := h4.len
  obtain ⟨ua, uc, rfl, _⟩ := k.len
  have HSM : Hid (Small c) := hs
  have hd0 : c.d.length ≤ 16777216 := by unfold Small at hs; omega
  have nD : (c.d.length : Int) ≤ 16777216 := by omega
  have nB : (b.length : Int) ≤ 16777216 := by omega
  have b1 := below_alloc w (.cells #[.slice ta c.ts.length tc, .slice ca c.cs.length cc, .slice sa c.ss.length sc, .slice da c.d.length dc, .int .i64 c.n] 28)
  have b2 := below_alloc (w.alloc (.cells #[.slice ta c.ts.length tc, .slice ca c.cs.length cc, .slice sa c.ss.length sc, .slice da c.d.length dc, .int .i64 c.n] 28)) (.cells #[.slice none 0 0, .slice none 0 0, .slice none 0 0, .slice none 0 0, .int .i64 0] 28)
  have s1 : (w.alloc (.cells #[.slice ta c.ts.length tc, .slice ca c.cs.length cc, .slice sa c.ss.length sc, .slice da c.d.length dc, .int .i64 c.n] 28)).heap.size = w.heap.size + 1 := by simp
  have bb : Below w.heap.size w ((w.alloc (.cells #[.slice ta c.ts.length tc, .slice ca c.cs.length cc, .slice sa c.ss.length sc, .slice da c.d.length dc, .int .i64 c.n] 28)).alloc (.cells #[.slice none 0 0, .slice none 0 0, .slice none 0 0, .slice none 0 0, .int .i64 0] 28)) := b1.trans (b2.mono (by omega))
  have c2 := CBox.new (w.alloc (.cells #[.slice ta c.ts.length tc, .slice ca c.cs.length cc, .slice sa c.ss.length sc, .slice da c.d.length dc, .int .i64 c.n] 28)) 28 [.slice none 0 0, .slice none 0 0, .slice none 0 0, .slice none 0 0, .int .i64 0]
  rw [s1] at c2
  have M0 : Hid (LyM w.heap.size (w.heap.size + 1) w ((w.alloc (.cells #[.slice ta c.ts.length tc, .slice ca c.cs.length cc, .slice sa c.ss.length sc, .slice da c.d.length dc, .int .i64 c.n] 28)).alloc (.cells #[.slice none 0 0, .slice none 0 0, .slice none 0 0, .slice none 0 0, .int .i64 0] 28)) [.slice ta c.ts.length tc, .slice ca c.cs.length cc, .slice sa c.ss.length sc, .slice da c.d.length dc, .int .i64 c.n] [.slice none 0 0, .slice none 0 0, .slice none 0 0, .slice none 0 0, .int .i64 0]) := ⟨(CBox.new w 28 [.slice ta c.ts.length tc, .slice ca c.cs.length cc, .slice sa c.ss.length sc, .slice da c.d.length dc, .int .i64 c.n]).past b2, c2, bb⟩
  have SRC0 : Hid (∀ W, Below w.heap.size w W → SrC P W (.slice ta c.ts.length tc) (.slice ca c.cs.length cc) (.slice sa c.ss.length sc) (.slice da c.d.length dc) c ∧ BL R W (.slice ua b.length uc) b) := fun W hW => ⟨⟨h1.past hW, h2.past hW, h3.past hW, h4.past hW⟩, k.past hW⟩
  have HCW : Hid (∀ W, Below w.heap.size w W → CW P W (.agg #[.slice ta c.ts.length tc, .slice ca c.cs.length cc, .slice sa c.ss.length sc, .slice da c.d.length dc, .int .i64 c.n]) c) := fun W hW => h.past hW
  have GL0 : Hid (w.heap.size < w.heap.size + 1) := by unfold Hid; omega
  have GE0 : Hid (w.heap.size ≤ w.heap.size) := Nat.le_refl _
  obtain ⟨nz, hnz⟩ : ∃ nz, nz = c.d.length + b.length := ⟨_, rfl⟩
  have r1 : (c.d.length : Int) + (b.length : Int) = (nz : Int) := by omega
  have r2 : IntKind.i64.wrap (nz : Int) = (nz : Int) := by rw [IntKind.wrap_i64]; omega
  have HNZ : Hid (nz = c.d.length + b.length) := hnz
  obtain ⟨ec, hec⟩ : ∃ ec, ec = chk c := ⟨_, rfl⟩
  have HEC : Hid (ec = chk c) := hec
  have CC : Hid (∀ (W : World) (R : Nat → Prop) (u : Value), CW R W u c → Calls Try.prog 20 #[u] W fun e w' => e = .returned (.int .i64 ec) ∧ Below W.heap.size W w') := fun W R u q => by rw [hec]; exact check_is W u c q
  obtain ⟨lr, hlr⟩ : ∃ lr, lr = layC c b := ⟨_, rfl⟩
  have HLR : Hid (lr = layC c b) := hlr
  rw [← hlr]
  clear h k hs h1 h2 h3 h4 b1 b2 s1 bb c2 hb hd0 hnz hec hlr
  generalize hbw : w.heap.size = bw at M0 GL0
  have GB : Hid (w.heap.size = bw) := hbw
  have GE : Hid (bw ≤ w.heap.size) := by unfold Hid; omega
  have GL2 : Hid (w.heap.size < bw + 1) := by unfold Hid; omega
  go_enter Try.func27, Try.ntmps27
  go_upto_region 1 with fail
  clear hbw
  generalize hb2 : bw + 1 = b2 at M0 GL0 GL2 ⊢
  clear hb2
  generalize hb1 : bw = b1 at M0 GL0
  have HB1 : Hid (bw = b1) := hb1
  (try rw [hb1])
  clear hb1
  have GL : Hid (w.heap.size < b2 ∧ b1 < b2) := ⟨GL2.out, GL0.out⟩
  clear GL0 GL2
  generalize (w.alloc _).alloc _ = W1 at M0 ⊢
  have a0 : W1.cell? ⟨b1, 0, none⟩ = some (.slice ta c.ts.length tc) := M0.out.c1.cell 0
  have a1 : W1.cell? ⟨b1, 1, none⟩ = some (.slice ca c.cs.length cc) := M0.out.c1.cell 1
  have a2 : W1.cell? ⟨b1, 2, none⟩ = some (.slice sa c.ss.length sc) := M0.out.c1.cell 2
  have a3 : W1.cell? ⟨b1, 3, none⟩ = some (.slice da c.d.length dc) := M0.out.c1.cell 3
  have a4 : W1.cell? ⟨b1, 4, none⟩ = some (.int .i64 c.n) := M0.out.c1.cell 4
  go_upto_region 2 with (go_at_call 20; refine (CC.out _ _ _ (HCW.out _ M0.out.bel)).mono ?_; rintro e W2 ⟨rfl, hB⟩; (have M : Hid (LyM b1 b2 w W2 [.slice ta c.ts.length tc, .slice ca c.cs.length cc, .slice sa c.ss.length sc, .slice da c.d.length dc, .int .i64 c.n] [.slice none 0 0, .slice none 0 0, .slice none 0 0, .slice none 0 0, .int .i64 0]) := M0.out.past hB); (clear hB))
  clear a0 a1 a2 a3 a4 M0 CC HCW
  by_cases e0 : ec = 0
  rotate_left
  · have E : Hid (lr = (ec, con0)) := by unfold Hid; rw [HLR.out]; unfold layC; rw [← HEC.out, if_pos e0]
    have q1 : (ec == 0) = false := by rw [beq_eq_false_iff_ne]; exact e0
    clear e0 r1 r2 HLR HEC
    have k0 : W2.cell? ⟨b2, 0, none⟩ = some (.slice none 0 0) := M.out.c2.cell 0
    have f0 := CBox.frozen M.out.c2 0
    have k1 : W2.cell? ⟨b2, 1, none⟩ = some (.slice none 0 0) := M.out.c2.cell 1
    have f1 := CBox.frozen M.out.c2 1
    have k2 : W2.cell? ⟨b2, 2, none⟩ = some (.slice none 0 0) := M.out.c2.cell 2
    have f2 := CBox.frozen M.out.c2 2
    have k3 : W2.cell? ⟨b2, 3, none⟩ = some (.slice none 0 0) := M.out.c2.cell 3
    have f3 := CBox.frozen M.out.c2 3
    have k4 : W2.cell? ⟨b2, 4, none⟩ = some (.int .i64 0) := M.out.c2.cell 4
    have f4 := CBox.frozen M.out.c2 4
    have HF : Hid (CBox (((((W2.setCell ⟨b2, 0, none⟩ (.slice none 0 0)).setCell ⟨b2, 1, none⟩ (.slice none 0 0)).setCell ⟨b2, 2, none⟩ (.slice none 0 0)).setCell ⟨b2, 3, none⟩ (.slice none 0 0)).setCell ⟨b2, 4, none⟩ (.int .i64 0)) b2 28 [.slice none 0 0, .slice none 0 0, .slice none 0 0, .slice none 0 0, .int .i64 0] ∧ Below w.heap.size w (((((W2.setCell ⟨b2, 0, none⟩ (.slice none 0 0)).setCell ⟨b2, 1, none⟩ (.slice none 0 0)).setCell ⟨b2, 2, none⟩ (.slice none 0 0)).setCell ⟨b2, 3, none⟩ (.slice none 0 0)).setCell ⟨b2, 4, none⟩ (.int .i64 0))) := ⟨(((((M.out.c2.set 0 _).set 1 _).set 2 _).set 3 _).set 4 _), M.out.bel.trans (((((((But.refl (fun y => y = b2) W2).setCell ⟨b2, 0, none⟩ _ (Or.inl rfl)).setCell ⟨b2, 1, none⟩ _ (Or.inl rfl)).setCell ⟨b2, 2, none⟩ _ (Or.inl rfl)).setCell ⟨b2, 3, none⟩ _ (Or.inl rfl)).setCell ⟨b2, 4, none⟩ _ (Or.inl rfl)).below (fun g e => by have := GL.out; omega) M.out.bel.size)⟩
    clear M
    go_wp2
    clear k0 k1 k2 k3 k4 f0 f1 f2 f3 f4
    generalize (((((W2.setCell ⟨b2, 0, none⟩ (.slice none 0 0)).setCell ⟨b2, 1, none⟩ (.slice none 0 0)).setCell ⟨b2, 2, none⟩ (.slice none 0 0)).setCell ⟨b2, 3, none⟩ (.slice none 0 0)).setCell ⟨b2, 4, none⟩ (.int .i64 0)) = Z9 at HF ⊢
    refine bodyPost_ret (v := .tuple #[.agg #[.slice none 0 0, .slice none 0 0, .slice none 0 0, .slice none 0 0, .int .i64 0], .int .i64 ec]) (results_ct (p := 4) (q := 5) (ty := 28) Try.results27 _ _ _ ⟨b2, 0, none⟩ rfl rfl (run_loadVar_mid Z9 b2 0 28 [.slice none 0 0, .slice none 0 0, .slice none 0 0, .slice none 0 0, .int .i64 0] _ HF.out.1.range Try.underlying28 rfl (by kernel_rfl))) rfl ?_
    exact ⟨by rw [E.out]; exact ⟨_, rfl, DO.zero _ _⟩, by first | exact HF.out.2 | (rw [← GB.out]; exact HF.out.2)⟩
  have HE0 : Hid (chk c = 0) := by unfold Hid; rw [← HEC.out]; exact e0
  clear HEC
  subst e0
  have a3 : W2.cell? ⟨b1, 3, none⟩ = some (.slice da c.d.length dc) := M.out.c1.cell 3
  have a4 : W2.cell? ⟨b1, 4, none⟩ = some (.int .i64 c.n) := M.out.c1.cell 4
  go_upto_region 5 with fail
  clear r1 r2
  by_cases e1 : (nz : Int) < c.n
  · have E : Hid (lr = (50, con0)) := by unfold Hid; rw [HLR.out]; unfold layC; rw [if_neg (by simp [HE0.out]), if_pos (by rw [← HNZ.out]; exact e1)]
    clear HLR
    have k0 : W2.cell? ⟨b2, 0, none⟩ = some (.slice none 0 0) := M.out.c2.cell 0
    have f0 := CBox.frozen M.out.c2 0
    have k1 : W2.cell? ⟨b2, 1, none⟩ = some (.slice none 0 0) := M.out.c2.cell 1
    have f1 := CBox.frozen M.out.c2 1
    have k2 : W2.cell? ⟨b2, 2, none⟩ = some (.slice none 0 0) := M.out.c2.cell 2
    have f2 := CBox.frozen M.out.c2 2
    have k3 : W2.cell? ⟨b2, 3, none⟩ = some (.slice none 0 0) := M.out.c2.cell 3
    have f3 := CBox.frozen M.out.c2 3
    have k4 : W2.cell? ⟨b2, 4, none⟩ = some (.int .i64 0) := M.out.c2.cell 4
    have f4 := CBox.frozen M.out.c2 4
    have HF : Hid (CBox (((((W2.setCell ⟨b2, 0, none⟩ (.slice none 0 0)).setCell ⟨b2, 1, none⟩ (.slice none 0 0)).setCell ⟨b2, 2, none⟩ (.slice none 0 0)).setCell ⟨b2, 3, none⟩ (.slice none 0 0)).setCell ⟨b2, 4, none⟩ (.int .i64 0)) b2 28 [.slice none 0 0, .slice none 0 0, .slice none 0 0, .slice none 0 0, .int .i64 0] ∧ Below w.heap.size w (((((W2.setCell ⟨b2, 0, none⟩ (.slice none 0 0)).setCell ⟨b2, 1, none⟩ (.slice none 0 0)).setCell ⟨b2, 2, none⟩ (.slice none 0 0)).setCell ⟨b2, 3, none⟩ (.slice none 0 0)).setCell ⟨b2, 4, none⟩ (.int .i64 0))) := ⟨(((((M.out.c2.set 0 _).set 1 _).set 2 _).set 3 _).set 4 _), M.out.bel.trans (((((((But.refl (fun y => y = b2) W2).setCell ⟨b2, 0, none⟩ _ (Or.inl rfl)).setCell ⟨b2, 1, none⟩ _ (Or.inl rfl)).setCell ⟨b2, 2, none⟩ _ (Or.inl rfl)).setCell ⟨b2, 3, none⟩ _ (Or.inl rfl)).setCell ⟨b2, 4, none⟩ _ (Or.inl rfl)).below (fun g e => by have := GL.out; omega) M.out.bel.size)⟩
    clear M
    go_wp2
    clear k0 k1 k2 k3 k4 f0 f1 f2 f3 f4
    generalize (((((W2.setCell ⟨b2, 0, none⟩ (.slice none 0 0)).setCell ⟨b2, 1, none⟩ (.slice none 0 0)).setCell ⟨b2, 2, none⟩ (.slice none 0 0)).setCell ⟨b2, 3, none⟩ (.slice none 0 0)).setCell ⟨b2, 4, none⟩ (.int .i64 0)) = Z9 at HF ⊢
    refine bodyPost_ret (v := .tuple #[.agg #[.slice none 0 0, .slice none 0 0, .slice none 0 0, .slice none 0 0, .int .i64 0], .int .i64 50]) (results_ct (p := 4) (q := 5) (ty := 28) Try.results27 _ _ _ ⟨b2, 0, none⟩ rfl rfl (run_loadVar_mid Z9 b2 0 28 [.slice none 0 0, .slice none 0 0, .slice none 0 0, .slice none 0 0, .int .i64 0] _ HF.out.1.range Try.underlying28 rfl (by kernel_rfl))) rfl ?_
    exact ⟨by rw [E.out]; exact ⟨_, rfl, DO.zero _ _⟩, by first | exact HF.out.2 | (rw [← GB.out]; exact HF.out.2)⟩
  have q2 := e1
  clear e1
  go_upto_region 7 with fail
  clear a3 a4
  by_cases e2 : 65535 < nz
  · have E : Hid (lr = (2, con0)) := by unfold Hid; rw [HLR.out]; unfold layC; rw [if_neg (by simp [HE0.out]), if_neg (by rw [← HNZ.out]; exact q2), if_pos (by rw [← HNZ.out]; exact e2)]
    have q3 : (65535 : Int) < (nz : Int) := by omega
    clear HLR q2 e2
    have k0 : W2.cell? ⟨b2, 0, none⟩ = some (.slice none 0 0) := M.out.c2.cell 0
    have f0 := CBox.frozen M.out.c2 0
    have k1 : W2.cell? ⟨b2, 1, none⟩ = some (.slice none 0 0) := M.out.c2.cell 1
    have f1 := CBox.frozen M.out.c2 1
    have k2 : W2.cell? ⟨b2, 2, none⟩ = some (.slice none 0 0) := M.out.c2.cell 2
    have f2 := CBox.frozen M.out.c2 2
    have k3 : W2.cell? ⟨b2, 3, none⟩ = some (.slice none 0 0) := M.out.c2.cell 3
    have f3 := CBox.frozen M.out.c2 3
    have k4 : W2.cell? ⟨b2, 4, none⟩ = some (.int .i64 0) := M.out.c2.cell 4
    have f4 := CBox.frozen M.out.c2 4
    have HF : Hid (CBox (((((W2.setCell ⟨b2, 0, none⟩ (.slice none 0 0)).setCell ⟨b2, 1, none⟩ (.slice none 0 0)).setCell ⟨b2, 2, none⟩ (.slice none 0 0)).setCell ⟨b2, 3, none⟩ (.slice none 0 0)).setCell ⟨b2, 4, none⟩ (.int .i64 0)) b2 28 [.slice none 0 0, .slice none 0 0, .slice none 0 0, .slice none 0 0, .int .i64 0] ∧ Below w.heap.size w (((((W2.setCell ⟨b2, 0, none⟩ (.slice none 0 0)).setCell ⟨b2, 1, none⟩ (.slice none 0 0)).setCell ⟨b2, 2, none⟩ (.slice none 0 0)).setCell ⟨b2, 3, none⟩ (.slice none 0 0)).setCell ⟨b2, 4, none⟩ (.int .i64 0))) := ⟨(((((M.out.c2.set 0 _).set 1 _).set 2 _).set 3 _).set 4 _), M.out.bel.trans (((((((But.refl (fun y => y = b2) W2).setCell ⟨b2, 0, none⟩ _ (Or.inl rfl)).setCell ⟨b2, 1, none⟩ _ (Or.inl rfl)).setCell ⟨b2, 2, none⟩ _ (Or.inl rfl)).setCell ⟨b2, 3, none⟩ _ (Or.inl rfl)).setCell ⟨b2, 4, none⟩ _ (Or.inl rfl)).below (fun g e => by have := GL.out; omega) M.out.bel.size)⟩
    clear M
    go_wp2
    clear k0 k1 k2 k3 k4 f0 f1 f2 f3 f4
    generalize (((((W2.setCell ⟨b2, 0, none⟩ (.slice none 0 0)).setCell ⟨b2, 1, none⟩ (.slice none 0 0)).setCell ⟨b2, 2, none⟩ (.slice none 0 0)).setCell ⟨b2, 3, none⟩ (.slice none 0 0)).setCell ⟨b2, 4, none⟩ (.int .i64 0)) = Z9 at HF ⊢
    refine bodyPost_ret (v := .tuple #[.agg #[.slice none 0 0, .slice none 0 0, .slice none 0 0, .slice none 0 0, .int .i64 0], .int .i64 2]) (results_ct (p := 4) (q := 5) (ty := 28) Try.results27 _ _ _ ⟨b2, 0, none⟩ rfl rfl (run_loadVar_mid Z9 b2 0 28 [.slice none 0 0, .slice none 0 0, .slice none 0 0, .slice none 0 0, .int .i64 0] _ HF.out.1.range Try.underlying28 rfl (by kernel_rfl))) rfl ?_
    exact ⟨by rw [E.out]; exact ⟨_, rfl, DO.zero _ _⟩, by first | exact HF.out.2 | (rw [← GB.out]; exact HF.out.2)⟩
  have q3 : ¬ (65535 : Int) < (nz : Int) := by omega
  obtain ⟨dl, hdl⟩ : ∃ dl, dl = c.d ++ b := ⟨_, rfl⟩
  have HDN : Hid (dl.length = nz) := by rw [hdl]; unfold Hid; rw [List.length_append, HNZ.out]
  have E : Hid (lr = (0, ⟨c.ts, c.cs, c.ss, dl, (nz : Int)⟩)) := by unfold Hid; rw [HLR.out]; unfold layC; rw [if_neg (by simp [HE0.out]), if_neg (by rw [← HNZ.out]; exact q2), if_neg (by rw [← HNZ.out]; exact e2), ← HNZ.out, ← hdl]
  have CN : Hid (∀ (W : World) (u : Value), PL (fun _ => True) W u [c.d, b] → Calls Try.prog 62 #[u] W fun e w' => ∃ v', e = .returned v' ∧ w'.ownsRow W.heap.size 5 1 v' dl.length (bV dl) ∧ Below W.heap.size W w') := fun W u q => by
    have ef : [c.d, b].flatten = dl := by rw [hdl]; simp
    have t := concat_is W u [c.d, b] q (by simp) (by rw [ef]; have := HDN.out; omega)
    rw [ef] at t
    exact t
  clear hdl q2 e2 HLR
  go_upto_region 9 with fail
  clear q3
  refine wp_region_held_drew (S := fun V' => CBox V' b1 28 [.slice ta c.ts.length tc, .slice ca c.cs.length cc, .slice sa c.ss.length sc, .slice da c.d.length dc, .int .i64 c.n]) (by kernel_rfl) (M.out.c1.past below_drew) (fun HH => ?_)
  have BX : Hid (CBox W2.drew b2 28 [.slice none 0 0, .slice none 0 0, .slice none 0 0, .slice none 0 0, .int .i64 0]) := M.out.c2.past below_drew
  have B : Hid (Below bw w W2.drew) := by rw [← GB.out]; exact M.out.bel.drew
  have SRC : Hid (SrC P W2.drew (.slice ta c.ts.length tc) (.slice ca c.cs.length cc) (.slice sa c.ss.length sc) (.slice da c.d.length dc) c ∧ BL R W2.drew (.slice ua b.length uc) b) := ⟨(SRC0.out W2 M.out.bel).1.past below_drew, (SRC0.out W2 M.out.bel).2.past below_drew⟩
  clear M SRC0
  generalize W2.drew = z1 at HH BX B SRC ⊢
  refine wpAnyH_take (i := 0) (v := .pointer (some ⟨b1, 0, none⟩)) ov0 (by kernel_rfl) (by kernel_rfl) (by kernel_rfl) (fun _ _ _ h => h) (Or.inl ⟨by rfl, fun V' hS => ?_⟩) HH ?_
  · go_simp
  simp only [Act.put, List.setIfInBounds_toArray, List.set_cons_zero, List.set_cons_succ]
  refine wpAnyH_take (i := 1) (v := .slice ta c.ts.length tc) ov1 (by kernel_rfl) (by kernel_rfl) (by kernel_rfl) (fun _ _ _ h => h) (Or.inl ⟨by rfl, fun V' hS => ?_⟩) HH ?_
  · have c0 := hS.cell 0
    go_simp
  simp only [Act.put, List.setIfInBounds_toArray, List.set_cons_zero, List.set_cons_succ]
  refine wpAnyH_take (i := 3) (v := .pointer (some ⟨b1, 1, none⟩)) ov3 (by kernel_rfl) (by kernel_rfl) (by kernel_rfl) (fun _ _ _ h => h) (Or.inl ⟨by rfl, fun V' hS => ?_⟩) HH ?_
  · go_simp
  simp only [Act.put, List.setIfInBounds_toArray, List.set_cons_zero, List.set_cons_succ]
  refine wpAnyH_take (i := 4) (v := .slice ca c.cs.length cc) ov4 (by kernel_rfl) (by kernel_rfl) (by kernel_rfl) (fun _ _ _ h => h) (Or.inl ⟨by rfl, fun V' hS => ?_⟩) HH ?_
  · have c0 := hS.cell 1
    go_simp
  simp only [Act.put, List.setIfInBounds_toArray, List.set_cons_zero, List.set_cons_succ]
  refine wpAnyH_take (i := 6) (v := .pointer (some ⟨b1, 2, none⟩)) ov6 (by kernel_rfl) (by kernel_rfl) (by kernel_rfl) (fun _ _ _ h => h) (Or.inl ⟨by rfl, fun V' hS => ?_⟩) HH ?_
  · go_simp
  simp only [Act.put, List.setIfInBounds_toArray, List.set_cons_zero, List.set_cons_succ]
  refine wpAnyH_take (i := 7) (v := .slice sa c.ss.length sc) ov7 (by kernel_rfl) (by kernel_rfl) (by kernel_rfl) (fun _ _ _ h => h) (Or.inl ⟨by rfl, fun V' hS => ?_⟩) HH ?_
  · have c0 := hS.cell 2
    go_simp
  simp only [Act.put, List.setIfInBounds_toArray, List.set_cons_zero, List.set_cons_succ]
  refine wpAnyH_take (i := 9) (v := .pointer (some ⟨b1, 3, none⟩)) ov9 (by kernel_rfl) (by kernel_rfl) (by kernel_rfl) (fun _ _ _ h => h) (Or.inl ⟨by rfl, fun V' hS => ?_⟩) HH ?_
  · go_simp
  simp only [Act.put, List.setIfInBounds_toArray, List.set_cons_zero, List.set_cons_succ]
  refine wpAnyH_take (i := 10) (v := .slice da c.d.length dc) ov10 (by kernel_rfl) (by kernel_rfl) (by kernel_rfl) (fun _ _ _ h => h) (Or.inl ⟨by rfl, fun V' hS => ?_⟩) HH ?_
  · have c0 := hS.cell 3
    go_simp
  simp only [Act.put, List.setIfInBounds_toArray, List.set_cons_zero, List.set_cons_succ]
  refine wpAnyH_take (i := 11) (v := .slice ua b.length uc) ov11 (by kernel_rfl) (by kernel_rfl) (by kernel_rfl) (fun _ _ _ h => h) (Or.inl ⟨by rfl, fun V' hS => ?_⟩) HH ?_
  · go_simp
  simp only [Act.put, List.setIfInBounds_toArray, List.set_cons_zero, List.set_cons_succ]
  refine wpAnyH_take (i := 14) (v := .int .i64 (nz : Int)) ov14 (by kernel_rfl) (by kernel_rfl) (by kernel_rfl) (fun _ _ _ h => h) (Or.inl ⟨by rfl, fun V' hS => ?_⟩) HH ?_
  · go_simp
  simp only [Act.put, List.setIfInBounds_toArray, List.set_cons_zero, List.set_cons_succ]
  refine wpAnyH_ready (rs := [2, 12]) (by kernel_rfl) (by simp) ?_
  refine AllReadyH.cons ov2 (fun K hK => ?_) (AllReadyH.cons ov12 (fun K hK => ?_) AllReadyH.nil)
  · rw [if_pos (by rfl)]
    go_simp
    refine (cloneT_is _ _ c.ts SRC.out.1.t (by have := HSM.out; unfold Small at this; omega)).mono ?_
    rintro e z1 ⟨v9, rfl, hP, hB⟩
    obtain ⟨qa, qc, e9⟩ := owns_sl hP
    subst e9
    have F9 := owns_base hP (Nat.le_trans GE.out B.out.size)
    clear hP
    have H9 := HH.past hB
    clear HH
    have HH := H9
    clear H9
    have q9 := B.out.trans (hB.mono (Nat.le_trans GE.out B.out.size))
    clear B
    have B : Hid (Below bw w z1) := q9
    clear q9
    have q9 := BX.out.past hB
    clear BX
    have BX : Hid (CBox z1 b2 28 [.slice none 0 0, .slice none 0 0, .slice none 0 0, .slice none 0 0, .int .i64 0]) := q9
    clear q9
    have q9 := And.intro (SRC.out.1.past hB) (SRC.out.2.past hB)
    clear SRC
    have SRC : Hid (SrC P z1 (.slice ta c.ts.length tc) (.slice ca c.cs.length cc) (.slice sa c.ss.length sc) (.slice da c.d.length dc) c ∧ BL R z1 (.slice ua b.length uc) b) := q9
    clear q9
    (try (have q9 := FC.out; clear FC; have FC : Hid (PO bw z1 (.slice xa c.cs.length xc) c.cs) := PO.past q9 hB; clear q9))
    (try (have q9 := FZ.out; clear FZ; have FZ : Hid (PO bw z1 (.slice ya c.ss.length yc) c.ss) := PO.past q9 hB; clear q9))
    (try (have q9 := FB.out; clear FB; have FB : Hid (PL (fun _ => True) z1 (.slice (some ⟨bb, 0, none⟩) 2 2) [c.d, b]) := PL.past q9 hB; clear q9))
    have FT : Hid (z1.ownsRow bw 77 3 (.slice qa c.ts.length qc) c.ts.length (tV c.ts)) := F9
    clear F9 hB
    (try go_wp2_with fail)
    refine hK.out _ _ HH (fun _ => ?_)
    clear hK K
    (try simp only [Act.put, List.setIfInBounds_toArray, List.set_cons_zero, List.set_cons_succ])
    refine wpAnyH_ready (rs := [5, 12]) (by kernel_rfl) (by simp) ?_
    refine AllReadyH.cons ov5 (fun K hK => ?_) (AllReadyH.cons ov12 (fun K hK => ?_) AllReadyH.nil)
    · rw [if_pos (by rfl)]
      go_simp
      refine (copies_is _ _ c.cs SRC.out.1.p (by have := HSM.out; unfold Small at this; omega) (by have := HSM.out; unfold Small at this; omega)).mono ?_
      rintro e z1 ⟨v9, rfl, hP, hB⟩
      obtain ⟨xa, xc, e9⟩ := PO.sl hP
      subst e9
      have F9 := hP.base (Nat.le_trans GE.out B.out.size)
      clear hP
      have H9 := HH.past hB
      clear HH
      have HH := H9
      clear H9
      have q9 := B.out.trans (hB.mono (Nat.le_trans GE.out B.out.size))
      clear B
      have B : Hid (Below bw w z1) := q9
      clear q9
      have q9 := BX.out.past hB
      clear BX
      have BX : Hid (CBox z1 b2 28 [.slice none 0 0, .slice none 0 0, .slice none 0 0, .slice none 0 0, .int .i64 0]) := q9
      clear q9
      have q9 := And.intro (SRC.out.1.past hB) (SRC.out.2.past hB)
      clear SRC
      have SRC : Hid (SrC P z1 (.slice ta c.ts.length tc) (.slice ca c.cs.length cc) (.slice sa c.ss.length sc) (.slice da c.d.length dc) c ∧ BL R z1 (.slice ua b.length uc) b) := q9
      clear q9
      (try (have q9 := FT.out; clear FT; have FT : Hid (z1.ownsRow bw 77 3 (.slice qa c.ts.length qc) c.ts.length (tV c.ts)) := owns_past q9 hB; clear q9))
      (try (have q9 := FZ.out; clear FZ; have FZ : Hid (PO bw z1 (.slice ya c.ss.length yc) c.ss) := PO.past q9 hB; clear q9))
      (try (have q9 := FB.out; clear FB; have FB : Hid (PL (fun _ => True) z1 (.slice (some ⟨bb, 0, none⟩) 2 2) [c.d, b]) := PL.past q9 hB; clear q9))
      have FC : Hid (PO bw z1 (.slice xa c.cs.length xc) c.cs) := F9
      clear F9 hB
      (try go_wp2_with fail)
      refine hK.out _ _ HH (fun _ => ?_)
      clear hK K
      (try simp only [Act.put, List.setIfInBounds_toArray, List.set_cons_zero, List.set_cons_succ])
      refine wpAnyH_ready (rs := [8, 12]) (by kernel_rfl) (by simp) ?_
      refine AllReadyH.cons ov8 (fun K hK => ?_) (AllReadyH.cons ov12 (fun K hK => ?_) AllReadyH.nil)
      · rw [if_pos (by rfl)]
        go_simp
        refine (copies_is _ _ c.ss SRC.out.1.s (by have := HSM.out; unfold Small at this; omega) (by have := HSM.out; unfold Small at this; omega)).mono ?_
        rintro e z1 ⟨v9, rfl, hP, hB⟩
        obtain ⟨ya, yc, e9⟩ := PO.sl hP
        subst e9
        have FAP : Hid (∀ g, OwnV (.slice ya c.ss.length yc) g → ¬ OwnV (.slice xa c.cs.length xc) g) := fun g h1 h2 => by have q1 := (PO.lt hP g h1).1; have q2 := (PO.lt FC.out g h2).2; omega
        have F9 := hP.base (Nat.le_trans GE.out B.out.size)
        clear hP
        have H9 := HH.past hB
        clear HH
        have HH := H9
        clear H9
        have q9 := B.out.trans (hB.mono (Nat.le_trans GE.out B.out.size))
        clear B
        have B : Hid (Below bw w z1) := q9
        clear q9
        have q9 := BX.out.past hB
        clear BX
        have BX : Hid (CBox z1 b2 28 [.slice none 0 0, .slice none 0 0, .slice none 0 0, .slice none 0 0, .int .i64 0]) := q9
        clear q9
        have q9 := And.intro (SRC.out.1.past hB) (SRC.out.2.past hB)
        clear SRC
        have SRC : Hid (SrC P z1 (.slice ta c.ts.length tc) (.slice ca c.cs.length cc) (.slice sa c.ss.length sc) (.slice da c.d.length dc) c ∧ BL R z1 (.slice ua b.length uc) b) := q9
        clear q9
        (try (have q9 := FT.out; clear FT; have FT : Hid (z1.ownsRow bw 77 3 (.slice qa c.ts.length qc) c.ts.length (tV c.ts)) := owns_past q9 hB; clear q9))
        (try (have q9 := FC.out; clear FC; have FC : Hid (PO bw z1 (.slice xa c.cs.length xc) c.cs) := PO.past q9 hB; clear q9))
        (try (have q9 := FB.out; clear FB; have FB : Hid (PL (fun _ => True) z1 (.slice (some ⟨bb, 0, none⟩) 2 2) [c.d, b]) := PL.past q9 hB; clear q9))
        have FZ : Hid (PO bw z1 (.slice ya c.ss.length yc) c.ss) := F9
        clear F9 hB
        (try go_wp2_with fail)
        refine hK.out _ _ HH (fun _ => ?_)
        clear hK K
        (try simp only [Act.put, List.setIfInBounds_toArray, List.set_cons_zero, List.set_cons_succ])
        refine wpAnyH_ready (rs := [12]) (by kernel_rfl) (by simp) ?_
        refine AllReadyH.cons ov12 (fun K hK => ?_) AllReadyH.nil
        rw [if_pos (by rfl)]
        go_simp
        have hB : Below z1.heap.size z1 (z1.alloc (.cells #[.slice da c.d.length dc, .slice ua b.length uc] 22)) := below_alloc _ _
        have F9 := pl_two z1 _ _ c.d b (SRC.out.1.d.mono fun _ _ _ => trivial : BL (fun _ => True) z1 _ c.d) (SRC.out.2.mono fun _ _ _ => trivial)
        have H9 := HH.past hB
        clear HH
        have HH := H9
        clear H9
        have q9 := B.out.trans (hB.mono (Nat.le_trans GE.out B.out.size))
        clear B
        have B : Hid (Below bw w (z1.alloc (.cells #[.slice da c.d.length dc, .slice ua b.length uc] 22))) := q9
        clear q9
        have q9 := BX.out.past hB
        clear BX
        have BX : Hid (CBox (z1.alloc (.cells #[.slice da c.d.length dc, .slice ua b.length uc] 22)) b2 28 [.slice none 0 0, .slice none 0 0, .slice none 0 0, .slice none 0 0, .int .i64 0]) := q9
        clear q9
        have q9 := And.intro (SRC.out.1.past hB) (SRC.out.2.past hB)
        clear SRC
        have SRC : Hid (SrC P (z1.alloc (.cells #[.slice da c.d.length dc, .slice ua b.length uc] 22)) (.slice ta c.ts.length tc) (.slice ca c.cs.length cc) (.slice sa c.ss.length sc) (.slice da c.d.length dc) c ∧ BL R (z1.alloc (.cells #[.slice da c.d.length dc, .slice ua b.length uc] 22)) (.slice ua b.length uc) b) := q9
        clear q9
        (try (have q9 := FT.out; clear FT; have FT : Hid ((z1.alloc (.cells #[.slice da c.d.length dc, .slice ua b.length uc] 22)).ownsRow bw 77 3 (.slice qa c.ts.length qc) c.ts.length (tV c.ts)) := owns_past q9 hB; clear q9))
        (try (have q9 := FC.out; clear FC; have FC : Hid (PO bw (z1.alloc (.cells #[.slice da c.d.length dc, .slice ua b.length uc] 22)) (.slice xa c.cs.length xc) c.cs) := PO.past q9 hB; clear q9))
        (try (have q9 := FZ.out; clear FZ; have FZ : Hid (PO bw (z1.alloc (.cells #[.slice da c.d.length dc, .slice ua b.length uc] 22)) (.slice ya c.ss.length yc) c.ss) := PO.past q9 hB; clear q9))
        have FB : Hid (PL (fun _ => True) (z1.alloc (.cells #[.slice da c.d.length dc, .slice ua b.length uc] 22)) (.slice (some ⟨z1.heap.size, 0, none⟩) 2 2) [c.d, b]) := F9
        clear F9 hB
        refine hK.out _ (z1.alloc (.cells #[.slice da c.d.length dc, .slice ua b.length uc] 22)) HH (fun _ => ?_)
        clear hK K
        (try simp only [Act.put, List.setIfInBounds_toArray, List.set_cons_zero, List.set_cons_succ])
        generalize z1.heap.size = bb at FB ⊢
        (first | generalize (z1.alloc (.cells #[.slice da c.d.length dc, .slice ua b.length uc] 22)) = z1 at HH B BX SRC FB FT FC FZ ⊢ | generalize (z1.alloc (.cells #[.slice da c.d.length dc, .slice ua b.length uc] 22)) = z1 at HH B BX SRC FB FT FC ⊢ | generalize (z1.alloc (.cells #[.slice da c.d.length dc, .slice ua b.length uc] 22)) = z1 at HH B BX SRC FB FT ⊢ | generalize (z1.alloc (.cells #[.slice da c.d.length dc, .slice ua b.length uc] 22)) = z1 at HH B BX SRC FB ⊢)
        refine wpAnyH_ready (rs := [13]) (by kernel_rfl) (by simp) ?_
        refine AllReadyH.cons ov13 (fun K hK => ?_) AllReadyH.nil
        rw [if_pos (by rfl)]
        go_simp
        refine (CN.out _ _ FB.out).mono ?_
        rintro e z1 ⟨v9, rfl, hP, hB⟩
        obtain ⟨ea, ec, e9⟩ := owns_sl hP
        subst e9
        have F9 := owns_base hP (Nat.le_trans GE.out B.out.size)
        clear hP FB
        have H9 := HH.past hB
        clear HH
        have HH := H9
        clear H9
        have q9 := B.out.trans (hB.mono (Nat.le_trans GE.out B.out.size))
        clear B
        have B : Hid (Below bw w z1) := q9
        clear q9
        have q9 := BX.out.past hB
        clear BX
        have BX : Hid (CBox z1 b2 28 [.slice none 0 0, .slice none 0 0, .slice none 0 0, .slice none 0 0, .int .i64 0]) := q9
        clear q9
        have q9 := And.intro (SRC.out.1.past hB) (SRC.out.2.past hB)
        clear SRC
        have SRC : Hid (SrC P z1 (.slice ta c.ts.length tc) (.slice ca c.cs.length cc) (.slice sa c.ss.length sc) (.slice da c.d.length dc) c ∧ BL R z1 (.slice ua b.length uc) b) := q9
        clear q9
        (try (have q9 := FT.out; clear FT; have FT : Hid (z1.ownsRow bw 77 3 (.slice qa c.ts.length qc) c.ts.length (tV c.ts)) := owns_past q9 hB; clear q9))
        (try (have q9 := FC.out; clear FC; have FC : Hid (PO bw z1 (.slice xa c.cs.length xc) c.cs) := PO.past q9 hB; clear q9))
        (try (have q9 := FZ.out; clear FZ; have FZ : Hid (PO bw z1 (.slice ya c.ss.length yc) c.ss) := PO.past q9 hB; clear q9))
        have FD : Hid (z1.ownsRow bw 5 1 (.slice ea dl.length ec) dl.length (bV dl)) := F9
        clear F9 hB
        (try go_wp2_with fail)
        refine hK.out _ _ HH (fun _ => ?_)
        clear hK K
        (try simp only [Act.put, List.setIfInBounds_toArray, List.set_cons_zero, List.set_cons_succ])
        refine wpAnyH_take (i := 15) (v := .agg #[.slice qa c.ts.length qc, .slice xa c.cs.length xc, .slice ya c.ss.length yc, .slice ea dl.length ec, .int .i64 (nz : Int)]) ov15 (by kernel_rfl) (by kernel_rfl) (by kernel_rfl) (fun _ _ _ h => h) (Or.inl ⟨by rfl, fun V' hS => ?_⟩) HH ?_
        · go_simp
        simp only [Act.put, List.setIfInBounds_toArray, List.set_cons_zero, List.set_cons_succ]
        refine wpAnyH_ready (rs := [16]) (by kernel_rfl) (by simp) ?_
        refine AllReadyH.cons ov16 (fun K hK => ?_) AllReadyH.nil
        rw [if_pos (by rfl)]
        have k0 : z1.cell? ⟨b2, 0, none⟩ = some (.slice none 0 0) := BX.out.cell 0
        have k1 : z1.cell? ⟨b2, 1, none⟩ = some (.slice none 0 0) := BX.out.cell 1
        have k2 : z1.cell? ⟨b2, 2, none⟩ = some (.slice none 0 0) := BX.out.cell 2
        have k3 : z1.cell? ⟨b2, 3, none⟩ = some (.slice none 0 0) := BX.out.cell 3
        have k4 : z1.cell? ⟨b2, 4, none⟩ = some (.int .i64 0) := BX.out.cell 4
        have f0 := CBox.frozen BX.out 0
        have f1 := CBox.frozen BX.out 1
        have f2 := CBox.frozen BX.out 2
        have f3 := CBox.frozen BX.out 3
        have f4 := CBox.frozen BX.out 4
        go_simp
        clear k0 k1 k2 k3 k4 f0 f1 f2 f3 f4
        have hs : But (fun y => y = b2) z1 (((((z1.setCell ⟨b2, 0, none⟩ (.slice qa c.ts.length qc)).setCell ⟨b2, 1, none⟩ (.slice xa c.cs.length xc)).setCell ⟨b2, 2, none⟩ (.slice ya c.ss.length yc)).setCell ⟨b2, 3, none⟩ (.slice ea dl.length ec)).setCell ⟨b2, 4, none⟩ (.int .i64 (nz : Int))) := ((((((But.refl (fun y => y = b2) z1).setCell ⟨b2, 0, none⟩ _ (Or.inl rfl)).setCell ⟨b2, 1, none⟩ _ (Or.inl rfl)).setCell ⟨b2, 2, none⟩ _ (Or.inl rfl)).setCell ⟨b2, 3, none⟩ _ (Or.inl rfl)).setCell ⟨b2, 4, none⟩ _ (Or.inl rfl))
        have ra : Alien z1 b2 := ⟨_, _, BX.out, by decide, by decide, by decide⟩
        have cb : CBox (((((z1.setCell ⟨b2, 0, none⟩ (.slice qa c.ts.length qc)).setCell ⟨b2, 1, none⟩ (.slice xa c.cs.length xc)).setCell ⟨b2, 2, none⟩ (.slice ya c.ss.length yc)).setCell ⟨b2, 3, none⟩ (.slice ea dl.length ec)).setCell ⟨b2, 4, none⟩ (.int .i64 (nz : Int))) b2 28 [.slice qa c.ts.length qc, .slice xa c.cs.length xc, .slice ya c.ss.length yc, .slice ea dl.length ec, .int .i64 (nz : Int)] := (((((BX.out.set 0 _).set 1 _).set 2 _).set 3 _).set 4 _)
        have HF : Hid (CBox (((((z1.setCell ⟨b2, 0, none⟩ (.slice qa c.ts.length qc)).setCell ⟨b2, 1, none⟩ (.slice xa c.cs.length xc)).setCell ⟨b2, 2, none⟩ (.slice ya c.ss.length yc)).setCell ⟨b2, 3, none⟩ (.slice ea dl.length ec)).setCell ⟨b2, 4, none⟩ (.int .i64 (nz : Int))) b2 28 [.slice qa c.ts.length qc, .slice xa c.cs.length xc, .slice ya c.ss.length yc, .slice ea dl.length ec, .int .i64 (nz : Int)] ∧ DO bw (((((z1.setCell ⟨b2, 0, none⟩ (.slice qa c.ts.length qc)).setCell ⟨b2, 1, none⟩ (.slice xa c.cs.length xc)).setCell ⟨b2, 2, none⟩ (.slice ya c.ss.length yc)).setCell ⟨b2, 3, none⟩ (.slice ea dl.length ec)).setCell ⟨b2, 4, none⟩ (.int .i64 (nz : Int))) (.agg #[.slice qa c.ts.length qc, .slice xa c.cs.length xc, .slice ya c.ss.length yc, .slice ea dl.length ec, .int .i64 (nz : Int)]) ⟨c.ts, c.cs, c.ss, dl, (nz : Int)⟩ ∧ Below bw w (((((z1.setCell ⟨b2, 0, none⟩ (.slice qa c.ts.length qc)).setCell ⟨b2, 1, none⟩ (.slice xa c.cs.length xc)).setCell ⟨b2, 2, none⟩ (.slice ya c.ss.length yc)).setCell ⟨b2, 3, none⟩ (.slice ea dl.length ec)).setCell ⟨b2, 4, none⟩ (.int .i64 (nz : Int)))) := ⟨cb, ⟨_, _, _, _, _, _, _, _, rfl, row_alienT FT.out hs ra, PO.alien FC.out hs ra, PO.alien FZ.out hs ra, row_alien FD.out hs ra, FAP.out⟩, B.out.trans (hs.below (fun g e => by have := GL.out; have := GB.out; omega) (Nat.le_trans GE.out B.out.size))⟩
        have HHN := HH.but hs (by have := GL.out; omega)
        clear hs ra cb HH
        refine hK.out _ (((((z1.setCell ⟨b2, 0, none⟩ (.slice qa c.ts.length qc)).setCell ⟨b2, 1, none⟩ (.slice xa c.cs.length xc)).setCell ⟨b2, 2, none⟩ (.slice ya c.ss.length yc)).setCell ⟨b2, 3, none⟩ (.slice ea dl.length ec)).setCell ⟨b2, 4, none⟩ (.int .i64 (nz : Int))) HHN (fun _ => ?_)
        clear hK K
        (try simp only [Act.put, List.setIfInBounds_toArray, List.set_cons_zero, List.set_cons_succ])
        generalize (((((z1.setCell ⟨b2, 0, none⟩ (.slice qa c.ts.length qc)).setCell ⟨b2, 1, none⟩ (.slice xa c.cs.length xc)).setCell ⟨b2, 2, none⟩ (.slice ya c.ss.length yc)).setCell ⟨b2, 3, none⟩ (.slice ea dl.length ec)).setCell ⟨b2, 4, none⟩ (.int .i64 (nz : Int))) = Z9 at HF HHN ⊢
        clear B BX SRC FT FC FZ FD FAP
        refine wpAnyH_take (i := 17) (v := .int .i64 0) ov17 (by kernel_rfl) (by kernel_rfl) (by kernel_rfl) (fun _ _ _ h => h) (Or.inl ⟨by rfl, fun V' hS => ?_⟩) HHN ?_
        · go_simp
        simp only [Act.put, List.setIfInBounds_toArray, List.set_cons_zero, List.set_cons_succ]
        refine wpAnyH_done (by kernel_rfl) ?_ _
        clear HHN
        go_wp2
        refine bodyPost_ret (v := .tuple #[.agg #[.slice qa c.ts.length qc, .slice xa c.cs.length xc, .slice ya c.ss.length yc, .slice ea dl.length ec, .int .i64 (nz : Int)], .int .i64 0]) (results_ct (p := 4) (q := 5) (ty := 28) Try.results27 _ _ _ ⟨b2, 0, none⟩ rfl rfl (run_loadVar_mid Z9 b2 0 28 [.slice qa c.ts.length qc, .slice xa c.cs.length xc, .slice ya c.ss.length yc, .slice ea dl.length ec, .int .i64 (nz : Int)] _ HF.out.1.range Try.underlying28 rfl (by kernel_rfl))) rfl ?_
        refine ⟨?_, ?_⟩
        · rw [E.out]
          exact ⟨_, rfl, by first | exact HF.out.2.1 | (rw [GB.out]; exact HF.out.2.1) | (rw [← GB.out]; exact HF.out.2.1)⟩
        · (first | exact HF.out.2.2 | (rw [GB.out]; exact HF.out.2.2))
      · rw [if_pos (by rfl)]
        go_simp
        have hB : Below z1.heap.size z1 (z1.alloc (.cells #[.slice da c.d.length dc, .slice ua b.length uc] 22)) := below_alloc _ _
        have F9 := pl_two z1 _ _ c.d b (SRC.out.1.d.mono fun _ _ _ => trivial : BL (fun _ => True) z1 _ c.d) (SRC.out.2.mono fun _ _ _ => trivial)
        have H9 := HH.past hB
        clear HH
        have HH := H9
        clear H9
        have q9 := B.out.trans (hB.mono (Nat.le_trans GE.out B.out.size))
        clear B
        have B : Hid (Below bw w (z1.alloc (.cells #[.slice da c.d.length dc, .slice ua b.length uc] 22))) := q9
        clear q9
        have q9 := BX.out.past hB
        clear BX
        have BX : Hid (CBox (z1.alloc (.cells #[.slice da c.d.length dc, .slice ua b.length uc] 22)) b2 28 [.slice none 0 0, .slice none 0 0, .slice none 0 0, .slice none 0 0, .int .i64 0]) := q9
        clear q9
        have q9 := And.intro (SRC.out.1.past hB) (SRC.out.2.past hB)
        clear SRC
        have SRC : Hid (SrC P (z1.alloc (.cells #[.slice da c.d.length dc, .slice ua b.length uc] 22)) (.slice ta c.ts.length tc) (.slice ca c.cs.length cc) (.slice sa c.ss.length sc) (.slice da c.d.length dc) c ∧ BL R (z1.alloc (.cells #[.slice da c.d.length dc, .slice ua b.length uc] 22)) (.slice ua b.length uc) b) := q9
        clear q9
        (try (have q9 := FT.out; clear FT; have FT : Hid ((z1.alloc (.cells #[.slice da c.d.length dc, .slice ua b.length uc] 22)).ownsRow bw 77 3 (.slice qa c.ts.length qc) c.ts.length (tV c.ts)) := owns_past q9 hB; clear q9))
        (try (have q9 := FC.out; clear FC; have FC : Hid (PO bw (z1.alloc (.cells #[.slice da c.d.length dc, .slice ua b.length uc] 22)) (.slice xa c.cs.length xc) c.cs) := PO.past q9 hB; clear q9))
        (try (have q9 := FZ.out; clear FZ; have FZ : Hid (PO bw (z1.alloc (.cells #[.slice da c.d.length dc, .slice ua b.length uc] 22)) (.slice ya c.ss.length yc) c.ss) := PO.past q9 hB; clear q9))
        have FB : Hid (PL (fun _ => True) (z1.alloc (.cells #[.slice da c.d.length dc, .slice ua b.length uc] 22)) (.slice (some ⟨z1.heap.size, 0, none⟩) 2 2) [c.d, b]) := F9
        clear F9 hB
        refine hK.out _ (z1.alloc (.cells #[.slice da c.d.length dc, .slice ua b.length uc] 22)) HH (fun _ => ?_)
        clear hK K
        (try simp only [Act.put, List.setIfInBounds_toArray, List.set_cons_zero, List.set_cons_succ])
        generalize z1.heap.size = bb at FB ⊢
        (first | generalize (z1.alloc (.cells #[.slice da c.d.length dc, .slice ua b.length uc] 22)) = z1 at HH B BX SRC FB FT FC FZ ⊢ | generalize (z1.alloc (.cells #[.slice da c.d.length dc, .slice ua b.length uc] 22)) = z1 at HH B BX SRC FB FT FC ⊢ | generalize (z1.alloc (.cells #[.slice da c.d.length dc, .slice ua b.length uc] 22)) = z1 at HH B BX SRC FB FT ⊢ | generalize (z1.alloc (.cells #[.slice da c.d.length dc, .slice ua b.length uc] 22)) = z1 at HH B BX SRC FB ⊢)
        refine wpAnyH_ready (rs := [8]) (by kernel_rfl) (by simp) ?_
        refine AllReadyH.cons ov8 (fun K hK => ?_) AllReadyH.nil
        rw [if_pos (by rfl)]
        go_simp
        refine (copies_is _ _ c.ss SRC.out.1.s (by have := HSM.out; unfold Small at this; omega) (by have := HSM.out; unfold Small at this; omega)).mono ?_
        rintro e z1 ⟨v9, rfl, hP, hB⟩
        obtain ⟨ya, yc, e9⟩ := PO.sl hP
        subst e9
        have FAP : Hid (∀ g, OwnV (.slice ya c.ss.length yc) g → ¬ OwnV (.slice xa c.cs.length xc) g) := fun g h1 h2 => by have q1 := (PO.lt hP g h1).1; have q2 := (PO.lt FC.out g h2).2; omega
        have F9 := hP.base (Nat.le_trans GE.out B.out.size)
        clear hP
        have H9 := HH.past hB
        clear HH
        have HH := H9
        clear H9
        have q9 := B.out.trans (hB.mono (Nat.le_trans GE.out B.out.size))
        clear B
        have B : Hid (Below bw w z1) := q9
        clear q9
        have q9 := BX.out.past hB
        clear BX
        have BX : Hid (CBox z1 b2 28 [.slice none 0 0, .slice none 0 0, .slice none 0 0, .slice none 0 0, .int .i64 0]) := q9
        clear q9
        have q9 := And.intro (SRC.out.1.past hB) (SRC.out.2.past hB)
        clear SRC
        have SRC : Hid (SrC P z1 (.slice ta c.ts.length tc) (.slice ca c.cs.length cc) (.slice sa c.ss.length sc) (.slice da c.d.length dc) c ∧ BL R z1 (.slice ua b.length uc) b) := q9
        clear q9
        (try (have q9 := FT.out; clear FT; have FT : Hid (z1.ownsRow bw 77 3 (.slice qa c.ts.length qc) c.ts.length (tV c.ts)) := owns_past q9 hB; clear q9))
        (try (have q9 := FC.out; clear FC; have FC : Hid (PO bw z1 (.slice xa c.cs.length xc) c.cs) := PO.past q9 hB; clear q9))
        (try (have q9 := FB.out; clear FB; have FB : Hid (PL (fun _ => True) z1 (.slice (some ⟨bb, 0, none⟩) 2 2) [c.d, b]) := PL.past q9 hB; clear q9))
        have FZ : Hid (PO bw z1 (.slice ya c.ss.length yc) c.ss) := F9
        clear F9 hB
        (try go_wp2_with fail)
        refine hK.out _ _ HH (fun _ => ?_)
        clear hK K
        (try simp only [Act.put, List.setIfInBounds_toArray, List.set_cons_zero, List.set_cons_succ])
        refine wpAnyH_ready (rs := [13]) (by kernel_rfl) (by simp) ?_
        refine AllReadyH.cons ov13 (fun K hK => ?_) AllReadyH.nil
        rw [if_pos (by rfl)]
        go_simp
        refine (CN.out _ _ FB.out).mono ?_
        rintro e z1 ⟨v9, rfl, hP, hB⟩
        obtain ⟨ea, ec, e9⟩ := owns_sl hP
        subst e9
        have F9 := owns_base hP (Nat.le_trans GE.out B.out.size)
        clear hP FB
        have H9 := HH.past hB
        clear HH
        have HH := H9
        clear H9
        have q9 := B.out.trans (hB.mono (Nat.le_trans GE.out B.out.size))
        clear B
        have B : Hid (Below bw w z1) := q9
        clear q9
        have q9 := BX.out.past hB
        clear BX
        have BX : Hid (CBox z1 b2 28 [.slice none 0 0, .slice none 0 0, .slice none 0 0, .slice none 0 0, .int .i64 0]) := q9
        clear q9
        have q9 := And.intro (SRC.out.1.past hB) (SRC.out.2.past hB)
        clear SRC
        have SRC : Hid (SrC P z1 (.slice ta c.ts.length tc) (.slice ca c.cs.length cc) (.slice sa c.ss.length sc) (.slice da c.d.length dc) c ∧ BL R z1 (.slice ua b.length uc) b) := q9
        clear q9
        (try (have q9 := FT.out; clear FT; have FT : Hid (z1.ownsRow bw 77 3 (.slice qa c.ts.length qc) c.ts.length (tV c.ts)) := owns_past q9 hB; clear q9))
        (try (have q9 := FC.out; clear FC; have FC : Hid (PO bw z1 (.slice xa c.cs.length xc) c.cs) := PO.past q9 hB; clear q9))
        (try (have q9 := FZ.out; clear FZ; have FZ : Hid (PO bw z1 (.slice ya c.ss.length yc) c.ss) := PO.past q9 hB; clear q9))
        have FD : Hid (z1.ownsRow bw 5 1 (.slice ea dl.length ec) dl.length (bV dl)) := F9
        clear F9 hB
        (try go_wp2_with fail)
        refine hK.out _ _ HH (fun _ => ?_)
        clear hK K
        (try simp only [Act.put, List.setIfInBounds_toArray, List.set_cons_zero, List.set_cons_succ])
        refine wpAnyH_take (i := 15) (v := .agg #[.slice qa c.ts.length qc, .slice xa c.cs.length xc, .slice ya c.ss.length yc, .slice ea dl.length ec, .int .i64 (nz : Int)]) ov15 (by kernel_rfl) (by kernel_rfl) (by kernel_rfl) (fun _ _ _ h => h) (Or.inl ⟨by rfl, fun V' hS => ?_⟩) HH ?_
        · go_simp
        simp only [Act.put, List.setIfInBounds_toArray, List.set_cons_zero, List.set_cons_succ]
        refine wpAnyH_ready (rs := [16]) (by kernel_rfl) (by simp) ?_
        refine AllReadyH.cons ov16 (fun K hK => ?_) AllReadyH.nil
        rw [if_pos (by rfl)]
        have k0 : z1.cell? ⟨b2, 0, none⟩ = some (.slice none 0 0) := BX.out.cell 0
        have k1 : z1.cell? ⟨b2, 1, none⟩ = some (.slice none 0 0) := BX.out.cell 1
        have k2 : z1.cell? ⟨b2, 2, none⟩ = some (.slice none 0 0) := BX.out.cell 2
        have k3 : z1.cell? ⟨b2, 3, none⟩ = some (.slice none 0 0) := BX.out.cell 3
        have k4 : z1.cell? ⟨b2, 4, none⟩ = some (.int .i64 0) := BX.out.cell 4
        have f0 := CBox.frozen BX.out 0
        have f1 := CBox.frozen BX.out 1
        have f2 := CBox.frozen BX.out 2
        have f3 := CBox.frozen BX.out 3
        have f4 := CBox.frozen BX.out 4
        go_simp
        clear k0 k1 k2 k3 k4 f0 f1 f2 f3 f4
        have hs : But (fun y => y = b2) z1 (((((z1.setCell ⟨b2, 0, none⟩ (.slice qa c.ts.length qc)).setCell ⟨b2, 1, none⟩ (.slice xa c.cs.length xc)).setCell ⟨b2, 2, none⟩ (.slice ya c.ss.length yc)).setCell ⟨b2, 3, none⟩ (.slice ea dl.length ec)).setCell ⟨b2, 4, none⟩ (.int .i64 (nz : Int))) := ((((((But.refl (fun y => y = b2) z1).setCell ⟨b2, 0, none⟩ _ (Or.inl rfl)).setCell ⟨b2, 1, none⟩ _ (Or.inl rfl)).setCell ⟨b2, 2, none⟩ _ (Or.inl rfl)).setCell ⟨b2, 3, none⟩ _ (Or.inl rfl)).setCell ⟨b2, 4, none⟩ _ (Or.inl rfl))
        have ra : Alien z1 b2 := ⟨_, _, BX.out, by decide, by decide, by decide⟩
        have cb : CBox (((((z1.setCell ⟨b2, 0, none⟩ (.slice qa c.ts.length qc)).setCell ⟨b2, 1, none⟩ (.slice xa c.cs.length xc)).setCell ⟨b2, 2, none⟩ (.slice ya c.ss.length yc)).setCell ⟨b2, 3, none⟩ (.slice ea dl.length ec)).setCell ⟨b2, 4, none⟩ (.int .i64 (nz : Int))) b2 28 [.slice qa c.ts.length qc, .slice xa c.cs.length xc, .slice ya c.ss.length yc, .slice ea dl.length ec, .int .i64 (nz : Int)] := (((((BX.out.set 0 _).set 1 _).set 2 _).set 3 _).set 4 _)
        have HF : Hid (CBox (((((z1.setCell ⟨b2, 0, none⟩ (.slice qa c.ts.length qc)).setCell ⟨b2, 1, none⟩ (.slice xa c.cs.length xc)).setCell ⟨b2, 2, none⟩ (.slice ya c.ss.length yc)).setCell ⟨b2, 3, none⟩ (.slice ea dl.length ec)).setCell ⟨b2, 4, none⟩ (.int .i64 (nz : Int))) b2 28 [.slice qa c.ts.length qc, .slice xa c.cs.length xc, .slice ya c.ss.length yc, .slice ea dl.length ec, .int .i64 (nz : Int)] ∧ DO bw (((((z1.setCell ⟨b2, 0, none⟩ (.slice qa c.ts.length qc)).setCell ⟨b2, 1, none⟩ (.slice xa c.cs.length xc)).setCell ⟨b2, 2, none⟩ (.slice ya c.ss.length yc)).setCell ⟨b2, 3, none⟩ (.slice ea dl.length ec)).setCell ⟨b2, 4, none⟩ (.int .i64 (nz : Int))) (.agg #[.slice qa c.ts.length qc, .slice xa c.cs.length xc, .slice ya c.ss.length yc, .slice ea dl.length ec, .int .i64 (nz : Int)]) ⟨c.ts, c.cs, c.ss, dl, (nz : Int)⟩ ∧ Below bw w (((((z1.setCell ⟨b2, 0, none⟩ (.slice qa c.ts.length qc)).setCell ⟨b2, 1, none⟩ (.slice xa c.cs.length xc)).setCell ⟨b2, 2, none⟩ (.slice ya c.ss.length yc)).setCell ⟨b2, 3, none⟩ (.slice ea dl.length ec)).setCell ⟨b2, 4, none⟩ (.int .i64 (nz : Int)))) := ⟨cb, ⟨_, _, _, _, _, _, _, _, rfl, row_alienT FT.out hs ra, PO.alien FC.out hs ra, PO.alien FZ.out hs ra, row_alien FD.out hs ra, FAP.out⟩, B.out.trans (hs.below (fun g e => by have := GL.out; have := GB.out; omega) (Nat.le_trans GE.out B.out.size))⟩
        have HHN := HH.but hs (by have := GL.out; omega)
        clear hs ra cb HH
        refine hK.out _ (((((z1.setCell ⟨b2, 0, none⟩ (.slice qa c.ts.length qc)).setCell ⟨b2, 1, none⟩ (.slice xa c.cs.length xc)).setCell ⟨b2, 2, none⟩ (.slice ya c.ss.length yc)).setCell ⟨b2, 3, none⟩ (.slice ea dl.length ec)).setCell ⟨b2, 4, none⟩ (.int .i64 (nz : Int))) HHN (fun _ => ?_)
        clear hK K
        (try simp only [Act.put, List.setIfInBounds_toArray, List.set_cons_zero, List.set_cons_succ])
        generalize (((((z1.setCell ⟨b2, 0, none⟩ (.slice qa c.ts.length qc)).setCell ⟨b2, 1, none⟩ (.slice xa c.cs.length xc)).setCell ⟨b2, 2, none⟩ (.slice ya c.ss.length yc)).setCell ⟨b2, 3, none⟩ (.slice ea dl.length ec)).setCell ⟨b2, 4, none⟩ (.int .i64 (nz : Int))) = Z9 at HF HHN ⊢
        clear B BX SRC FT FC FZ FD FAP
        refine wpAnyH_take (i := 17) (v := .int .i64 0) ov17 (by kernel_rfl) (by kernel_rfl) (by kernel_rfl) (fun _ _ _ h => h) (Or.inl ⟨by rfl, fun V' hS => ?_⟩) HHN ?_
        · go_simp
        simp only [Act.put, List.setIfInBounds_toArray, List.set_cons_zero, List.set_cons_succ]
        refine wpAnyH_done (by kernel_rfl) ?_ _
        clear HHN
        go_wp2
        refine bodyPost_ret (v := .tuple #[.agg #[.slice qa c.ts.length qc, .slice xa c.cs.length xc, .slice ya c.ss.length yc, .slice ea dl.length ec, .int .i64 (nz : Int)], .int .i64 0]) (results_ct (p := 4) (q := 5) (ty := 28) Try.results27 _ _ _ ⟨b2, 0, none⟩ rfl rfl (run_loadVar_mid Z9 b2 0 28 [.slice qa c.ts.length qc, .slice xa c.cs.length xc, .slice ya c.ss.length yc, .slice ea dl.length ec, .int .i64 (nz : Int)] _ HF.out.1.range Try.underlying28 rfl (by kernel_rfl))) rfl ?_
        refine ⟨?_, ?_⟩
        · rw [E.out]
          exact ⟨_, rfl, by first | exact HF.out.2.1 | (rw [GB.out]; exact HF.out.2.1) | (rw [← GB.out]; exact HF.out.2.1)⟩
        · (first | exact HF.out.2.2 | (rw [GB.out]; exact HF.out.2.2))
    · rw [if_pos (by rfl)]
      go_simp
      have hB : Below z1.heap.size z1 (z1.alloc (.cells #[.slice da c.d.length dc, .slice ua b.length uc] 22)) := below_alloc _ _
      have F9 := pl_two z1 _ _ c.d b (SRC.out.1.d.mono fun _ _ _ => trivial : BL (fun _ => True) z1 _ c.d) (SRC.out.2.mono fun _ _ _ => trivial)
      have H9 := HH.past hB
      clear HH
      have HH := H9
      clear H9
      have q9 := B.out.trans (hB.mono (Nat.le_trans GE.out B.out.size))
      clear B
      have B : Hid (Below bw w (z1.alloc (.cells #[.slice da c.d.length dc, .slice ua b.length uc] 22))) := q9
      clear q9
      have q9 := BX.out.past hB
      clear BX
      have BX : Hid (CBox (z1.alloc (.cells #[.slice da c.d.length dc, .slice ua b.length uc] 22)) b2 28 [.slice none 0 0, .slice none 0 0, .slice none 0 0, .slice none 0 0, .int .i64 0]) := q9
      clear q9
      have q9 := And.intro (SRC.out.1.past hB) (SRC.out.2.past hB)
      clear SRC
      have SRC : Hid (SrC P (z1.alloc (.cells #[.slice da c.d.length dc, .slice ua b.length uc] 22)) (.slice ta c.ts.length tc) (.slice ca c.cs.length cc) (.slice sa c.ss.length sc) (.slice da c.d.length dc) c ∧ BL R (z1.alloc (.cells #[.slice da c.d.length dc, .slice ua b.length uc] 22)) (.slice ua b.length uc) b) := q9
      clear q9
      (try (have q9 := FT.out; clear FT; have FT : Hid ((z1.alloc (.cells #[.slice da c.d.length dc, .slice ua b.length uc] 22)).ownsRow bw 77 3 (.slice qa c.ts.length qc) c.ts.length (tV c.ts)) := owns_past q9 hB; clear q9))
      (try (have q9 := FC.out; clear FC; have FC : Hid (PO bw (z1.alloc (.cells #[.slice da c.d.length dc, .slice ua b.length uc] 22)) (.slice xa c.cs.length xc) c.cs) := PO.past q9 hB; clear q9))
      (try (have q9 := FZ.out; clear FZ; have FZ : Hid (PO bw (z1.alloc (.cells #[.slice da c.d.length dc, .slice ua b.length uc] 22)) (.slice ya c.ss.length yc) c.ss) := PO.past q9 hB; clear q9))
      have FB : Hid (PL (fun _ => True) (z1.alloc (.cells #[.slice da c.d.length dc, .slice ua b.length uc] 22)) (.slice (some ⟨z1.heap.size, 0, none⟩) 2 2) [c.d, b]) := F9
      clear F9 hB
      refine hK.out _ (z1.alloc (.cells #[.slice da c.d.length dc, .slice ua b.length uc] 22)) HH (fun _ => ?_)
      clear hK K
      (try simp only [Act.put, List.setIfInBounds_toArray, List.set_cons_zero, List.set_cons_succ])
      generalize z1.heap.size = bb at FB ⊢
      (first | generalize (z1.alloc (.cells #[.slice da c.d.length dc, .slice ua b.length uc] 22)) = z1 at HH B BX SRC FB FT FC FZ ⊢ | generalize (z1.alloc (.cells #[.slice da c.d.length dc, .slice ua b.length uc] 22)) = z1 at HH B BX SRC FB FT FC ⊢ | generalize (z1.alloc (.cells #[.slice da c.d.length dc, .slice ua b.length uc] 22)) = z1 at HH B BX SRC FB FT ⊢ | generalize (z1.alloc (.cells #[.slice da c.d.length dc, .slice ua b.length uc] 22)) = z1 at HH B BX SRC FB ⊢)
      refine wpAnyH_ready (rs := [5]) (by kernel_rfl) (by simp) ?_
      refine AllReadyH.cons ov5 (fun K hK => ?_) AllReadyH.nil
      rw [if_pos (by rfl)]
      go_simp
      refine (copies_is _ _ c.cs SRC.out.1.p (by have := HSM.out; unfold Small at this; omega) (by have := HSM.out; unfold Small at this; omega)).mono ?_
      rintro e z1 ⟨v9, rfl, hP, hB⟩
      obtain ⟨xa, xc, e9⟩ := PO.sl hP
      subst e9
      have F9 := hP.base (Nat.le_trans GE.out B.out.size)
      clear hP
      have H9 := HH.past hB
      clear HH
      have HH := H9
      clear H9
      have q9 := B.out.trans (hB.mono (Nat.le_trans GE.out B.out.size))
      clear B
      have B : Hid (Below bw w z1) := q9
      clear q9
      have q9 := BX.out.past hB
      clear BX
      have BX : Hid (CBox z1 b2 28 [.slice none 0 0, .slice none 0 0, .slice none 0 0, .slice none 0 0, .int .i64 0]) := q9
      clear q9
      have q9 := And.intro (SRC.out.1.past hB) (SRC.out.2.past hB)
      clear SRC
      have SRC : Hid (SrC P z1 (.slice ta c.ts.length tc) (.slice ca c.cs.length cc) (.slice sa c.ss.length sc) (.slice da c.d.length dc) c ∧ BL R z1 (.slice ua b.length uc) b) := q9
      clear q9
      (try (have q9 := FT.out; clear FT; have FT : Hid (z1.ownsRow bw 77 3 (.slice qa c.ts.length qc) c.ts.length (tV c.ts)) := owns_past q9 hB; clear q9))
      (try (have q9 := FZ.out; clear FZ; have FZ : Hid (PO bw z1 (.slice ya c.ss.length yc) c.ss) := PO.past q9 hB; clear q9))
      (try (have q9 := FB.out; clear FB; have FB : Hid (PL (fun _ => True) z1 (.slice (some ⟨bb, 0, none⟩) 2 2) [c.d, b]) := PL.past q9 hB; clear q9))
      have FC : Hid (PO bw z1 (.slice xa c.cs.length xc) c.cs) := F9
      clear F9 hB
      (try go_wp2_with fail)
      refine hK.out _ _ HH (fun _ => ?_)
      clear hK K
      (try simp only [Act.put, List.setIfInBounds_toArray, List.set_cons_zero, List.set_cons_succ])
      refine wpAnyH_ready (rs := [8]) (by kernel_rfl) (by simp) ?_
      refine AllReadyH.cons ov8 (fun K hK => ?_) AllReadyH.nil
      rw [if_pos (by rfl)]
      go_simp
      refine (copies_is _ _ c.ss SRC.out.1.s (by have := HSM.out; unfold Small at this; omega) (by have := HSM.out; unfold Small at this; omega)).mono ?_
      rintro e z1 ⟨v9, rfl, hP, hB⟩
      obtain ⟨ya, yc, e9⟩ := PO.sl hP
      subst e9
      have FAP : Hid (∀ g, OwnV (.slice ya c.ss.length yc) g → ¬ OwnV (.slice xa c.cs.length xc) g) := fun g h1 h2 => by have q1 := (PO.lt hP g h1).1; have q2 := (PO.lt FC.out g h2).2; omega
      have F9 := hP.base (Nat.le_trans GE.out B.out.size)
      clear hP
      have H9 := HH.past hB
      clear HH
      have HH := H9
      clear H9
      have q9 := B.out.trans (hB.mono (Nat.le_trans GE.out B.out.size))
      clear B
      have B : Hid (Below bw w z1) := q9
      clear q9
      have q9 := BX.out.past hB
      clear BX
      have BX : Hid (CBox z1 b2 28 [.slice none 0 0, .slice none 0 0, .slice none 0 0, .slice none 0 0, .int .i64 0]) := q9
      clear q9
      have q9 := And.intro (SRC.out.1.past hB) (SRC.out.2.past hB)
      clear SRC
      have SRC : Hid (SrC P z1 (.slice ta c.ts.length tc) (.slice ca c.cs.length cc) (.slice sa c.ss.length sc) (.slice da c.d.length dc) c ∧ BL R z1 (.slice ua b.length uc) b) := q9
      clear q9
      (try (have q9 := FT.out; clear FT; have FT : Hid (z1.ownsRow bw 77 3 (.slice qa c.ts.length qc) c.ts.length (tV c.ts)) := owns_past q9 hB; clear q9))
      (try (have q9 := FC.out; clear FC; have FC : Hid (PO bw z1 (.slice xa c.cs.length xc) c.cs) := PO.past q9 hB; clear q9))
      (try (have q9 := FB.out; clear FB; have FB : Hid (PL (fun _ => True) z1 (.slice (some ⟨bb, 0, none⟩) 2 2) [c.d, b]) := PL.past q9 hB; clear q9))
      have FZ : Hid (PO bw z1 (.slice ya c.ss.length yc) c.ss) := F9
      clear F9 hB
      (try go_wp2_with fail)
      refine hK.out _ _ HH (fun _ => ?_)
      clear hK K
      (try simp only [Act.put, List.setIfInBounds_toArray, List.set_cons_zero, List.set_cons_succ])
      refine wpAnyH_ready (rs := [13]) (by kernel_rfl) (by simp) ?_
      refine AllReadyH.cons ov13 (fun K hK => ?_) AllReadyH.nil
      rw [if_pos (by rfl)]
      go_simp
      refine (CN.out _ _ FB.out).mono ?_
      rintro e z1 ⟨v9, rfl, hP, hB⟩
      obtain ⟨ea, ec, e9⟩ := owns_sl hP
      subst e9
      have F9 := owns_base hP (Nat.le_trans GE.out B.out.size)
      clear hP FB
      have H9 := HH.past hB
      clear HH
      have HH := H9
      clear H9
      have q9 := B.out.trans (hB.mono (Nat.le_trans GE.out B.out.size))
      clear B
      have B : Hid (Below bw w z1) := q9
      clear q9
      have q9 := BX.out.past hB
      clear BX
      have BX : Hid (CBox z1 b2 28 [.slice none 0 0, .slice none 0 0, .slice none 0 0, .slice none 0 0, .int .i64 0]) := q9
      clear q9
      have q9 := And.intro (SRC.out.1.past hB) (SRC.out.2.past hB)
      clear SRC
      have SRC : Hid (SrC P z1 (.slice ta c.ts.length tc) (.slice ca c.cs.length cc) (.slice sa c.ss.length sc) (.slice da c.d.length dc) c ∧ BL R z1 (.slice ua b.length uc) b) := q9
      clear q9
      (try (have q9 := FT.out; clear FT; have FT : Hid (z1.ownsRow bw 77 3 (.slice qa c.ts.length qc) c.ts.length (tV c.ts)) := owns_past q9 hB; clear q9))
      (try (have q9 := FC.out; clear FC; have FC : Hid (PO bw z1 (.slice xa c.cs.length xc) c.cs) := PO.past q9 hB; clear q9))
      (try (have q9 := FZ.out; clear FZ; have FZ : Hid (PO bw z1 (.slice ya c.ss.length yc) c.ss) := PO.past q9 hB; clear q9))
      have FD : Hid (z1.ownsRow bw 5 1 (.slice ea dl.length ec) dl.length (bV dl)) := F9
      clear F9 hB
      (try go_wp2_with fail)
      refine hK.out _ _ HH (fun _ => ?_)
      clear hK K
      (try simp only [Act.put, List.setIfInBounds_toArray, List.set_cons_zero, List.set_cons_succ])
      refine wpAnyH_take (i := 15) (v := .agg #[.slice qa c.ts.length qc, .slice xa c.cs.length xc, .slice ya c.ss.length yc, .slice ea dl.length ec, .int .i64 (nz : Int)]) ov15 (by kernel_rfl) (by kernel_rfl) (by kernel_rfl) (fun _ _ _ h => h) (Or.inl ⟨by rfl, fun V' hS => ?_⟩) HH ?_
      · go_simp
      simp only [Act.put, List.setIfInBounds_toArray, List.set_cons_zero, List.set_cons_succ]
      refine wpAnyH_ready (rs := [16]) (by kernel_rfl) (by simp) ?_
      refine AllReadyH.cons ov16 (fun K hK => ?_) AllReadyH.nil
      rw [if_pos (by rfl)]
      have k0 : z1.cell? ⟨b2, 0, none⟩ = some (.slice none 0 0) := BX.out.cell 0
      have k1 : z1.cell? ⟨b2, 1, none⟩ = some (.slice none 0 0) := BX.out.cell 1
      have k2 : z1.cell? ⟨b2, 2, none⟩ = some (.slice none 0 0) := BX.out.cell 2
      have k3 : z1.cell? ⟨b2, 3, none⟩ = some (.slice none 0 0) := BX.out.cell 3
      have k4 : z1.cell? ⟨b2, 4, none⟩ = some (.int .i64 0) := BX.out.cell 4
      have f0 := CBox.frozen BX.out 0
      have f1 := CBox.frozen BX.out 1
      have f2 := CBox.frozen BX.out 2
      have f3 := CBox.frozen BX.out 3
      have f4 := CBox.frozen BX.out 4
      go_simp
      clear k0 k1 k2 k3 k4 f0 f1 f2 f3 f4
      have hs : But (fun y => y = b2) z1 (((((z1.setCell ⟨b2, 0, none⟩ (.slice qa c.ts.length qc)).setCell ⟨b2, 1, none⟩ (.slice xa c.cs.length xc)).setCell ⟨b2, 2, none⟩ (.slice ya c.ss.length yc)).setCell ⟨b2, 3, none⟩ (.slice ea dl.length ec)).setCell ⟨b2, 4, none⟩ (.int .i64 (nz : Int))) := ((((((But.refl (fun y => y = b2) z1).setCell ⟨b2, 0, none⟩ _ (Or.inl rfl)).setCell ⟨b2, 1, none⟩ _ (Or.inl rfl)).setCell ⟨b2, 2, none⟩ _ (Or.inl rfl)).setCell ⟨b2, 3, none⟩ _ (Or.inl rfl)).setCell ⟨b2, 4, none⟩ _ (Or.inl rfl))
      have ra : Alien z1 b2 := ⟨_, _, BX.out, by decide, by decide, by decide⟩
      have cb : CBox (((((z1.setCell ⟨b2, 0, none⟩ (.slice qa c.ts.length qc)).setCell ⟨b2, 1, none⟩ (.slice xa c.cs.length xc)).setCell ⟨b2, 2, none⟩ (.slice ya c.ss.length yc)).setCell ⟨b2, 3, none⟩ (.slice ea dl.length ec)).setCell ⟨b2, 4, none⟩ (.int .i64 (nz : Int))) b2 28 [.slice qa c.ts.length qc, .slice xa c.cs.length xc, .slice ya c.ss.length yc, .slice ea dl.length ec, .int .i64 (nz : Int)] := (((((BX.out.set 0 _).set 1 _).set 2 _).set 3 _).set 4 _)
      have HF : Hid (CBox (((((z1.setCell ⟨b2, 0, none⟩ (.slice qa c.ts.length qc)).setCell ⟨b2, 1, none⟩ (.slice xa c.cs.length xc)).setCell ⟨b2, 2, none⟩ (.slice ya c.ss.length yc)).setCell ⟨b2, 3, none⟩ (.slice ea dl.length ec)).setCell ⟨b2, 4, none⟩ (.int .i64 (nz : Int))) b2 28 [.slice qa c.ts.length qc, .slice xa c.cs.length xc, .slice ya c.ss.length yc, .slice ea dl.length ec, .int .i64 (nz : Int)] ∧ DO bw (((((z1.setCell ⟨b2, 0, none⟩ (.slice qa c.ts.length qc)).setCell ⟨b2, 1, none⟩ (.slice xa c.cs.length xc)).setCell ⟨b2, 2, none⟩ (.slice ya c.ss.length yc)).setCell ⟨b2, 3, none⟩ (.slice ea dl.length ec)).setCell ⟨b2, 4, none⟩ (.int .i64 (nz : Int))) (.agg #[.slice qa c.ts.length qc, .slice xa c.cs.length xc, .slice ya c.ss.length yc, .slice ea dl.length ec, .int .i64 (nz : Int)]) ⟨c.ts, c.cs, c.ss, dl, (nz : Int)⟩ ∧ Below bw w (((((z1.setCell ⟨b2, 0, none⟩ (.slice qa c.ts.length qc)).setCell ⟨b2, 1, none⟩ (.slice xa c.cs.length xc)).setCell ⟨b2, 2, none⟩ (.slice ya c.ss.length yc)).setCell ⟨b2, 3, none⟩ (.slice ea dl.length ec)).setCell ⟨b2, 4, none⟩ (.int .i64 (nz : Int)))) := ⟨cb, ⟨_, _, _, _, _, _, _, _, rfl, row_alienT FT.out hs ra, PO.alien FC.out hs ra, PO.alien FZ.out hs ra, row_alien FD.out hs ra, FAP.out⟩, B.out.trans (hs.below (fun g e => by have := GL.out; have := GB.out; omega) (Nat.le_trans GE.out B.out.size))⟩
      have HHN := HH.but hs (by have := GL.out; omega)
      clear hs ra cb HH
      refine hK.out _ (((((z1.setCell ⟨b2, 0, none⟩ (.slice qa c.ts.length qc)).setCell ⟨b2, 1, none⟩ (.slice xa c.cs.length xc)).setCell ⟨b2, 2, none⟩ (.slice ya c.ss.length yc)).setCell ⟨b2, 3, none⟩ (.slice ea dl.length ec)).setCell ⟨b2, 4, none⟩ (.int .i64 (nz : Int))) HHN (fun _ => ?_)
      clear hK K
      (try simp only [Act.put, List.setIfInBounds_toArray, List.set_cons_zero, List.set_cons_succ])
      generalize (((((z1.setCell ⟨b2, 0, none⟩ (.slice qa c.ts.length qc)).setCell ⟨b2, 1, none⟩ (.slice xa c.cs.length xc)).setCell ⟨b2, 2, none⟩ (.slice ya c.ss.length yc)).setCell ⟨b2, 3, none⟩ (.slice ea dl.length ec)).setCell ⟨b2, 4, none⟩ (.int .i64 (nz : Int))) = Z9 at HF HHN ⊢
      clear B BX SRC FT FC FZ FD FAP
      refine wpAnyH_take (i := 17) (v := .int .i64 0) ov17 (by kernel_rfl) (by kernel_rfl) (by kernel_rfl) (fun _ _ _ h => h) (Or.inl ⟨by rfl, fun V' hS => ?_⟩) HHN ?_
      · go_simp
      simp only [Act.put, List.setIfInBounds_toArray, List.set_cons_zero, List.set_cons_succ]
      refine wpAnyH_done (by kernel_rfl) ?_ _
      clear HHN
      go_wp2
      refine bodyPost_ret (v := .tuple #[.agg #[.slice qa c.ts.length qc, .slice xa c.cs.length xc, .slice ya c.ss.length yc, .slice ea dl.length ec, .int .i64 (nz : Int)], .int .i64 0]) (results_ct (p := 4) (q := 5) (ty := 28) Try.results27 _ _ _ ⟨b2, 0, none⟩ rfl rfl (run_loadVar_mid Z9 b2 0 28 [.slice qa c.ts.length qc, .slice xa c.cs.length xc, .slice ya c.ss.length yc, .slice ea dl.length ec, .int .i64 (nz : Int)] _ HF.out.1.range Try.underlying28 rfl (by kernel_rfl))) rfl ?_
      refine ⟨?_, ?_⟩
      · rw [E.out]
        exact ⟨_, rfl, by first | exact HF.out.2.1 | (rw [GB.out]; exact HF.out.2.1) | (rw [← GB.out]; exact HF.out.2.1)⟩
      · (first | exact HF.out.2.2 | (rw [GB.out]; exact HF.out.2.2))
  · rw [if_pos (by rfl)]
    go_simp
    have hB : Below z1.heap.size z1 (z1.alloc (.cells #[.slice da c.d.length dc, .slice ua b.length uc] 22)) := below_alloc _ _
    have F9 := pl_two z1 _ _ c.d b (SRC.out.1.d.mono fun _ _ _ => trivial : BL (fun _ => True) z1 _ c.d) (SRC.out.2.mono fun _ _ _ => trivial)
    have H9 := HH.past hB
    clear HH
    have HH := H9
    clear H9
    have q9 := B.out.trans (hB.mono (Nat.le_trans GE.out B.out.size))
    clear B
    have B : Hid (Below bw w (z1.alloc (.cells #[.slice da c.d.length dc, .slice ua b.length uc] 22))) := q9
    clear q9
    have q9 := BX.out.past hB
    clear BX
    have BX : Hid (CBox (z1.alloc (.cells #[.slice da c.d.length dc, .slice ua b.length uc] 22)) b2 28 [.slice none 0 0, .slice none 0 0, .slice none 0 0, .slice none 0 0, .int .i64 0]) := q9
    clear q9
    have q9 := And.intro (SRC.out.1.past hB) (SRC.out.2.past hB)
    clear SRC
    have SRC : Hid (SrC P (z1.alloc (.cells #[.slice da c.d.length dc, .slice ua b.length uc] 22)) (.slice ta c.ts.length tc) (.slice ca c.cs.length cc) (.slice sa c.ss.length sc) (.slice da c.d.length dc) c ∧ BL R (z1.alloc (.cells #[.slice da c.d.length dc, .slice ua b.length uc] 22)) (.slice ua b.length uc) b) := q9
    clear q9
    (try (have q9 := FT.out; clear FT; have FT : Hid ((z1.alloc (.cells #[.slice da c.d.length dc, .slice ua b.length uc] 22)).ownsRow bw 77 3 (.slice qa c.ts.length qc) c.ts.length (tV c.ts)) := owns_past q9 hB; clear q9))
    (try (have q9 := FC.out; clear FC; have FC : Hid (PO bw (z1.alloc (.cells #[.slice da c.d.length dc, .slice ua b.length uc] 22)) (.slice xa c.cs.length xc) c.cs) := PO.past q9 hB; clear q9))
    (try (have q9 := FZ.out; clear FZ; have FZ : Hid (PO bw (z1.alloc (.cells #[.slice da c.d.length dc, .slice ua b.length uc] 22)) (.slice ya c.ss.length yc) c.ss) := PO.past q9 hB; clear q9))
    have FB : Hid (PL (fun _ => True) (z1.alloc (.cells #[.slice da c.d.length dc, .slice ua b.length uc] 22)) (.slice (some ⟨z1.heap.size, 0, none⟩) 2 2) [c.d, b]) := F9
    clear F9 hB
    refine hK.out _ (z1.alloc (.cells #[.slice da c.d.length dc, .slice ua b.length uc] 22)) HH (fun _ => ?_)
    clear hK K
    (try simp only [Act.put, List.setIfInBounds_toArray, List.set_cons_zero, List.set_cons_succ])
    generalize z1.heap.size = bb at FB ⊢
    (first | generalize (z1.alloc (.cells #[.slice da c.d.length dc, .slice ua b.length uc] 22)) = z1 at HH B BX SRC FB FT FC FZ ⊢ | generalize (z1.alloc (.cells #[.slice da c.d.length dc, .slice ua b.length uc] 22)) = z1 at HH B BX SRC FB FT FC ⊢ | generalize (z1.alloc (.cells #[.slice da c.d.length dc, .slice ua b.length uc] 22)) = z1 at HH B BX SRC FB FT ⊢ | generalize (z1.alloc (.cells #[.slice da c.d.length dc, .slice ua b.length uc] 22)) = z1 at HH B BX SRC FB ⊢)
    refine wpAnyH_ready (rs := [2]) (by kernel_rfl) (by simp) ?_
    refine AllReadyH.cons ov2 (fun K hK => ?_) AllReadyH.nil
    rw [if_pos (by rfl)]
    go_simp
    refine (cloneT_is _ _ c.ts SRC.out.1.t (by have := HSM.out; unfold Small at this; omega)).mono ?_
    rintro e z1 ⟨v9, rfl, hP, hB⟩
    obtain ⟨qa, qc, e9⟩ := owns_sl hP
    subst e9
    have F9 := owns_base hP (Nat.le_trans GE.out B.out.size)
    clear hP
    have H9 := HH.past hB
    clear HH
    have HH := H9
    clear H9
    have q9 := B.out.trans (hB.mono (Nat.le_trans GE.out B.out.size))
    clear B
    have B : Hid (Below bw w z1) := q9
    clear q9
    have q9 := BX.out.past hB
    clear BX
    have BX : Hid (CBox z1 b2 28 [.slice none 0 0, .slice none 0 0, .slice none 0 0, .slice none 0 0, .int .i64 0]) := q9
    clear q9
    have q9 := And.intro (SRC.out.1.past hB) (SRC.out.2.past hB)
    clear SRC
    have SRC : Hid (SrC P z1 (.slice ta c.ts.length tc) (.slice ca c.cs.length cc) (.slice sa c.ss.length sc) (.slice da c.d.length dc) c ∧ BL R z1 (.slice ua b.length uc) b) := q9
    clear q9
    (try (have q9 := FC.out; clear FC; have FC : Hid (PO bw z1 (.slice xa c.cs.length xc) c.cs) := PO.past q9 hB; clear q9))
    (try (have q9 := FZ.out; clear FZ; have FZ : Hid (PO bw z1 (.slice ya c.ss.length yc) c.ss) := PO.past q9 hB; clear q9))
    (try (have q9 := FB.out; clear FB; have FB : Hid (PL (fun _ => True) z1 (.slice (some ⟨bb, 0, none⟩) 2 2) [c.d, b]) := PL.past q9 hB; clear q9))
    have FT : Hid (z1.ownsRow bw 77 3 (.slice qa c.ts.length qc) c.ts.length (tV c.ts)) := F9
    clear F9 hB
    (try go_wp2_with fail)
    refine hK.out _ _ HH (fun _ => ?_)
    clear hK K
    (try simp only [Act.put, List.setIfInBounds_toArray, List.set_cons_zero, List.set_cons_succ])
    refine wpAnyH_ready (rs := [5]) (by kernel_rfl) (by simp) ?_
    refine AllReadyH.cons ov5 (fun K hK => ?_) AllReadyH.nil
    rw [if_pos (by rfl)]
    go_simp
    refine (copies_is _ _ c.cs SRC.out.1.p (by have := HSM.out; unfold Small at this; omega) (by have := HSM.out; unfold Small at this; omega)).mono ?_
    rintro e z1 ⟨v9, rfl, hP, hB⟩
    obtain ⟨xa, xc, e9⟩ := PO.sl hP
    subst e9
    have F9 := hP.base (Nat.le_trans GE.out B.out.size)
    clear hP
    have H9 := HH.past hB
    clear HH
    have HH := H9
    clear H9
    have q9 := B.out.trans (hB.mono (Nat.le_trans GE.out B.out.size))
    clear B
    have B : Hid (Below bw w z1) := q9
    clear q9
    have q9 := BX.out.past hB
    clear BX
    have BX : Hid (CBox z1 b2 28 [.slice none 0 0, .slice none 0 0, .slice none 0 0, .slice none 0 0, .int .i64 0]) := q9
    clear q9
    have q9 := And.intro (SRC.out.1.past hB) (SRC.out.2.past hB)
    clear SRC
    have SRC : Hid (SrC P z1 (.slice ta c.ts.length tc) (.slice ca c.cs.length cc) (.slice sa c.ss.length sc) (.slice da c.d.length dc) c ∧ BL R z1 (.slice ua b.length uc) b) := q9
    clear q9
    (try (have q9 := FT.out; clear FT; have FT : Hid (z1.ownsRow bw 77 3 (.slice qa c.ts.length qc) c.ts.length (tV c.ts)) := owns_past q9 hB; clear q9))
    (try (have q9 := FZ.out; clear FZ; have FZ : Hid (PO bw z1 (.slice ya c.ss.length yc) c.ss) := PO.past q9 hB; clear q9))
    (try (have q9 := FB.out; clear FB; have FB : Hid (PL (fun _ => True) z1 (.slice (some ⟨bb, 0, none⟩) 2 2) [c.d, b]) := PL.past q9 hB; clear q9))
    have FC : Hid (PO bw z1 (.slice xa c.cs.length xc) c.cs) := F9
    clear F9 hB
    (try go_wp2_with fail)
    refine hK.out _ _ HH (fun _ => ?_)
    clear hK K
    (try simp only [Act.put, List.setIfInBounds_toArray, List.set_cons_zero, List.set_cons_succ])
    refine wpAnyH_ready (rs := [8]) (by kernel_rfl) (by simp) ?_
    refine AllReadyH.cons ov8 (fun K hK => ?_) AllReadyH.nil
    rw [if_pos (by rfl)]
    go_simp
    refine (copies_is _ _ c.ss SRC.out.1.s (by have := HSM.out; unfold Small at this; omega) (by have := HSM.out; unfold Small at this; omega)).mono ?_
    rintro e z1 ⟨v9, rfl, hP, hB⟩
    obtain ⟨ya, yc, e9⟩ := PO.sl hP
    subst e9
    have FAP : Hid (∀ g, OwnV (.slice ya c.ss.length yc) g → ¬ OwnV (.slice xa c.cs.length xc) g) := fun g h1 h2 => by have q1 := (PO.lt hP g h1).1; have q2 := (PO.lt FC.out g h2).2; omega
    have F9 := hP.base (Nat.le_trans GE.out B.out.size)
    clear hP
    have H9 := HH.past hB
    clear HH
    have HH := H9
    clear H9
    have q9 := B.out.trans (hB.mono (Nat.le_trans GE.out B.out.size))
    clear B
    have B : Hid (Below bw w z1) := q9
    clear q9
    have q9 := BX.out.past hB
    clear BX
    have BX : Hid (CBox z1 b2 28 [.slice none 0 0, .slice none 0 0, .slice none 0 0, .slice none 0 0, .int .i64 0]) := q9
    clear q9
    have q9 := And.intro (SRC.out.1.past hB) (SRC.out.2.past hB)
    clear SRC
    have SRC : Hid (SrC P z1 (.slice ta c.ts.length tc) (.slice ca c.cs.length cc) (.slice sa c.ss.length sc) (.slice da c.d.length dc) c ∧ BL R z1 (.slice ua b.length uc) b) := q9
    clear q9
    (try (have q9 := FT.out; clear FT; have FT : Hid (z1.ownsRow bw 77 3 (.slice qa c.ts.length qc) c.ts.length (tV c.ts)) := owns_past q9 hB; clear q9))
    (try (have q9 := FC.out; clear FC; have FC : Hid (PO bw z1 (.slice xa c.cs.length xc) c.cs) := PO.past q9 hB; clear q9))
    (try (have q9 := FB.out; clear FB; have FB : Hid (PL (fun _ => True) z1 (.slice (some ⟨bb, 0, none⟩) 2 2) [c.d, b]) := PL.past q9 hB; clear q9))
    have FZ : Hid (PO bw z1 (.slice ya c.ss.length yc) c.ss) := F9
    clear F9 hB
    (try go_wp2_with fail)
    refine hK.out _ _ HH (fun _ => ?_)
    clear hK K
    (try simp only [Act.put, List.setIfInBounds_toArray, List.set_cons_zero, List.set_cons_succ])
    refine wpAnyH_ready (rs := [13]) (by kernel_rfl) (by simp) ?_
    refine AllReadyH.cons ov13 (fun K hK => ?_) AllReadyH.nil
    rw [if_pos (by rfl)]
    go_simp
    refine (CN.out _ _ FB.out).mono ?_
    rintro e z1 ⟨v9, rfl, hP, hB⟩
    obtain ⟨ea, ec, e9⟩ := owns_sl hP
    subst e9
    have F9 := owns_base hP (Nat.le_trans GE.out B.out.size)
    clear hP FB
    have H9 := HH.past hB
    clear HH
    have HH := H9
    clear H9
    have q9 := B.out.trans (hB.mono (Nat.le_trans GE.out B.out.size))
    clear B
    have B : Hid (Below bw w z1) := q9
    clear q9
    have q9 := BX.out.past hB
    clear BX
    have BX : Hid (CBox z1 b2 28 [.slice none 0 0, .slice none 0 0, .slice none 0 0, .slice none 0 0, .int .i64 0]) := q9
    clear q9
    have q9 := And.intro (SRC.out.1.past hB) (SRC.out.2.past hB)
    clear SRC
    have SRC : Hid (SrC P z1 (.slice ta c.ts.length tc) (.slice ca c.cs.length cc) (.slice sa c.ss.length sc) (.slice da c.d.length dc) c ∧ BL R z1 (.slice ua b.length uc) b) := q9
    clear q9
    (try (have q9 := FT.out; clear FT; have FT : Hid (z1.ownsRow bw 77 3 (.slice qa c.ts.length qc) c.ts.length (tV c.ts)) := owns_past q9 hB; clear q9))
    (try (have q9 := FC.out; clear FC; have FC : Hid (PO bw z1 (.slice xa c.cs.length xc) c.cs) := PO.past q9 hB; clear q9))
    (try (have q9 := FZ.out; clear FZ; have FZ : Hid (PO bw z1 (.slice ya c.ss.length yc) c.ss) := PO.past q9 hB; clear q9))
    have FD : Hid (z1.ownsRow bw 5 1 (.slice ea dl.length ec) dl.length (bV dl)) := F9
    clear F9 hB
    (try go_wp2_with fail)
    refine hK.out _ _ HH (fun _ => ?_)
    clear hK K
    (try simp only [Act.put, List.setIfInBounds_toArray, List.set_cons_zero, List.set_cons_succ])
    refine wpAnyH_take (i := 15) (v := .agg #[.slice qa c.ts.length qc, .slice xa c.cs.length xc, .slice ya c.ss.length yc, .slice ea dl.length ec, .int .i64 (nz : Int)]) ov15 (by kernel_rfl) (by kernel_rfl) (by kernel_rfl) (fun _ _ _ h => h) (Or.inl ⟨by rfl, fun V' hS => ?_⟩) HH ?_
    · go_simp
    simp only [Act.put, List.setIfInBounds_toArray, List.set_cons_zero, List.set_cons_succ]
    refine wpAnyH_ready (rs := [16]) (by kernel_rfl) (by simp) ?_
    refine AllReadyH.cons ov16 (fun K hK => ?_) AllReadyH.nil
    rw [if_pos (by rfl)]
    have k0 : z1.cell? ⟨b2, 0, none⟩ = some (.slice none 0 0) := BX.out.cell 0
    have k1 : z1.cell? ⟨b2, 1, none⟩ = some (.slice none 0 0) := BX.out.cell 1
    have k2 : z1.cell? ⟨b2, 2, none⟩ = some (.slice none 0 0) := BX.out.cell 2
    have k3 : z1.cell? ⟨b2, 3, none⟩ = some (.slice none 0 0) := BX.out.cell 3
    have k4 : z1.cell? ⟨b2, 4, none⟩ = some (.int .i64 0) := BX.out.cell 4
    have f0 := CBox.frozen BX.out 0
    have f1 := CBox.frozen BX.out 1
    have f2 := CBox.frozen BX.out 2
    have f3 := CBox.frozen BX.out 3
    have f4 := CBox.frozen BX.out 4
    go_simp
    clear k0 k1 k2 k3 k4 f0 f1 f2 f3 f4
    have hs : But (fun y => y = b2) z1 (((((z1.setCell ⟨b2, 0, none⟩ (.slice qa c.ts.length qc)).setCell ⟨b2, 1, none⟩ (.slice xa c.cs.length xc)).setCell ⟨b2, 2, none⟩ (.slice ya c.ss.length yc)).setCell ⟨b2, 3, none⟩ (.slice ea dl.length ec)).setCell ⟨b2, 4, none⟩ (.int .i64 (nz : Int))) := ((((((But.refl (fun y => y = b2) z1).setCell ⟨b2, 0, none⟩ _ (Or.inl rfl)).setCell ⟨b2, 1, none⟩ _ (Or.inl rfl)).setCell ⟨b2, 2, none⟩ _ (Or.inl rfl)).setCell ⟨b2, 3, none⟩ _ (Or.inl rfl)).setCell ⟨b2, 4, none⟩ _ (Or.inl rfl))
    have ra : Alien z1 b2 := ⟨_, _, BX.out, by decide, by decide, by decide⟩
    have cb : CBox (((((z1.setCell ⟨b2, 0, none⟩ (.slice qa c.ts.length qc)).setCell ⟨b2, 1, none⟩ (.slice xa c.cs.length xc)).setCell ⟨b2, 2, none⟩ (.slice ya c.ss.length yc)).setCell ⟨b2, 3, none⟩ (.slice ea dl.length ec)).setCell ⟨b2, 4, none⟩ (.int .i64 (nz : Int))) b2 28 [.slice qa c.ts.length qc, .slice xa c.cs.length xc, .slice ya c.ss.length yc, .slice ea dl.length ec, .int .i64 (nz : Int)] := (((((BX.out.set 0 _).set 1 _).set 2 _).set 3 _).set 4 _)
    have HF : Hid (CBox (((((z1.setCell ⟨b2, 0, none⟩ (.slice qa c.ts.length qc)).setCell ⟨b2, 1, none⟩ (.slice xa c.cs.length xc)).setCell ⟨b2, 2, none⟩ (.slice ya c.ss.length yc)).setCell ⟨b2, 3, none⟩ (.slice ea dl.length ec)).setCell ⟨b2, 4, none⟩ (.int .i64 (nz : Int))) b2 28 [.slice qa c.ts.length qc, .slice xa c.cs.length xc, .slice ya c.ss.length yc, .slice ea dl.length ec, .int .i64 (nz : Int)] ∧ DO bw (((((z1.setCell ⟨b2, 0, none⟩ (.slice qa c.ts.length qc)).setCell ⟨b2, 1, none⟩ (.slice xa c.cs.length xc)).setCell ⟨b2, 2, none⟩ (.slice ya c.ss.length yc)).setCell ⟨b2, 3, none⟩ (.slice ea dl.length ec)).setCell ⟨b2, 4, none⟩ (.int .i64 (nz : Int))) (.agg #[.slice qa c.ts.length qc, .slice xa c.cs.length xc, .slice ya c.ss.length yc, .slice ea dl.length ec, .int .i64 (nz : Int)]) ⟨c.ts, c.cs, c.ss, dl, (nz : Int)⟩ ∧ Below bw w (((((z1.setCell ⟨b2, 0, none⟩ (.slice qa c.ts.length qc)).setCell ⟨b2, 1, none⟩ (.slice xa c.cs.length xc)).setCell ⟨b2, 2, none⟩ (.slice ya c.ss.length yc)).setCell ⟨b2, 3, none⟩ (.slice ea dl.length ec)).setCell ⟨b2, 4, none⟩ (.int .i64 (nz : Int)))) := ⟨cb, ⟨_, _, _, _, _, _, _, _, rfl, row_alienT FT.out hs ra, PO.alien FC.out hs ra, PO.alien FZ.out hs ra, row_alien FD.out hs ra, FAP.out⟩, B.out.trans (hs.below (fun g e => by have := GL.out; have := GB.out; omega) (Nat.le_trans GE.out B.out.size))⟩
    have HHN := HH.but hs (by have := GL.out; omega)
    clear hs ra cb HH
    refine hK.out _ (((((z1.setCell ⟨b2, 0, none⟩ (.slice qa c.ts.length qc)).setCell ⟨b2, 1, none⟩ (.slice xa c.cs.length xc)).setCell ⟨b2, 2, none⟩ (.slice ya c.ss.length yc)).setCell ⟨b2, 3, none⟩ (.slice ea dl.length ec)).setCell ⟨b2, 4, none⟩ (.int .i64 (nz : Int))) HHN (fun _ => ?_)
    clear hK K
    (try simp only [Act.put, List.setIfInBounds_toArray, List.set_cons_zero, List.set_cons_succ])
    generalize (((((z1.setCell ⟨b2, 0, none⟩ (.slice qa c.ts.length qc)).setCell ⟨b2, 1, none⟩ (.slice xa c.cs.length xc)).setCell ⟨b2, 2, none⟩ (.slice ya c.ss.length yc)).setCell ⟨b2, 3, none⟩ (.slice ea dl.length ec)).setCell ⟨b2, 4, none⟩ (.int .i64 (nz : Int))) = Z9 at HF HHN ⊢
    clear B BX SRC FT FC FZ FD FAP
    refine wpAnyH_take (i := 17) (v := .int .i64 0) ov17 (by kernel_rfl) (by kernel_rfl) (by kernel_rfl) (fun _ _ _ h => h) (Or.inl ⟨by rfl, fun V' hS => ?_⟩) HHN ?_
    · go_simp
    simp only [Act.put, List.setIfInBounds_toArray, List.set_cons_zero, List.set_cons_succ]
    refine wpAnyH_done (by kernel_rfl) ?_ _
    clear HHN
    go_wp2
    refine bodyPost_ret (v := .tuple #[.agg #[.slice qa c.ts.length qc, .slice xa c.cs.length xc, .slice ya c.ss.length yc, .slice ea dl.length ec, .int .i64 (nz : Int)], .int .i64 0]) (results_ct (p := 4) (q := 5) (ty := 28) Try.results27 _ _ _ ⟨b2, 0, none⟩ rfl rfl (run_loadVar_mid Z9 b2 0 28 [.slice qa c.ts.length qc, .slice xa c.cs.length xc, .slice ya c.ss.length yc, .slice ea dl.length ec, .int .i64 (nz : Int)] _ HF.out.1.range Try.underlying28 rfl (by kernel_rfl))) rfl ?_
    refine ⟨?_, ?_⟩
    · rw [E.out]
      exact ⟨_, rfl, by first | exact HF.out.2.1 | (rw [GB.out]; exact HF.out.2.1) | (rw [← GB.out]; exact HF.out.2.1)⟩
    · (first | exact HF.out.2.2 | (rw [GB.out]; exact HF.out.2.2))
end Go.Proofs.Ytndhabhlajldeaa
