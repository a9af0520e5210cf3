/- MachAlike: the walk. -/
import Derived.Test.YtdddmebihkdkjaaQo
namespace Go.Proofs.Ytdddmebihkdkjaa
open Go.RowKit
/-- two stacks of package mach -/
structure AL (w W : World) (b c : Nat) (f g : Ring) (n m : Int) : Prop where
  s : Stk W b 0 4096 f n
  t : Stk W c 0 4096 g m
  ne : b ≠ c
  ge : w.heap.size ≤ b ∧ w.heap.size ≤ c
  bel : Below w.heap.size w W
theorem AL.callS {w W W' : World} {b c : Nat} {f g f' : Ring} {n m n' : Int} (h : AL w W b c f g n m) (hs : Stk W' b 0 4096 f' n') (k : Only b W W') : AL w W' b c f' g n' m := ⟨hs, h.t.only k h.ne.symm, h.ne, h.ge, h.bel.trans (k.below h.ge.1 h.bel.size)⟩
theorem AL.callT {w W W' : World} {b c : Nat} {f g g' : Ring} {n m m' : Int} (h : AL w W b c f g n m) (hs : Stk W' c 0 4096 g' m') (k : Only c W W') : AL w W' b c f g' n m' := ⟨h.s.only k h.ne, hs, h.ne, h.ge, h.bel.trans (k.below h.ge.2 h.bel.size)⟩
theorem AL.past {w W W' : World} {b c : Nat} {f g : Ring} {n m : Int} (h : AL w W b c f g n m) (k : Below W.heap.size W W') : AL w W' b c f g n m := ⟨h.s.past k, h.t.past k, h.ne, h.ge, h.bel.trans (k.mono h.bel.size)⟩
theorem OpAt.only {W W' : World} {b g a : Nat} {o : OpR} (h : OpAt W g a o) (k : Only b W W') (hg : g ≠ b) : OpAt W' g a o := fun j v hv => (k.cell (p := ⟨g, a + j, none⟩) h.lt hg).trans (h j v hv)
theorem OpAt.past {W W' : World} {g a : Nat} {o : OpR} (h : OpAt W g a o) (k : Below W.heap.size W W') : OpAt W' g a o := h.below k h.lt
def OpR.ob (o : OpR) : Obj := opO o.kd o.tw o.N o.M o.P o.X o.Y o.B
theorem OpAt.new (w : World) (o : OpR) : OpAt (w.alloc o.ob) w.heap.size 0 o := fun j v hv => by
  rw [Nat.zero_add]; unfold OpR.ob opO; rw [World.cell?_alloc_at _ _ _ _ rfl, ← hv]; unfold OpR.l; exact List.getElem?_toArray
theorem turn_comm (f : Ring) (n a b : Int) : turnF f n a b = turnF f n b a := by
  unfold turnF
  generalize pl (n - a) = p
  generalize pl (n - b) = q
  funext i
  unfold rput
  by_cases h1 : i = p
  · by_cases h2 : i = q
    · subst h1; subst h2; rfl
    · rw [if_neg h2, if_pos h1, if_pos h1]
  · by_cases h2 : i = q
    · rw [if_pos h2, if_neg h1, if_pos h2]
    · rw [if_neg h2, if_neg h1, if_neg h1, if_neg h2]
set_option maxHeartbeats 8000000 in
set_option maxRecDepth 100000 in
theorem machAlike_walk (w : World) (v : Value) (n0 : Nat) (o : Nat → OpR) (hv : OpsAt w v n0 o) (hn0 : n0 ≤ 1099511627776) : Calls Try.prog 7 #[v] w fun e w' => e = .returned (.bool true) ∧ Below w.heap.size w w' := by
  obtain ⟨ad, cap, rfl, hv⟩ := hv
  have HV : Hid _ := hv
  have nI : (n0 : Int) ≤ 1099511627776 := by omega
  clear hv
  go_enter Try.func7, Try.ntmps7
  go_upto_region 3 with (first | (go_at_call 25; refine (newStack_is w).mono ?_; rintro e v1 ⟨rfl, hN⟩; (have N1 : Hid (NewStk w v1 0 4096) := hN); clear hN) | (go_at_call 25; refine (newStack_is v1).mono ?_; rintro e v2 ⟨rfl, hN⟩; (have N2 : Hid (NewStk v1 v2 0 4096) := hN); clear hN))
  have A0 : Hid (AL w v2 w.heap.size v1.heap.size ring0 ring0 0 0) := ⟨N1.out.st.past N2.out.bel, N2.out.st, by have := N1.out.siz; omega, ⟨Nat.le_refl _, N1.out.bel.size⟩, N1.out.bel.trans (N2.out.bel.mono N1.out.bel.size)⟩
  clear N1 N2
  generalize v1.heap.size = c at A0 ⊢
  generalize hb0 : w.heap.size = b at A0 ⊢
  replace hb0 : Hid (w.heap.size = b) := hb0
  go_wp2
  go_loopw [5] (fun si wr => ∃ (k : Nat) (f : Ring) (n : Int), k ≤ n0 ∧ si = .int .i64 (k : Int) ∧ AL w wr b c f f n n ∧ 0 ≤ n ∧ n ≤ 1024) (fun si _ => n0 - (intOf si).toNat)
  case atStart => exact ⟨0, ring0, 0, by omega, rfl, A0.out, by omega, by omega⟩
  case round =>
    obtain ⟨k, f, n, hk, rfl, hA, n0', n1'⟩ := hrel
    have A1 : Hid (AL w wr b c f f n n) := hA
    clear hA A0
    by_cases hkn : k < n0
    · have kI : (k : Int) < (n0 : Int) := by omega
      obtain ⟨g, a, rfl, hO⟩ := HV.out (by omega)
      have hO1 : OpAt wr g (a + k * 14) (o k) := (hO k hkn).below A1.out.bel (hO k hkn).lt
      obtain ⟨op, eop⟩ : ∃ op, o k = op := ⟨_, rfl⟩
      rw [eop] at hO1
      have e0 : wr.cell? ⟨g, a + k * 14, none⟩ = some (.int .i64 op.kd) := hO1 0 _ rfl
      have e1 : wr.cell? ⟨g, a + k * 14 + 1, none⟩ = some (.bool op.tw) := hO1 1 _ rfl
      have e2 : wr.cell? ⟨g, a + k * 14 + 2, none⟩ = some (.int .i64 op.N) := hO1 2 _ rfl
      have e3 : wr.cell? ⟨g, a + k * 14 + 3, none⟩ = some (.int .i64 op.M) := hO1 3 _ rfl
      have e4 : wr.cell? ⟨g, a + k * 14 + 4, none⟩ = some (.int .i64 op.P) := hO1 4 _ rfl
      have e5 : wr.cell? ⟨g, a + k * 14 + 5, none⟩ = some (.int .u64 op.X.a) := hO1 5 _ rfl
      have e6 : wr.cell? ⟨g, a + k * 14 + 6, none⟩ = some (.int .u64 op.X.b) := hO1 6 _ rfl
      have e7 : wr.cell? ⟨g, a + k * 14 + 7, none⟩ = some (.int .u64 op.X.c) := hO1 7 _ rfl
      have e8 : wr.cell? ⟨g, a + k * 14 + 8, none⟩ = some (.int .u64 op.X.d) := hO1 8 _ rfl
      have e9 : wr.cell? ⟨g, a + k * 14 + 9, none⟩ = some (.int .u64 op.Y.a) := hO1 9 _ rfl
      have e10 : wr.cell? ⟨g, a + k * 14 + 10, none⟩ = some (.int .u64 op.Y.b) := hO1 10 _ rfl
      have e11 : wr.cell? ⟨g, a + k * 14 + 11, none⟩ = some (.int .u64 op.Y.c) := hO1 11 _ rfl
      have e12 : wr.cell? ⟨g, a + k * 14 + 12, none⟩ = some (.int .u64 op.Y.d) := hO1 12 _ rfl
      have e13 : wr.cell? ⟨g, a + k * 14 + 13, none⟩ = some (op.B) := hO1 13 _ rfl
      clear hO hO1 eop
      go_upto_region 9 with fail
      clear e0 e1 e2 e3 e4 e5 e6 e7 e8 e9 e10 e11 e12 e13
      change Code.wp _ _ _ _ (wr.alloc op.ob)
      have A2 : Hid (AL w (wr.alloc op.ob) b c f f n n) := A1.out.past ((Below.refl _ _).alloc (Nat.le_refl _) _)
      have BX : Hid (OpAt (wr.alloc op.ob) wr.heap.size 0 op) := OpAt.new wr op
      have hob1 : Hid (wr.heap.size ≠ b ∧ wr.heap.size ≠ c) := by have h1 := A1.out.s.lt; have h2 := A1.out.t.lt; unfold Hid; omega
      generalize wr.alloc op.ob = v3 at A2 BX ⊢
      generalize wr.heap.size = ob at BX hob1 ⊢
      clear A1
      have k0 : v3.cell? ⟨ob, 0, none⟩ = some (.int .i64 op.kd) := BX.out 0 _ rfl
      go_upto_block 2 with fail
      go_cut [5, 30] (fun s5 _ wx => s5 = .int .i64 (k : Int) ∧ ∃ (f' : Ring) (n' : Int), AL w wx b c f' f' n' n' ∧ 0 ≤ n' ∧ n' ≤ 1024)
      case first =>
        have k2 : v3.cell? ⟨ob, 2, none⟩ = some (.int .i64 op.N) := BX.out 2 _ rfl
        have k3 : v3.cell? ⟨ob, 3, none⟩ = some (.int .i64 op.M) := BX.out 3 _ rfl
        have x0 : v3.cell? ⟨ob, 5, none⟩ = some (.int .u64 op.X.a) := BX.out 5 _ rfl
        have x1 : v3.cell? ⟨ob, 6, none⟩ = some (.int .u64 op.X.b) := BX.out 6 _ rfl
        have x2 : v3.cell? ⟨ob, 7, none⟩ = some (.int .u64 op.X.c) := BX.out 7 _ rfl
        have x3 : v3.cell? ⟨ob, 8, none⟩ = some (.int .u64 op.X.d) := BX.out 8 _ rfl
        generalize eN : op.N = N at k2
        generalize eM : op.M = M at k3
        generalize eX : op.X = X at x0 x1 x2 x3
        generalize op.kd = kd at k0
        have EN : Hid (op.N = N) := eN
        have EM : Hid (op.M = M) := eM
        have EX : Hid (op.X = X) := eX
        clear eN eM eX
        have wu : Hid (wrap64 (n + 1) = n + 1) := wrap_up (by omega) (by omega)
        have wd : Hid (wrap64 (n - 1) = n - 1) := wrap_dn (by omega) (by omega)
        by_cases h1 : kd = 1
        · rw [h1] at k0 ⊢
          clear h1
          by_cases hf : 1024 ≤ n
          · have PS : Hid (Calls Try.prog 26 #[.pointer (some ⟨b, 0, none⟩), X.v] v3 fun e w' => e = .returned (.int .i64 91) ∧ Stk w' b 0 4096 f n ∧ Only b v3 w') := by
              have h := push_is v3 b f n A2.out.s X
              rw [show oPush f n X = ⟨91, f, n⟩ by unfold oPush; rw [if_pos hf]] at h
              exact h
            go_wp2_with (go_at_call 26; refine (PS.out).mono ?_; rintro e v4 ⟨rfl, h1, h2⟩; (have A3 : Hid (AL w v4 b c f f n n) := A2.out.callS h1 h2); (have BY : Hid (OpAt v4 ob 0 op) := BX.out.only h2 hob1.out.1); clear h1 h2 PS A2 BX k0 k2 k3 x0 x1 x2 x3; (have k2 : v4.cell? ⟨ob, 2, none⟩ = some (.int .i64 N) := BY.out 2 _ (by rw [← EN.out]; rfl)); (have k3 : v4.cell? ⟨ob, 3, none⟩ = some (.int .i64 M) := BY.out 3 _ (by rw [← EM.out]; rfl)); (have x0 : v4.cell? ⟨ob, 5, none⟩ = some (.int .u64 X.a) := BY.out 5 _ (by rw [← EX.out]; rfl)); (have x1 : v4.cell? ⟨ob, 6, none⟩ = some (.int .u64 X.b) := BY.out 6 _ (by rw [← EX.out]; rfl)); (have x2 : v4.cell? ⟨ob, 7, none⟩ = some (.int .u64 X.c) := BY.out 7 _ (by rw [← EX.out]; rfl)); (have x3 : v4.cell? ⟨ob, 8, none⟩ = some (.int .u64 X.d) := BY.out 8 _ (by rw [← EX.out]; rfl)))
            go_meet
            case rel => exact ⟨rfl, f, n, A3.out, ⟨n0', n1'⟩⟩
          · have PS : Hid (Calls Try.prog 26 #[.pointer (some ⟨b, 0, none⟩), X.v] v3 fun e w' => e = .returned (.int .i64 0) ∧ Stk w' b 0 4096 (rput f (pl n) X) (n + 1) ∧ Only b v3 w') := by
              have h := push_is v3 b f n A2.out.s X
              rw [show oPush f n X = ⟨0, (rput f (pl n) X), (n + 1)⟩ by unfold oPush; rw [if_neg hf, wu.out]] at h
              exact h
            have PT : Hid (∀ W, Stk W c 0 4096 f n → Calls Try.prog 37 #[.pointer (some ⟨c, 0, none⟩), X.v] W fun e w' => e = .returned (.tuple #[]) ∧ Stk w' c 0 4096 (rput f (pl n) X) (n + 1) ∧ Only c W w') := fun W hW => by
              have h := put_is W c f n hW X
              rw [wu.out] at h
              exact h
            go_wp2_with (first | (go_at_call 26; refine (PS.out).mono ?_; rintro e v4 ⟨rfl, h1, h2⟩; (have A3 : Hid (AL w v4 b c (rput f (pl n) X) f (n + 1) n) := A2.out.callS h1 h2); (have BY : Hid (OpAt v4 ob 0 op) := BX.out.only h2 hob1.out.1); clear h1 h2 PS A2 BX k0 k2 k3 x0 x1 x2 x3; (have k2 : v4.cell? ⟨ob, 2, none⟩ = some (.int .i64 N) := BY.out 2 _ (by rw [← EN.out]; rfl)); (have k3 : v4.cell? ⟨ob, 3, none⟩ = some (.int .i64 M) := BY.out 3 _ (by rw [← EM.out]; rfl)); (have x0 : v4.cell? ⟨ob, 5, none⟩ = some (.int .u64 X.a) := BY.out 5 _ (by rw [← EX.out]; rfl)); (have x1 : v4.cell? ⟨ob, 6, none⟩ = some (.int .u64 X.b) := BY.out 6 _ (by rw [← EX.out]; rfl)); (have x2 : v4.cell? ⟨ob, 7, none⟩ = some (.int .u64 X.c) := BY.out 7 _ (by rw [← EX.out]; rfl)); (have x3 : v4.cell? ⟨ob, 8, none⟩ = some (.int .u64 X.d) := BY.out 8 _ (by rw [← EX.out]; rfl))) | (go_at_call 37; refine (PT.out _ A3.out.t).mono ?_; rintro e v5 ⟨rfl, h1, h2⟩; (have A4 : Hid (AL w v5 b c (rput f (pl n) X) (rput f (pl n) X) (n + 1) (n + 1)) := A3.out.callT h1 h2); clear h1 h2 PT A3))
            go_meet
            case rel => exact ⟨rfl, (rput f (pl n) X), (n + 1), A4.out, ⟨by omega, by omega⟩⟩
        replace h1 : (kd == 1) = false := by simpa using h1
        by_cases h7 : kd = 7
        · rw [h7] at k0 ⊢
          clear h7
          by_cases hf : 1024 ≤ n
          · have PS : Hid (Calls Try.prog 26 #[.pointer (some ⟨b, 0, none⟩), X.v] v3 fun e w' => e = .returned (.int .i64 91) ∧ Stk w' b 0 4096 f n ∧ Only b v3 w') := by
              have h := push_is v3 b f n A2.out.s X
              rw [show oPush f n X = ⟨91, f, n⟩ by unfold oPush; rw [if_pos hf]] at h
              exact h
            go_wp2_with (go_at_call 26; refine (PS.out).mono ?_; rintro e v4 ⟨rfl, h1, h2⟩; (have A3 : Hid (AL w v4 b c f f n n) := A2.out.callS h1 h2); (have BY : Hid (OpAt v4 ob 0 op) := BX.out.only h2 hob1.out.1); clear h1 h2 PS A2 BX k0 k2 k3 x0 x1 x2 x3; (have k2 : v4.cell? ⟨ob, 2, none⟩ = some (.int .i64 N) := BY.out 2 _ (by rw [← EN.out]; rfl)); (have k3 : v4.cell? ⟨ob, 3, none⟩ = some (.int .i64 M) := BY.out 3 _ (by rw [← EM.out]; rfl)); (have x0 : v4.cell? ⟨ob, 5, none⟩ = some (.int .u64 X.a) := BY.out 5 _ (by rw [← EX.out]; rfl)); (have x1 : v4.cell? ⟨ob, 6, none⟩ = some (.int .u64 X.b) := BY.out 6 _ (by rw [← EX.out]; rfl)); (have x2 : v4.cell? ⟨ob, 7, none⟩ = some (.int .u64 X.c) := BY.out 7 _ (by rw [← EX.out]; rfl)); (have x3 : v4.cell? ⟨ob, 8, none⟩ = some (.int .u64 X.d) := BY.out 8 _ (by rw [← EX.out]; rfl)))
            go_meet
            case rel => exact ⟨rfl, f, n, A3.out, ⟨n0', n1'⟩⟩
          · have PS : Hid (Calls Try.prog 26 #[.pointer (some ⟨b, 0, none⟩), X.v] v3 fun e w' => e = .returned (.int .i64 0) ∧ Stk w' b 0 4096 (rput f (pl n) X) (n + 1) ∧ Only b v3 w') := by
              have h := push_is v3 b f n A2.out.s X
              rw [show oPush f n X = ⟨0, (rput f (pl n) X), (n + 1)⟩ by unfold oPush; rw [if_neg hf, wu.out]] at h
              exact h
            have PT : Hid (∀ W, Stk W c 0 4096 f n → Calls Try.prog 37 #[.pointer (some ⟨c, 0, none⟩), X.v] W fun e w' => e = .returned (.tuple #[]) ∧ Stk w' c 0 4096 (rput f (pl n) X) (n + 1) ∧ Only c W w') := fun W hW => by
              have h := put_is W c f n hW X
              rw [wu.out] at h
              exact h
            go_wp2_with (first | (go_at_call 26; refine (PS.out).mono ?_; rintro e v4 ⟨rfl, h1, h2⟩; (have A3 : Hid (AL w v4 b c (rput f (pl n) X) f (n + 1) n) := A2.out.callS h1 h2); (have BY : Hid (OpAt v4 ob 0 op) := BX.out.only h2 hob1.out.1); clear h1 h2 PS A2 BX k0 k2 k3 x0 x1 x2 x3; (have k2 : v4.cell? ⟨ob, 2, none⟩ = some (.int .i64 N) := BY.out 2 _ (by rw [← EN.out]; rfl)); (have k3 : v4.cell? ⟨ob, 3, none⟩ = some (.int .i64 M) := BY.out 3 _ (by rw [← EM.out]; rfl)); (have x0 : v4.cell? ⟨ob, 5, none⟩ = some (.int .u64 X.a) := BY.out 5 _ (by rw [← EX.out]; rfl)); (have x1 : v4.cell? ⟨ob, 6, none⟩ = some (.int .u64 X.b) := BY.out 6 _ (by rw [← EX.out]; rfl)); (have x2 : v4.cell? ⟨ob, 7, none⟩ = some (.int .u64 X.c) := BY.out 7 _ (by rw [← EX.out]; rfl)); (have x3 : v4.cell? ⟨ob, 8, none⟩ = some (.int .u64 X.d) := BY.out 8 _ (by rw [← EX.out]; rfl))) | (go_at_call 37; refine (PT.out _ A3.out.t).mono ?_; rintro e v5 ⟨rfl, h1, h2⟩; (have A4 : Hid (AL w v5 b c (rput f (pl n) X) (rput f (pl n) X) (n + 1) (n + 1)) := A3.out.callT h1 h2); clear h1 h2 PT A3))
            go_meet
            case rel => exact ⟨rfl, (rput f (pl n) X), (n + 1), A4.out, ⟨by omega, by omega⟩⟩
        replace h7 : (kd == 7) = false := by simpa using h7
        by_cases h2 : kd = 2
        · rw [h2] at k0 ⊢
          clear h2
          by_cases hf : n < 1
          · obtain ⟨y, ey⟩ : ∃ y, w0 = y := ⟨_, rfl⟩
            have PS : Hid (Calls Try.prog 31 #[.pointer (some ⟨b, 0, none⟩)] v3 fun e w' => e = .returned (.tuple #[y.v, .int .i64 90]) ∧ Stk w' b 0 4096 f n ∧ Only b v3 w') := by
              have h := pop_is v3 b f n A2.out.s
              rw [show oPopW f n = y by unfold oPopW; rw [if_pos hf]; exact ey, show oPop f n = ⟨90, f, n⟩ by unfold oPop; rw [if_pos hf]] at h
              exact h
            clear ey
            go_upto_region 17 with (go_at_call 31; refine (PS.out).mono ?_; rintro e v4 ⟨rfl, h1, h2⟩; (have A3 : Hid (AL w v4 b c f f n n) := A2.out.callS h1 h2); (have BY : Hid (OpAt v4 ob 0 op) := BX.out.only h2 hob1.out.1); clear h1 h2 PS A2 BX k0 k2 k3 x0 x1 x2 x3; unfold W4.v)
            have CX : Hid (v4.heap.size ≠ c) := by have h2 := A3.out.t.lt; unfold Hid; omega
            have W1 : Hid (Wd (v4.alloc (.cells #[.int .u64 y.a, .int .u64 y.b, .int .u64 y.c, .int .u64 y.d] 30)) v4.heap.size 0 y) := Wd.new v4 _ y
            replace A3 : Hid (AL w (v4.alloc (.cells #[.int .u64 y.a, .int .u64 y.b, .int .u64 y.c, .int .u64 y.d] 30)) b c f f n n) := A3.out.past ((Below.refl _ _).alloc (Nat.le_refl _) _)
            replace BY : Hid (OpAt (v4.alloc (.cells #[.int .u64 y.a, .int .u64 y.b, .int .u64 y.c, .int .u64 y.d] 30)) ob 0 op) := BY.out.past ((Below.refl _ _).alloc (Nat.le_refl _) _)
            have hbxc : Hid (v4.heap.size ≠ c) := CX.out
            generalize v4.alloc (.cells #[.int .u64 y.a, .int .u64 y.b, .int .u64 y.c, .int .u64 y.d] 30) = v5 at A3 W1 BY ⊢
            generalize v4.heap.size = bx at W1 hbxc ⊢
            clear CX
            have W2 : Hid (Wd v5.drew bx 0 y) := W1.out.drew
            have A4 : Hid (AL w v5.drew b c f f n n) := A3.out.past ((Below.refl _ _).drew)
            have BZ : Hid (OpAt v5.drew ob 0 op) := BY.out.past ((Below.refl _ _).drew)
            clear W1 A3 BY
            refine wp_region_held_drew (S := fun V' => Wd V' bx 0 y ∧ OpAt V' ob 0 op) (by kernel_rfl) ⟨W2.out, BZ.out⟩ (fun hHeld => ?_)
            generalize v5.drew = z0 at hHeld A4 W2 BZ ⊢
            refine wpAnyH_take (i := 0) (v := .int .i64 90) ov0 (by kernel_rfl) (by kernel_rfl) (by kernel_rfl) (fun _ _ _ h => h) (Or.inl ⟨by rfl, fun V' hS => ?_⟩) hHeld ?_
            · go_simp
            simp only [Act.put, List.setIfInBounds_toArray, List.set_cons_zero, List.set_cons_succ]
            refine wpAnyH_take (i := 1) (v := .bool false) ov1 (by kernel_rfl) (by kernel_rfl) (by kernel_rfl) (fun _ _ _ h => h) (Or.inl ⟨by rfl, fun V' hS => ?_⟩) hHeld ?_
            · go_simp
            simp only [Act.put, List.setIfInBounds_toArray, List.set_cons_zero, List.set_cons_succ]
            refine wpAnyH_take (i := 2) (v := .bool false) ov2 (by kernel_rfl) (by kernel_rfl) (by kernel_rfl) (fun _ _ _ h => h) (Or.inl ⟨by rfl, fun V' hS => ?_⟩) hHeld ?_
            · go_simp
            simp only [Act.put, List.setIfInBounds_toArray, List.set_cons_zero, List.set_cons_succ]
            refine wpAnyH_take (i := 3) (v := undef) ov3 (by kernel_rfl) (by kernel_rfl) (by kernel_rfl) (fun _ _ _ h => h) (Or.inr ⟨by rfl, rfl⟩) hHeld ?_
            simp only [Act.put, List.setIfInBounds_toArray, List.set_cons_zero, List.set_cons_succ]
            refine wpAnyH_take (i := 4) (v := undef) ov4 (by kernel_rfl) (by kernel_rfl) (by kernel_rfl) (fun _ _ _ h => h) (Or.inr ⟨by rfl, rfl⟩) hHeld ?_
            simp only [Act.put, List.setIfInBounds_toArray, List.set_cons_zero, List.set_cons_succ]
            refine wpAnyH_take (i := 5) (v := undef) ov5 (by kernel_rfl) (by kernel_rfl) (by kernel_rfl) (fun _ _ _ h => h) (Or.inr ⟨by rfl, rfl⟩) hHeld ?_
            simp only [Act.put, List.setIfInBounds_toArray, List.set_cons_zero, List.set_cons_succ]
            refine wpAnyH_take (i := 6) (v := undef) ov6 (by kernel_rfl) (by kernel_rfl) (by kernel_rfl) (fun _ _ _ h => h) (Or.inr ⟨by rfl, rfl⟩) hHeld ?_
            simp only [Act.put, List.setIfInBounds_toArray, List.set_cons_zero, List.set_cons_succ]
            refine wpAnyH_take (i := 7) (v := .bool false) ov7 (by kernel_rfl) (by kernel_rfl) (by kernel_rfl) (fun _ _ _ h => h) (Or.inl ⟨by rfl, fun V' hS => ?_⟩) hHeld ?_
            · go_simp
            simp only [Act.put, List.setIfInBounds_toArray, List.set_cons_zero, List.set_cons_succ]
            refine wpAnyH_done (by kernel_rfl) ?_ _
            go_wp2
            go_meet
            case rel => exact ⟨rfl, f, n, A4.out, ⟨by omega, by omega⟩⟩
          · obtain ⟨y, ey⟩ : ∃ y, f (pl (n - 1)) = y := ⟨_, rfl⟩
            have PS : Hid (Calls Try.prog 31 #[.pointer (some ⟨b, 0, none⟩)] v3 fun e w' => e = .returned (.tuple #[y.v, .int .i64 0]) ∧ Stk w' b 0 4096 f (n - 1) ∧ Only b v3 w') := by
              have h := pop_is v3 b f n A2.out.s
              rw [show oPopW f n = y by unfold oPopW; rw [if_neg hf]; exact ey, show oPop f n = ⟨0, f, (n - 1)⟩ by unfold oPop; rw [if_neg hf]; rw [wd.out]] at h
              exact h
            have PT : Hid (∀ W, Stk W c 0 4096 f n → Calls Try.prog 38 #[.pointer (some ⟨c, 0, none⟩)] W fun e w' => e = .returned y.v ∧ Stk w' c 0 4096 f (n - 1) ∧ Only c W w') := fun W hW => by rw [← ey]; exact (by have h := take_is W c f n hW; rw [wd.out] at h; exact h)
            clear ey
            go_upto_region 17 with (go_at_call 31; refine (PS.out).mono ?_; rintro e v4 ⟨rfl, h1, h2⟩; (have A3 : Hid (AL w v4 b c f f (n - 1) n) := A2.out.callS h1 h2); (have BY : Hid (OpAt v4 ob 0 op) := BX.out.only h2 hob1.out.1); clear h1 h2 PS A2 BX k0 k2 k3 x0 x1 x2 x3; unfold W4.v)
            have CX : Hid (v4.heap.size ≠ c) := by have h2 := A3.out.t.lt; unfold Hid; omega
            have W1 : Hid (Wd (v4.alloc (.cells #[.int .u64 y.a, .int .u64 y.b, .int .u64 y.c, .int .u64 y.d] 30)) v4.heap.size 0 y) := Wd.new v4 _ y
            replace A3 : Hid (AL w (v4.alloc (.cells #[.int .u64 y.a, .int .u64 y.b, .int .u64 y.c, .int .u64 y.d] 30)) b c f f (n - 1) n) := A3.out.past ((Below.refl _ _).alloc (Nat.le_refl _) _)
            replace BY : Hid (OpAt (v4.alloc (.cells #[.int .u64 y.a, .int .u64 y.b, .int .u64 y.c, .int .u64 y.d] 30)) ob 0 op) := BY.out.past ((Below.refl _ _).alloc (Nat.le_refl _) _)
            have hbxc : Hid (v4.heap.size ≠ c) := CX.out
            generalize v4.alloc (.cells #[.int .u64 y.a, .int .u64 y.b, .int .u64 y.c, .int .u64 y.d] 30) = v5 at A3 W1 BY ⊢
            generalize v4.heap.size = bx at W1 hbxc ⊢
            clear CX
            have W2 : Hid (Wd v5.drew bx 0 y) := W1.out.drew
            have A4 : Hid (AL w v5.drew b c f f (n - 1) n) := A3.out.past ((Below.refl _ _).drew)
            have BZ : Hid (OpAt v5.drew ob 0 op) := BY.out.past ((Below.refl _ _).drew)
            clear W1 A3 BY
            refine wp_region_held_drew (S := fun V' => Wd V' bx 0 y ∧ OpAt V' ob 0 op) (by kernel_rfl) ⟨W2.out, BZ.out⟩ (fun hHeld => ?_)
            generalize v5.drew = z0 at hHeld A4 W2 BZ ⊢
            refine wpAnyH_take (i := 0) (v := .int .i64 0) ov0 (by kernel_rfl) (by kernel_rfl) (by kernel_rfl) (fun _ _ _ h => h) (Or.inl ⟨by rfl, fun V' hS => ?_⟩) hHeld ?_
            · go_simp
            simp only [Act.put, List.setIfInBounds_toArray, List.set_cons_zero, List.set_cons_succ]
            refine wpAnyH_take (i := 1) (v := .bool true) ov1 (by kernel_rfl) (by kernel_rfl) (by kernel_rfl) (fun _ _ _ h => h) (Or.inl ⟨by rfl, fun V' hS => ?_⟩) hHeld ?_
            · go_simp
            simp only [Act.put, List.setIfInBounds_toArray, List.set_cons_zero, List.set_cons_succ]
            refine wpAnyH_take (i := 2) (v := .bool true) ov2 (by kernel_rfl) (by kernel_rfl) (by kernel_rfl) (fun _ _ _ h => h) (Or.inl ⟨by rfl, fun V' hS => ?_⟩) hHeld ?_
            · go_simp
            simp only [Act.put, List.setIfInBounds_toArray, List.set_cons_zero, List.set_cons_succ]
            refine wpAnyH_take (i := 3) (v := .pointer (some ⟨c, 0, none⟩)) ov3 (by kernel_rfl) (by kernel_rfl) (by kernel_rfl) (fun _ _ _ h => h) (Or.inl ⟨by rfl, fun V' hS => ?_⟩) hHeld ?_
            · go_simp
            simp only [Act.put, List.setIfInBounds_toArray, List.set_cons_zero, List.set_cons_succ]
            refine wpAnyH_take (i := 5) (v := .agg #[.int .u64 y.a, .int .u64 y.b, .int .u64 y.c, .int .u64 y.d]) ov5 (by kernel_rfl) (by kernel_rfl) (by kernel_rfl) (fun _ _ _ h => h) (Or.inl ⟨by rfl, fun V' hS => ?_⟩) hHeld ?_
            · obtain ⟨e0, e1, e2, e3, _⟩ := hS.1
              go_simp
            simp only [Act.put, List.setIfInBounds_toArray, List.set_cons_zero, List.set_cons_succ]
            refine wpAnyH_ready (rs := [4]) (by kernel_rfl) (by simp) ?_
            refine AllReadyH.cons ov4 (fun K hK => ?_) AllReadyH.nil
            rw [if_pos (by rfl)]
            go_simp
            refine (PT.out z0 A4.out.t).mono ?_
            rintro e v6 ⟨rfl, h1, h2⟩
            unfold W4.v
            have A5 : Hid (AL w v6 b c f f (n - 1) (n - 1)) := A4.out.callT h1 h2
            have W3 : Hid (Wd v6 bx 0 y) := W2.out.only h2 hbxc.out
            have BW : Hid (OpAt v6 ob 0 op) := BZ.out.only h2 hob1.out.2
            clear h1 h2
            (try go_wp2_with fail)
            refine hK.out _ _ ⟨W3.out, BW.out⟩ (fun _ => ?_)
            clear hK K
            (try simp only [Act.put, List.setIfInBounds_toArray, List.set_cons_zero, List.set_cons_succ])
            refine wpAnyH_take (i := 6) (v := .bool false) ov6 (by kernel_rfl) (by kernel_rfl) (by kernel_rfl) (fun _ _ _ h => h) (Or.inl ⟨by rfl, fun V' hS => ?_⟩) ⟨W3.out, BW.out⟩ ?_
            · have hq := eqw_self y.a y.b y.c y.d V'
              go_simp
            simp only [Act.put, List.setIfInBounds_toArray, List.set_cons_zero, List.set_cons_succ]
            refine wpAnyH_take (i := 7) (v := .bool false) ov7 (by kernel_rfl) (by kernel_rfl) (by kernel_rfl) (fun _ _ _ h => h) (Or.inl ⟨by rfl, fun V' hS => ?_⟩) ⟨W3.out, BW.out⟩ ?_
            · go_simp
            simp only [Act.put, List.setIfInBounds_toArray, List.set_cons_zero, List.set_cons_succ]
            refine wpAnyH_done (by kernel_rfl) ?_ _
            go_wp2
            go_meet
            case rel => exact ⟨rfl, f, (n - 1), A5.out, ⟨by omega, by omega⟩⟩
        replace h2 : (kd == 2) = false := by simpa using h2
        by_cases h8 : kd = 8
        · rw [h8] at k0 ⊢
          clear h8
          by_cases hf : n < 1
          · obtain ⟨y, ey⟩ : ∃ y, w0 = y := ⟨_, rfl⟩
            have PS : Hid (Calls Try.prog 31 #[.pointer (some ⟨b, 0, none⟩)] v3 fun e w' => e = .returned (.tuple #[y.v, .int .i64 90]) ∧ Stk w' b 0 4096 f n ∧ Only b v3 w') := by
              have h := pop_is v3 b f n A2.out.s
              rw [show oPopW f n = y by unfold oPopW; rw [if_pos hf]; exact ey, show oPop f n = ⟨90, f, n⟩ by unfold oPop; rw [if_pos hf]] at h
              exact h
            clear ey
            go_upto_region 17 with (go_at_call 31; refine (PS.out).mono ?_; rintro e v4 ⟨rfl, h1, h2⟩; (have A3 : Hid (AL w v4 b c f f n n) := A2.out.callS h1 h2); (have BY : Hid (OpAt v4 ob 0 op) := BX.out.only h2 hob1.out.1); clear h1 h2 PS A2 BX k0 k2 k3 x0 x1 x2 x3; unfold W4.v)
            have CX : Hid (v4.heap.size ≠ c) := by have h2 := A3.out.t.lt; unfold Hid; omega
            have W1 : Hid (Wd (v4.alloc (.cells #[.int .u64 y.a, .int .u64 y.b, .int .u64 y.c, .int .u64 y.d] 30)) v4.heap.size 0 y) := Wd.new v4 _ y
            replace A3 : Hid (AL w (v4.alloc (.cells #[.int .u64 y.a, .int .u64 y.b, .int .u64 y.c, .int .u64 y.d] 30)) b c f f n n) := A3.out.past ((Below.refl _ _).alloc (Nat.le_refl _) _)
            replace BY : Hid (OpAt (v4.alloc (.cells #[.int .u64 y.a, .int .u64 y.b, .int .u64 y.c, .int .u64 y.d] 30)) ob 0 op) := BY.out.past ((Below.refl _ _).alloc (Nat.le_refl _) _)
            have hbxc : Hid (v4.heap.size ≠ c) := CX.out
            generalize v4.alloc (.cells #[.int .u64 y.a, .int .u64 y.b, .int .u64 y.c, .int .u64 y.d] 30) = v5 at A3 W1 BY ⊢
            generalize v4.heap.size = bx at W1 hbxc ⊢
            clear CX
            have W2 : Hid (Wd v5.drew bx 0 y) := W1.out.drew
            have A4 : Hid (AL w v5.drew b c f f n n) := A3.out.past ((Below.refl _ _).drew)
            have BZ : Hid (OpAt v5.drew ob 0 op) := BY.out.past ((Below.refl _ _).drew)
            clear W1 A3 BY
            refine wp_region_held_drew (S := fun V' => Wd V' bx 0 y ∧ OpAt V' ob 0 op) (by kernel_rfl) ⟨W2.out, BZ.out⟩ (fun hHeld => ?_)
            generalize v5.drew = z0 at hHeld A4 W2 BZ ⊢
            refine wpAnyH_take (i := 0) (v := .int .i64 90) ov0 (by kernel_rfl) (by kernel_rfl) (by kernel_rfl) (fun _ _ _ h => h) (Or.inl ⟨by rfl, fun V' hS => ?_⟩) hHeld ?_
            · go_simp
            simp only [Act.put, List.setIfInBounds_toArray, List.set_cons_zero, List.set_cons_succ]
            refine wpAnyH_take (i := 1) (v := .bool false) ov1 (by kernel_rfl) (by kernel_rfl) (by kernel_rfl) (fun _ _ _ h => h) (Or.inl ⟨by rfl, fun V' hS => ?_⟩) hHeld ?_
            · go_simp
            simp only [Act.put, List.setIfInBounds_toArray, List.set_cons_zero, List.set_cons_succ]
            refine wpAnyH_take (i := 2) (v := .bool false) ov2 (by kernel_rfl) (by kernel_rfl) (by kernel_rfl) (fun _ _ _ h => h) (Or.inl ⟨by rfl, fun V' hS => ?_⟩) hHeld ?_
            · go_simp
            simp only [Act.put, List.setIfInBounds_toArray, List.set_cons_zero, List.set_cons_succ]
            refine wpAnyH_take (i := 3) (v := undef) ov3 (by kernel_rfl) (by kernel_rfl) (by kernel_rfl) (fun _ _ _ h => h) (Or.inr ⟨by rfl, rfl⟩) hHeld ?_
            simp only [Act.put, List.setIfInBounds_toArray, List.set_cons_zero, List.set_cons_succ]
            refine wpAnyH_take (i := 4) (v := undef) ov4 (by kernel_rfl) (by kernel_rfl) (by kernel_rfl) (fun _ _ _ h => h) (Or.inr ⟨by rfl, rfl⟩) hHeld ?_
            simp only [Act.put, List.setIfInBounds_toArray, List.set_cons_zero, List.set_cons_succ]
            refine wpAnyH_take (i := 5) (v := undef) ov5 (by kernel_rfl) (by kernel_rfl) (by kernel_rfl) (fun _ _ _ h => h) (Or.inr ⟨by rfl, rfl⟩) hHeld ?_
            simp only [Act.put, List.setIfInBounds_toArray, List.set_cons_zero, List.set_cons_succ]
            refine wpAnyH_take (i := 6) (v := undef) ov6 (by kernel_rfl) (by kernel_rfl) (by kernel_rfl) (fun _ _ _ h => h) (Or.inr ⟨by rfl, rfl⟩) hHeld ?_
            simp only [Act.put, List.setIfInBounds_toArray, List.set_cons_zero, List.set_cons_succ]
            refine wpAnyH_take (i := 7) (v := .bool false) ov7 (by kernel_rfl) (by kernel_rfl) (by kernel_rfl) (fun _ _ _ h => h) (Or.inl ⟨by rfl, fun V' hS => ?_⟩) hHeld ?_
            · go_simp
            simp only [Act.put, List.setIfInBounds_toArray, List.set_cons_zero, List.set_cons_succ]
            refine wpAnyH_done (by kernel_rfl) ?_ _
            go_wp2
            go_meet
            case rel => exact ⟨rfl, f, n, A4.out, ⟨by omega, by omega⟩⟩
          · obtain ⟨y, ey⟩ : ∃ y, f (pl (n - 1)) = y := ⟨_, rfl⟩
            have PS : Hid (Calls Try.prog 31 #[.pointer (some ⟨b, 0, none⟩)] v3 fun e w' => e = .returned (.tuple #[y.v, .int .i64 0]) ∧ Stk w' b 0 4096 f (n - 1) ∧ Only b v3 w') := by
              have h := pop_is v3 b f n A2.out.s
              rw [show oPopW f n = y by unfold oPopW; rw [if_neg hf]; exact ey, show oPop f n = ⟨0, f, (n - 1)⟩ by unfold oPop; rw [if_neg hf]; rw [wd.out]] at h
              exact h
            have PT : Hid (∀ W, Stk W c 0 4096 f n → Calls Try.prog 38 #[.pointer (some ⟨c, 0, none⟩)] W fun e w' => e = .returned y.v ∧ Stk w' c 0 4096 f (n - 1) ∧ Only c W w') := fun W hW => by rw [← ey]; exact (by have h := take_is W c f n hW; rw [wd.out] at h; exact h)
            clear ey
            go_upto_region 17 with (go_at_call 31; refine (PS.out).mono ?_; rintro e v4 ⟨rfl, h1, h2⟩; (have A3 : Hid (AL w v4 b c f f (n - 1) n) := A2.out.callS h1 h2); (have BY : Hid (OpAt v4 ob 0 op) := BX.out.only h2 hob1.out.1); clear h1 h2 PS A2 BX k0 k2 k3 x0 x1 x2 x3; unfold W4.v)
            have CX : Hid (v4.heap.size ≠ c) := by have h2 := A3.out.t.lt; unfold Hid; omega
            have W1 : Hid (Wd (v4.alloc (.cells #[.int .u64 y.a, .int .u64 y.b, .int .u64 y.c, .int .u64 y.d] 30)) v4.heap.size 0 y) := Wd.new v4 _ y
            replace A3 : Hid (AL w (v4.alloc (.cells #[.int .u64 y.a, .int .u64 y.b, .int .u64 y.c, .int .u64 y.d] 30)) b c f f (n - 1) n) := A3.out.past ((Below.refl _ _).alloc (Nat.le_refl _) _)
            replace BY : Hid (OpAt (v4.alloc (.cells #[.int .u64 y.a, .int .u64 y.b, .int .u64 y.c, .int .u64 y.d] 30)) ob 0 op) := BY.out.past ((Below.refl _ _).alloc (Nat.le_refl _) _)
            have hbxc : Hid (v4.heap.size ≠ c) := CX.out
            generalize v4.alloc (.cells #[.int .u64 y.a, .int .u64 y.b, .int .u64 y.c, .int .u64 y.d] 30) = v5 at A3 W1 BY ⊢
            generalize v4.heap.size = bx at W1 hbxc ⊢
            clear CX
            have W2 : Hid (Wd v5.drew bx 0 y) := W1.out.drew
            have A4 : Hid (AL w v5.drew b c f f (n - 1) n) := A3.out.past ((Below.refl _ _).drew)
            have BZ : Hid (OpAt v5.drew ob 0 op) := BY.out.past ((Below.refl _ _).drew)
            clear W1 A3 BY
            refine wp_region_held_drew (S := fun V' => Wd V' bx 0 y ∧ OpAt V' ob 0 op) (by kernel_rfl) ⟨W2.out, BZ.out⟩ (fun hHeld => ?_)
            generalize v5.drew = z0 at hHeld A4 W2 BZ ⊢
            refine wpAnyH_take (i := 0) (v := .int .i64 0) ov0 (by kernel_rfl) (by kernel_rfl) (by kernel_rfl) (fun _ _ _ h => h) (Or.inl ⟨by rfl, fun V' hS => ?_⟩) hHeld ?_
            · go_simp
            simp only [Act.put, List.setIfInBounds_toArray, List.set_cons_zero, List.set_cons_succ]
            refine wpAnyH_take (i := 1) (v := .bool true) ov1 (by kernel_rfl) (by kernel_rfl) (by kernel_rfl) (fun _ _ _ h => h) (Or.inl ⟨by rfl, fun V' hS => ?_⟩) hHeld ?_
            · go_simp
            simp only [Act.put, List.setIfInBounds_toArray, List.set_cons_zero, List.set_cons_succ]
            refine wpAnyH_take (i := 2) (v := .bool true) ov2 (by kernel_rfl) (by kernel_rfl) (by kernel_rfl) (fun _ _ _ h => h) (Or.inl ⟨by rfl, fun V' hS => ?_⟩) hHeld ?_
            · go_simp
            simp only [Act.put, List.setIfInBounds_toArray, List.set_cons_zero, List.set_cons_succ]
            refine wpAnyH_take (i := 3) (v := .pointer (some ⟨c, 0, none⟩)) ov3 (by kernel_rfl) (by kernel_rfl) (by kernel_rfl) (fun _ _ _ h => h) (Or.inl ⟨by rfl, fun V' hS => ?_⟩) hHeld ?_
            · go_simp
            simp only [Act.put, List.setIfInBounds_toArray, List.set_cons_zero, List.set_cons_succ]
            refine wpAnyH_take (i := 5) (v := .agg #[.int .u64 y.a, .int .u64 y.b, .int .u64 y.c, .int .u64 y.d]) ov5 (by kernel_rfl) (by kernel_rfl) (by kernel_rfl) (fun _ _ _ h => h) (Or.inl ⟨by rfl, fun V' hS => ?_⟩) hHeld ?_
            · obtain ⟨e0, e1, e2, e3, _⟩ := hS.1
              go_simp
            simp only [Act.put, List.setIfInBounds_toArray, List.set_cons_zero, List.set_cons_succ]
            refine wpAnyH_ready (rs := [4]) (by kernel_rfl) (by simp) ?_
            refine AllReadyH.cons ov4 (fun K hK => ?_) AllReadyH.nil
            rw [if_pos (by rfl)]
            go_simp
            refine (PT.out z0 A4.out.t).mono ?_
            rintro e v6 ⟨rfl, h1, h2⟩
            unfold W4.v
            have A5 : Hid (AL w v6 b c f f (n - 1) (n - 1)) := A4.out.callT h1 h2
            have W3 : Hid (Wd v6 bx 0 y) := W2.out.only h2 hbxc.out
            have BW : Hid (OpAt v6 ob 0 op) := BZ.out.only h2 hob1.out.2
            clear h1 h2
            (try go_wp2_with fail)
            refine hK.out _ _ ⟨W3.out, BW.out⟩ (fun _ => ?_)
            clear hK K
            (try simp only [Act.put, List.setIfInBounds_toArray, List.set_cons_zero, List.set_cons_succ])
            refine wpAnyH_take (i := 6) (v := .bool false) ov6 (by kernel_rfl) (by kernel_rfl) (by kernel_rfl) (fun _ _ _ h => h) (Or.inl ⟨by rfl, fun V' hS => ?_⟩) ⟨W3.out, BW.out⟩ ?_
            · have hq := eqw_self y.a y.b y.c y.d V'
              go_simp
            simp only [Act.put, List.setIfInBounds_toArray, List.set_cons_zero, List.set_cons_succ]
            refine wpAnyH_take (i := 7) (v := .bool false) ov7 (by kernel_rfl) (by kernel_rfl) (by kernel_rfl) (fun _ _ _ h => h) (Or.inl ⟨by rfl, fun V' hS => ?_⟩) ⟨W3.out, BW.out⟩ ?_
            · go_simp
            simp only [Act.put, List.setIfInBounds_toArray, List.set_cons_zero, List.set_cons_succ]
            refine wpAnyH_done (by kernel_rfl) ?_ _
            go_wp2
            go_meet
            case rel => exact ⟨rfl, f, (n - 1), A5.out, ⟨by omega, by omega⟩⟩
        replace h8 : (kd == 8) = false := by simpa using h8
        by_cases h3 : kd = 3
        · rw [h3] at k0 ⊢
          clear h3
          by_cases hN : N < 1
          · obtain ⟨y, ey⟩ : ∃ y, w0 = y := ⟨_, rfl⟩
            have PS : Hid (Calls Try.prog 28 #[.pointer (some ⟨b, 0, none⟩), .int .i64 N] v3 fun e w' => e = .returned (.tuple #[y.v, .int .i64 1]) ∧ Below v3.heap.size v3 w') := by
              have h := at_is v3 b f n N A2.out.s
              rw [show oAtW f n N = y by unfold oAtW; rw [if_pos (Or.inl hN)]; exact ey, show oAtE n N = 1 by unfold oAtE; rw [if_pos hN]] at h
              exact h
            clear ey
            go_upto_region 22 with (go_at_call 28; refine (PS.out).mono ?_; rintro e v4 ⟨rfl, h1⟩; (have A3 : Hid (AL w v4 b c f f n n) := A2.out.past h1); (have BY : Hid (OpAt v4 ob 0 op) := BX.out.past h1); clear h1 PS A2 BX k0 k2 k3 x0 x1 x2 x3; unfold W4.v)
            have CX : Hid (v4.heap.size ≠ c) := by have h2 := A3.out.t.lt; unfold Hid; omega
            have W1 : Hid (Wd (v4.alloc (.cells #[.int .u64 y.a, .int .u64 y.b, .int .u64 y.c, .int .u64 y.d] 30)) v4.heap.size 0 y) := Wd.new v4 _ y
            replace A3 : Hid (AL w (v4.alloc (.cells #[.int .u64 y.a, .int .u64 y.b, .int .u64 y.c, .int .u64 y.d] 30)) b c f f n n) := A3.out.past ((Below.refl _ _).alloc (Nat.le_refl _) _)
            replace BY : Hid (OpAt (v4.alloc (.cells #[.int .u64 y.a, .int .u64 y.b, .int .u64 y.c, .int .u64 y.d] 30)) ob 0 op) := BY.out.past ((Below.refl _ _).alloc (Nat.le_refl _) _)
            have hbxc : Hid (v4.heap.size ≠ c) := CX.out
            generalize v4.alloc (.cells #[.int .u64 y.a, .int .u64 y.b, .int .u64 y.c, .int .u64 y.d] 30) = v5 at A3 W1 BY ⊢
            generalize v4.heap.size = bx at W1 hbxc ⊢
            clear CX
            have W2 : Hid (Wd v5.drew bx 0 y) := W1.out.drew
            have A4 : Hid (AL w v5.drew b c f f n n) := A3.out.past ((Below.refl _ _).drew)
            have BZ : Hid (OpAt v5.drew ob 0 op) := BY.out.past ((Below.refl _ _).drew)
            clear W1 A3 BY
            refine wp_region_held_drew (S := fun V' => Wd V' bx 0 y ∧ OpAt V' ob 0 op) (by kernel_rfl) ⟨W2.out, BZ.out⟩ (fun hHeld => ?_)
            generalize v5.drew = z0 at hHeld A4 W2 BZ ⊢
            refine wpAnyH_take (i := 0) (v := .int .i64 1) ov0 (by kernel_rfl) (by kernel_rfl) (by kernel_rfl) (fun _ _ _ h => h) (Or.inl ⟨by rfl, fun V' hS => ?_⟩) hHeld ?_
            · go_simp
            simp only [Act.put, List.setIfInBounds_toArray, List.set_cons_zero, List.set_cons_succ]
            refine wpAnyH_take (i := 1) (v := .bool false) ov1 (by kernel_rfl) (by kernel_rfl) (by kernel_rfl) (fun _ _ _ h => h) (Or.inl ⟨by rfl, fun V' hS => ?_⟩) hHeld ?_
            · go_simp
            simp only [Act.put, List.setIfInBounds_toArray, List.set_cons_zero, List.set_cons_succ]
            refine wpAnyH_take (i := 2) (v := .bool false) ov2 (by kernel_rfl) (by kernel_rfl) (by kernel_rfl) (fun _ _ _ h => h) (Or.inl ⟨by rfl, fun V' hS => ?_⟩) hHeld ?_
            · go_simp
            simp only [Act.put, List.setIfInBounds_toArray, List.set_cons_zero, List.set_cons_succ]
            refine wpAnyH_take (i := 3) (v := undef) ov3 (by kernel_rfl) (by kernel_rfl) (by kernel_rfl) (fun _ _ _ h => h) (Or.inr ⟨by rfl, rfl⟩) hHeld ?_
            simp only [Act.put, List.setIfInBounds_toArray, List.set_cons_zero, List.set_cons_succ]
            refine wpAnyH_take (i := 4) (v := undef) ov4 (by kernel_rfl) (by kernel_rfl) (by kernel_rfl) (fun _ _ _ h => h) (Or.inr ⟨by rfl, rfl⟩) hHeld ?_
            simp only [Act.put, List.setIfInBounds_toArray, List.set_cons_zero, List.set_cons_succ]
            refine wpAnyH_take (i := 5) (v := undef) ov5 (by kernel_rfl) (by kernel_rfl) (by kernel_rfl) (fun _ _ _ h => h) (Or.inr ⟨by rfl, rfl⟩) hHeld ?_
            simp only [Act.put, List.setIfInBounds_toArray, List.set_cons_zero, List.set_cons_succ]
            refine wpAnyH_take (i := 6) (v := undef) ov6 (by kernel_rfl) (by kernel_rfl) (by kernel_rfl) (fun _ _ _ h => h) (Or.inr ⟨by rfl, rfl⟩) hHeld ?_
            simp only [Act.put, List.setIfInBounds_toArray, List.set_cons_zero, List.set_cons_succ]
            refine wpAnyH_take (i := 7) (v := undef) ov7 (by kernel_rfl) (by kernel_rfl) (by kernel_rfl) (fun _ _ _ h => h) (Or.inr ⟨by rfl, rfl⟩) hHeld ?_
            simp only [Act.put, List.setIfInBounds_toArray, List.set_cons_zero, List.set_cons_succ]
            refine wpAnyH_take (i := 8) (v := undef) ov8 (by kernel_rfl) (by kernel_rfl) (by kernel_rfl) (fun _ _ _ h => h) (Or.inr ⟨by rfl, rfl⟩) hHeld ?_
            simp only [Act.put, List.setIfInBounds_toArray, List.set_cons_zero, List.set_cons_succ]
            refine wpAnyH_take (i := 9) (v := .bool false) ov9 (by kernel_rfl) (by kernel_rfl) (by kernel_rfl) (fun _ _ _ h => h) (Or.inl ⟨by rfl, fun V' hS => ?_⟩) hHeld ?_
            · go_simp
            simp only [Act.put, List.setIfInBounds_toArray, List.set_cons_zero, List.set_cons_succ]
            refine wpAnyH_done (by kernel_rfl) ?_ _
            go_wp2
            go_meet
            case rel => exact ⟨rfl, f, n, A4.out, ⟨by omega, by omega⟩⟩
          · by_cases hN2 : n < N
            · obtain ⟨y, ey⟩ : ∃ y, w0 = y := ⟨_, rfl⟩
              have PS : Hid (Calls Try.prog 28 #[.pointer (some ⟨b, 0, none⟩), .int .i64 N] v3 fun e w' => e = .returned (.tuple #[y.v, .int .i64 90]) ∧ Below v3.heap.size v3 w') := by
                have h := at_is v3 b f n N A2.out.s
                rw [show oAtW f n N = y by unfold oAtW; rw [if_pos (Or.inr hN2)]; exact ey, show oAtE n N = 90 by unfold oAtE; rw [if_neg hN, if_pos hN2]] at h
                exact h
              clear ey
              go_upto_region 22 with (go_at_call 28; refine (PS.out).mono ?_; rintro e v4 ⟨rfl, h1⟩; (have A3 : Hid (AL w v4 b c f f n n) := A2.out.past h1); (have BY : Hid (OpAt v4 ob 0 op) := BX.out.past h1); clear h1 PS A2 BX k0 k2 k3 x0 x1 x2 x3; unfold W4.v)
              have CX : Hid (v4.heap.size ≠ c) := by have h2 := A3.out.t.lt; unfold Hid; omega
              have W1 : Hid (Wd (v4.alloc (.cells #[.int .u64 y.a, .int .u64 y.b, .int .u64 y.c, .int .u64 y.d] 30)) v4.heap.size 0 y) := Wd.new v4 _ y
              replace A3 : Hid (AL w (v4.alloc (.cells #[.int .u64 y.a, .int .u64 y.b, .int .u64 y.c, .int .u64 y.d] 30)) b c f f n n) := A3.out.past ((Below.refl _ _).alloc (Nat.le_refl _) _)
              replace BY : Hid (OpAt (v4.alloc (.cells #[.int .u64 y.a, .int .u64 y.b, .int .u64 y.c, .int .u64 y.d] 30)) ob 0 op) := BY.out.past ((Below.refl _ _).alloc (Nat.le_refl _) _)
              have hbxc : Hid (v4.heap.size ≠ c) := CX.out
              generalize v4.alloc (.cells #[.int .u64 y.a, .int .u64 y.b, .int .u64 y.c, .int .u64 y.d] 30) = v5 at A3 W1 BY ⊢
              generalize v4.heap.size = bx at W1 hbxc ⊢
              clear CX
              have W2 : Hid (Wd v5.drew bx 0 y) := W1.out.drew
              have A4 : Hid (AL w v5.drew b c f f n n) := A3.out.past ((Below.refl _ _).drew)
              have BZ : Hid (OpAt v5.drew ob 0 op) := BY.out.past ((Below.refl _ _).drew)
              clear W1 A3 BY
              refine wp_region_held_drew (S := fun V' => Wd V' bx 0 y ∧ OpAt V' ob 0 op) (by kernel_rfl) ⟨W2.out, BZ.out⟩ (fun hHeld => ?_)
              generalize v5.drew = z0 at hHeld A4 W2 BZ ⊢
              refine wpAnyH_take (i := 0) (v := .int .i64 90) ov0 (by kernel_rfl) (by kernel_rfl) (by kernel_rfl) (fun _ _ _ h => h) (Or.inl ⟨by rfl, fun V' hS => ?_⟩) hHeld ?_
              · go_simp
              simp only [Act.put, List.setIfInBounds_toArray, List.set_cons_zero, List.set_cons_succ]
              refine wpAnyH_take (i := 1) (v := .bool false) ov1 (by kernel_rfl) (by kernel_rfl) (by kernel_rfl) (fun _ _ _ h => h) (Or.inl ⟨by rfl, fun V' hS => ?_⟩) hHeld ?_
              · go_simp
              simp only [Act.put, List.setIfInBounds_toArray, List.set_cons_zero, List.set_cons_succ]
              refine wpAnyH_take (i := 2) (v := .bool false) ov2 (by kernel_rfl) (by kernel_rfl) (by kernel_rfl) (fun _ _ _ h => h) (Or.inl ⟨by rfl, fun V' hS => ?_⟩) hHeld ?_
              · go_simp
              simp only [Act.put, List.setIfInBounds_toArray, List.set_cons_zero, List.set_cons_succ]
              refine wpAnyH_take (i := 3) (v := undef) ov3 (by kernel_rfl) (by kernel_rfl) (by kernel_rfl) (fun _ _ _ h => h) (Or.inr ⟨by rfl, rfl⟩) hHeld ?_
              simp only [Act.put, List.setIfInBounds_toArray, List.set_cons_zero, List.set_cons_succ]
              refine wpAnyH_take (i := 4) (v := undef) ov4 (by kernel_rfl) (by kernel_rfl) (by kernel_rfl) (fun _ _ _ h => h) (Or.inr ⟨by rfl, rfl⟩) hHeld ?_
              simp only [Act.put, List.setIfInBounds_toArray, List.set_cons_zero, List.set_cons_succ]
              refine wpAnyH_take (i := 5) (v := undef) ov5 (by kernel_rfl) (by kernel_rfl) (by kernel_rfl) (fun _ _ _ h => h) (Or.inr ⟨by rfl, rfl⟩) hHeld ?_
              simp only [Act.put, List.setIfInBounds_toArray, List.set_cons_zero, List.set_cons_succ]
              refine wpAnyH_take (i := 6) (v := undef) ov6 (by kernel_rfl) (by kernel_rfl) (by kernel_rfl) (fun _ _ _ h => h) (Or.inr ⟨by rfl, rfl⟩) hHeld ?_
              simp only [Act.put, List.setIfInBounds_toArray, List.set_cons_zero, List.set_cons_succ]
              refine wpAnyH_take (i := 7) (v := undef) ov7 (by kernel_rfl) (by kernel_rfl) (by kernel_rfl) (fun _ _ _ h => h) (Or.inr ⟨by rfl, rfl⟩) hHeld ?_
              simp only [Act.put, List.setIfInBounds_toArray, List.set_cons_zero, List.set_cons_succ]
              refine wpAnyH_take (i := 8) (v := undef) ov8 (by kernel_rfl) (by kernel_rfl) (by kernel_rfl) (fun _ _ _ h => h) (Or.inr ⟨by rfl, rfl⟩) hHeld ?_
              simp only [Act.put, List.setIfInBounds_toArray, List.set_cons_zero, List.set_cons_succ]
              refine wpAnyH_take (i := 9) (v := .bool false) ov9 (by kernel_rfl) (by kernel_rfl) (by kernel_rfl) (fun _ _ _ h => h) (Or.inl ⟨by rfl, fun V' hS => ?_⟩) hHeld ?_
              · go_simp
              simp only [Act.put, List.setIfInBounds_toArray, List.set_cons_zero, List.set_cons_succ]
              refine wpAnyH_done (by kernel_rfl) ?_ _
              go_wp2
              go_meet
              case rel => exact ⟨rfl, f, n, A4.out, ⟨by omega, by omega⟩⟩
            · obtain ⟨y, ey⟩ : ∃ y, f (pl (n - N)) = y := ⟨_, rfl⟩
              have PS : Hid (Calls Try.prog 28 #[.pointer (some ⟨b, 0, none⟩), .int .i64 N] v3 fun e w' => e = .returned (.tuple #[y.v, .int .i64 0]) ∧ Below v3.heap.size v3 w') := by
                have h := at_is v3 b f n N A2.out.s
                rw [show oAtW f n N = y by unfold oAtW; rw [if_neg (by omega)]; exact ey, show oAtE n N = 0 by unfold oAtE; rw [if_neg hN, if_neg hN2]] at h
                exact h
              have PT : Hid (∀ W, Stk W c 0 4096 f n → Calls Try.prog 39 #[.pointer (some ⟨c, 0, none⟩), .int .i64 N] W fun e w' => e = .returned y.v ∧ Below W.heap.size W w') := fun W hW => by rw [← ey]; exact peek_is W c f n N hW
              clear ey
              go_upto_region 22 with (go_at_call 28; refine (PS.out).mono ?_; rintro e v4 ⟨rfl, h1⟩; (have A3 : Hid (AL w v4 b c f f n n) := A2.out.past h1); (have BY : Hid (OpAt v4 ob 0 op) := BX.out.past h1); clear h1 PS A2 BX k0 k2 k3 x0 x1 x2 x3; unfold W4.v)
              have CX : Hid (v4.heap.size ≠ c) := by have h2 := A3.out.t.lt; unfold Hid; omega
              have W1 : Hid (Wd (v4.alloc (.cells #[.int .u64 y.a, .int .u64 y.b, .int .u64 y.c, .int .u64 y.d] 30)) v4.heap.size 0 y) := Wd.new v4 _ y
              replace A3 : Hid (AL w (v4.alloc (.cells #[.int .u64 y.a, .int .u64 y.b, .int .u64 y.c, .int .u64 y.d] 30)) b c f f n n) := A3.out.past ((Below.refl _ _).alloc (Nat.le_refl _) _)
              replace BY : Hid (OpAt (v4.alloc (.cells #[.int .u64 y.a, .int .u64 y.b, .int .u64 y.c, .int .u64 y.d] 30)) ob 0 op) := BY.out.past ((Below.refl _ _).alloc (Nat.le_refl _) _)
              have hbxc : Hid (v4.heap.size ≠ c) := CX.out
              generalize v4.alloc (.cells #[.int .u64 y.a, .int .u64 y.b, .int .u64 y.c, .int .u64 y.d] 30) = v5 at A3 W1 BY ⊢
              generalize v4.heap.size = bx at W1 hbxc ⊢
              clear CX
              have W2 : Hid (Wd v5.drew bx 0 y) := W1.out.drew
              have A4 : Hid (AL w v5.drew b c f f n n) := A3.out.past ((Below.refl _ _).drew)
              have BZ : Hid (OpAt v5.drew ob 0 op) := BY.out.past ((Below.refl _ _).drew)
              clear W1 A3 BY
              refine wp_region_held_drew (S := fun V' => Wd V' bx 0 y ∧ OpAt V' ob 0 op) (by kernel_rfl) ⟨W2.out, BZ.out⟩ (fun hHeld => ?_)
              generalize v5.drew = z0 at hHeld A4 W2 BZ ⊢
              refine wpAnyH_take (i := 0) (v := .int .i64 0) ov0 (by kernel_rfl) (by kernel_rfl) (by kernel_rfl) (fun _ _ _ h => h) (Or.inl ⟨by rfl, fun V' hS => ?_⟩) hHeld ?_
              · go_simp
              simp only [Act.put, List.setIfInBounds_toArray, List.set_cons_zero, List.set_cons_succ]
              refine wpAnyH_take (i := 1) (v := .bool true) ov1 (by kernel_rfl) (by kernel_rfl) (by kernel_rfl) (fun _ _ _ h => h) (Or.inl ⟨by rfl, fun V' hS => ?_⟩) hHeld ?_
              · go_simp
              simp only [Act.put, List.setIfInBounds_toArray, List.set_cons_zero, List.set_cons_succ]
              refine wpAnyH_take (i := 2) (v := .bool true) ov2 (by kernel_rfl) (by kernel_rfl) (by kernel_rfl) (fun _ _ _ h => h) (Or.inl ⟨by rfl, fun V' hS => ?_⟩) hHeld ?_
              · go_simp
              simp only [Act.put, List.setIfInBounds_toArray, List.set_cons_zero, List.set_cons_succ]
              refine wpAnyH_take (i := 3) (v := .pointer (some ⟨c, 0, none⟩)) ov3 (by kernel_rfl) (by kernel_rfl) (by kernel_rfl) (fun _ _ _ h => h) (Or.inl ⟨by rfl, fun V' hS => ?_⟩) hHeld ?_
              · go_simp
              simp only [Act.put, List.setIfInBounds_toArray, List.set_cons_zero, List.set_cons_succ]
              refine wpAnyH_take (i := 4) (v := .pointer (some ⟨ob, 2, none⟩)) ov4 (by kernel_rfl) (by kernel_rfl) (by kernel_rfl) (fun _ _ _ h => h) (Or.inl ⟨by rfl, fun V' hS => ?_⟩) hHeld ?_
              · go_simp
              simp only [Act.put, List.setIfInBounds_toArray, List.set_cons_zero, List.set_cons_succ]
              refine wpAnyH_take (i := 5) (v := .int .i64 N) ov5 (by kernel_rfl) (by kernel_rfl) (by kernel_rfl) (fun _ _ _ h => h) (Or.inl ⟨by rfl, fun V' hS => ?_⟩) hHeld ?_
              · have e0 : V'.cell? ⟨ob, 2, none⟩ = some (.int .i64 N) := hS.2 2 _ (by rw [← EN.out]; rfl)
                go_simp
              simp only [Act.put, List.setIfInBounds_toArray, List.set_cons_zero, List.set_cons_succ]
              refine wpAnyH_take (i := 7) (v := .agg #[.int .u64 y.a, .int .u64 y.b, .int .u64 y.c, .int .u64 y.d]) ov7 (by kernel_rfl) (by kernel_rfl) (by kernel_rfl) (fun _ _ _ h => h) (Or.inl ⟨by rfl, fun V' hS => ?_⟩) hHeld ?_
              · obtain ⟨e0, e1, e2, e3, _⟩ := hS.1
                go_simp
              simp only [Act.put, List.setIfInBounds_toArray, List.set_cons_zero, List.set_cons_succ]
              refine wpAnyH_ready (rs := [6]) (by kernel_rfl) (by simp) ?_
              refine AllReadyH.cons ov6 (fun K hK => ?_) AllReadyH.nil
              rw [if_pos (by rfl)]
              go_simp
              refine (PT.out z0 A4.out.t).mono ?_
              rintro e v6 ⟨rfl, h1⟩
              unfold W4.v
              have A5 : Hid (AL w v6 b c f f n n) := A4.out.past h1
              have W3 : Hid (Wd v6 bx 0 y) := W2.out.past h1
              have BW : Hid (OpAt v6 ob 0 op) := BZ.out.past h1
              clear h1
              (try go_wp2_with fail)
              refine hK.out _ _ ⟨W3.out, BW.out⟩ (fun _ => ?_)
              clear hK K
              (try simp only [Act.put, List.setIfInBounds_toArray, List.set_cons_zero, List.set_cons_succ])
              refine wpAnyH_take (i := 8) (v := .bool false) ov8 (by kernel_rfl) (by kernel_rfl) (by kernel_rfl) (fun _ _ _ h => h) (Or.inl ⟨by rfl, fun V' hS => ?_⟩) ⟨W3.out, BW.out⟩ ?_
              · have hq := eqw_self y.a y.b y.c y.d V'
                go_simp
              simp only [Act.put, List.setIfInBounds_toArray, List.set_cons_zero, List.set_cons_succ]
              refine wpAnyH_take (i := 9) (v := .bool false) ov9 (by kernel_rfl) (by kernel_rfl) (by kernel_rfl) (fun _ _ _ h => h) (Or.inl ⟨by rfl, fun V' hS => ?_⟩) ⟨W3.out, BW.out⟩ ?_
              · go_simp
              simp only [Act.put, List.setIfInBounds_toArray, List.set_cons_zero, List.set_cons_succ]
              refine wpAnyH_done (by kernel_rfl) ?_ _
              go_wp2
              go_meet
              case rel => exact ⟨rfl, f, n, A5.out, ⟨by omega, by omega⟩⟩
        replace h3 : (kd == 3) = false := by simpa using h3
        by_cases h9 : kd = 9
        · rw [h9] at k0 ⊢
          clear h9
          by_cases hN : N < 1
          · obtain ⟨y, ey⟩ : ∃ y, w0 = y := ⟨_, rfl⟩
            have PS : Hid (Calls Try.prog 28 #[.pointer (some ⟨b, 0, none⟩), .int .i64 N] v3 fun e w' => e = .returned (.tuple #[y.v, .int .i64 1]) ∧ Below v3.heap.size v3 w') := by
              have h := at_is v3 b f n N A2.out.s
              rw [show oAtW f n N = y by unfold oAtW; rw [if_pos (Or.inl hN)]; exact ey, show oAtE n N = 1 by unfold oAtE; rw [if_pos hN]] at h
              exact h
            clear ey
            go_upto_region 22 with (go_at_call 28; refine (PS.out).mono ?_; rintro e v4 ⟨rfl, h1⟩; (have A3 : Hid (AL w v4 b c f f n n) := A2.out.past h1); (have BY : Hid (OpAt v4 ob 0 op) := BX.out.past h1); clear h1 PS A2 BX k0 k2 k3 x0 x1 x2 x3; unfold W4.v)
            have CX : Hid (v4.heap.size ≠ c) := by have h2 := A3.out.t.lt; unfold Hid; omega
            have W1 : Hid (Wd (v4.alloc (.cells #[.int .u64 y.a, .int .u64 y.b, .int .u64 y.c, .int .u64 y.d] 30)) v4.heap.size 0 y) := Wd.new v4 _ y
            replace A3 : Hid (AL w (v4.alloc (.cells #[.int .u64 y.a, .int .u64 y.b, .int .u64 y.c, .int .u64 y.d] 30)) b c f f n n) := A3.out.past ((Below.refl _ _).alloc (Nat.le_refl _) _)
            replace BY : Hid (OpAt (v4.alloc (.cells #[.int .u64 y.a, .int .u64 y.b, .int .u64 y.c, .int .u64 y.d] 30)) ob 0 op) := BY.out.past ((Below.refl _ _).alloc (Nat.le_refl _) _)
            have hbxc : Hid (v4.heap.size ≠ c) := CX.out
            generalize v4.alloc (.cells #[.int .u64 y.a, .int .u64 y.b, .int .u64 y.c, .int .u64 y.d] 30) = v5 at A3 W1 BY ⊢
            generalize v4.heap.size = bx at W1 hbxc ⊢
            clear CX
            have W2 : Hid (Wd v5.drew bx 0 y) := W1.out.drew
            have A4 : Hid (AL w v5.drew b c f f n n) := A3.out.past ((Below.refl _ _).drew)
            have BZ : Hid (OpAt v5.drew ob 0 op) := BY.out.past ((Below.refl _ _).drew)
            clear W1 A3 BY
            refine wp_region_held_drew (S := fun V' => Wd V' bx 0 y ∧ OpAt V' ob 0 op) (by kernel_rfl) ⟨W2.out, BZ.out⟩ (fun hHeld => ?_)
            generalize v5.drew = z0 at hHeld A4 W2 BZ ⊢
            refine wpAnyH_take (i := 0) (v := .int .i64 1) ov0 (by kernel_rfl) (by kernel_rfl) (by kernel_rfl) (fun _ _ _ h => h) (Or.inl ⟨by rfl, fun V' hS => ?_⟩) hHeld ?_
            · go_simp
            simp only [Act.put, List.setIfInBounds_toArray, List.set_cons_zero, List.set_cons_succ]
            refine wpAnyH_take (i := 1) (v := .bool false) ov1 (by kernel_rfl) (by kernel_rfl) (by kernel_rfl) (fun _ _ _ h => h) (Or.inl ⟨by rfl, fun V' hS => ?_⟩) hHeld ?_
            · go_simp
            simp only [Act.put, List.setIfInBounds_toArray, List.set_cons_zero, List.set_cons_succ]
            refine wpAnyH_take (i := 2) (v := .bool false) ov2 (by kernel_rfl) (by kernel_rfl) (by kernel_rfl) (fun _ _ _ h => h) (Or.inl ⟨by rfl, fun V' hS => ?_⟩) hHeld ?_
            · go_simp
            simp only [Act.put, List.setIfInBounds_toArray, List.set_cons_zero, List.set_cons_succ]
            refine wpAnyH_take (i := 3) (v := undef) ov3 (by kernel_rfl) (by kernel_rfl) (by kernel_rfl) (fun _ _ _ h => h) (Or.inr ⟨by rfl, rfl⟩) hHeld ?_
            simp only [Act.put, List.setIfInBounds_toArray, List.set_cons_zero, List.set_cons_succ]
            refine wpAnyH_take (i := 4) (v := undef) ov4 (by kernel_rfl) (by kernel_rfl) (by kernel_rfl) (fun _ _ _ h => h) (Or.inr ⟨by rfl, rfl⟩) hHeld ?_
            simp only [Act.put, List.setIfInBounds_toArray, List.set_cons_zero, List.set_cons_succ]
            refine wpAnyH_take (i := 5) (v := undef) ov5 (by kernel_rfl) (by kernel_rfl) (by kernel_rfl) (fun _ _ _ h => h) (Or.inr ⟨by rfl, rfl⟩) hHeld ?_
            simp only [Act.put, List.setIfInBounds_toArray, List.set_cons_zero, List.set_cons_succ]
            refine wpAnyH_take (i := 6) (v := undef) ov6 (by kernel_rfl) (by kernel_rfl) (by kernel_rfl) (fun _ _ _ h => h) (Or.inr ⟨by rfl, rfl⟩) hHeld ?_
            simp only [Act.put, List.setIfInBounds_toArray, List.set_cons_zero, List.set_cons_succ]
            refine wpAnyH_take (i := 7) (v := undef) ov7 (by kernel_rfl) (by kernel_rfl) (by kernel_rfl) (fun _ _ _ h => h) (Or.inr ⟨by rfl, rfl⟩) hHeld ?_
            simp only [Act.put, List.setIfInBounds_toArray, List.set_cons_zero, List.set_cons_succ]
            refine wpAnyH_take (i := 8) (v := undef) ov8 (by kernel_rfl) (by kernel_rfl) (by kernel_rfl) (fun _ _ _ h => h) (Or.inr ⟨by rfl, rfl⟩) hHeld ?_
            simp only [Act.put, List.setIfInBounds_toArray, List.set_cons_zero, List.set_cons_succ]
            refine wpAnyH_take (i := 9) (v := .bool false) ov9 (by kernel_rfl) (by kernel_rfl) (by kernel_rfl) (fun _ _ _ h => h) (Or.inl ⟨by rfl, fun V' hS => ?_⟩) hHeld ?_
            · go_simp
            simp only [Act.put, List.setIfInBounds_toArray, List.set_cons_zero, List.set_cons_succ]
            refine wpAnyH_done (by kernel_rfl) ?_ _
            go_wp2
            go_meet
            case rel => exact ⟨rfl, f, n, A4.out, ⟨by omega, by omega⟩⟩
          · by_cases hN2 : n < N
            · obtain ⟨y, ey⟩ : ∃ y, w0 = y := ⟨_, rfl⟩
              have PS : Hid (Calls Try.prog 28 #[.pointer (some ⟨b, 0, none⟩), .int .i64 N] v3 fun e w' => e = .returned (.tuple #[y.v, .int .i64 90]) ∧ Below v3.heap.size v3 w') := by
                have h := at_is v3 b f n N A2.out.s
                rw [show oAtW f n N = y by unfold oAtW; rw [if_pos (Or.inr hN2)]; exact ey, show oAtE n N = 90 by unfold oAtE; rw [if_neg hN, if_pos hN2]] at h
                exact h
              clear ey
              go_upto_region 22 with (go_at_call 28; refine (PS.out).mono ?_; rintro e v4 ⟨rfl, h1⟩; (have A3 : Hid (AL w v4 b c f f n n) := A2.out.past h1); (have BY : Hid (OpAt v4 ob 0 op) := BX.out.past h1); clear h1 PS A2 BX k0 k2 k3 x0 x1 x2 x3; unfold W4.v)
              have CX : Hid (v4.heap.size ≠ c) := by have h2 := A3.out.t.lt; unfold Hid; omega
              have W1 : Hid (Wd (v4.alloc (.cells #[.int .u64 y.a, .int .u64 y.b, .int .u64 y.c, .int .u64 y.d] 30)) v4.heap.size 0 y) := Wd.new v4 _ y
              replace A3 : Hid (AL w (v4.alloc (.cells #[.int .u64 y.a, .int .u64 y.b, .int .u64 y.c, .int .u64 y.d] 30)) b c f f n n) := A3.out.past ((Below.refl _ _).alloc (Nat.le_refl _) _)
              replace BY : Hid (OpAt (v4.alloc (.cells #[.int .u64 y.a, .int .u64 y.b, .int .u64 y.c, .int .u64 y.d] 30)) ob 0 op) := BY.out.past ((Below.refl _ _).alloc (Nat.le_refl _) _)
              have hbxc : Hid (v4.heap.size ≠ c) := CX.out
              generalize v4.alloc (.cells #[.int .u64 y.a, .int .u64 y.b, .int .u64 y.c, .int .u64 y.d] 30) = v5 at A3 W1 BY ⊢
              generalize v4.heap.size = bx at W1 hbxc ⊢
              clear CX
              have W2 : Hid (Wd v5.drew bx 0 y) := W1.out.drew
              have A4 : Hid (AL w v5.drew b c f f n n) := A3.out.past ((Below.refl _ _).drew)
              have BZ : Hid (OpAt v5.drew ob 0 op) := BY.out.past ((Below.refl _ _).drew)
              clear W1 A3 BY
              refine wp_region_held_drew (S := fun V' => Wd V' bx 0 y ∧ OpAt V' ob 0 op) (by kernel_rfl) ⟨W2.out, BZ.out⟩ (fun hHeld => ?_)
              generalize v5.drew = z0 at hHeld A4 W2 BZ ⊢
              refine wpAnyH_take (i := 0) (v := .int .i64 90) ov0 (by kernel_rfl) (by kernel_rfl) (by kernel_rfl) (fun _ _ _ h => h) (Or.inl ⟨by rfl, fun V' hS => ?_⟩) hHeld ?_
              · go_simp
              simp only [Act.put, List.setIfInBounds_toArray, List.set_cons_zero, List.set_cons_succ]
              refine wpAnyH_take (i := 1) (v := .bool false) ov1 (by kernel_rfl) (by kernel_rfl) (by kernel_rfl) (fun _ _ _ h => h) (Or.inl ⟨by rfl, fun V' hS => ?_⟩) hHeld ?_
              · go_simp
              simp only [Act.put, List.setIfInBounds_toArray, List.set_cons_zero, List.set_cons_succ]
              refine wpAnyH_take (i := 2) (v := .bool false) ov2 (by kernel_rfl) (by kernel_rfl) (by kernel_rfl) (fun _ _ _ h => h) (Or.inl ⟨by rfl, fun V' hS => ?_⟩) hHeld ?_
              · go_simp
              simp only [Act.put, List.setIfInBounds_toArray, List.set_cons_zero, List.set_cons_succ]
              refine wpAnyH_take (i := 3) (v := undef) ov3 (by kernel_rfl) (by kernel_rfl) (by kernel_rfl) (fun _ _ _ h => h) (Or.inr ⟨by rfl, rfl⟩) hHeld ?_
              simp only [Act.put, List.setIfInBounds_toArray, List.set_cons_zero, List.set_cons_succ]
              refine wpAnyH_take (i := 4) (v := undef) ov4 (by kernel_rfl) (by kernel_rfl) (by kernel_rfl) (fun _ _ _ h => h) (Or.inr ⟨by rfl, rfl⟩) hHeld ?_
              simp only [Act.put, List.setIfInBounds_toArray, List.set_cons_zero, List.set_cons_succ]
              refine wpAnyH_take (i := 5) (v := undef) ov5 (by kernel_rfl) (by kernel_rfl) (by kernel_rfl) (fun _ _ _ h => h) (Or.inr ⟨by rfl, rfl⟩) hHeld ?_
              simp only [Act.put, List.setIfInBounds_toArray, List.set_cons_zero, List.set_cons_succ]
              refine wpAnyH_take (i := 6) (v := undef) ov6 (by kernel_rfl) (by kernel_rfl) (by kernel_rfl) (fun _ _ _ h => h) (Or.inr ⟨by rfl, rfl⟩) hHeld ?_
              simp only [Act.put, List.setIfInBounds_toArray, List.set_cons_zero, List.set_cons_succ]
              refine wpAnyH_take (i := 7) (v := undef) ov7 (by kernel_rfl) (by kernel_rfl) (by kernel_rfl) (fun _ _ _ h => h) (Or.inr ⟨by rfl, rfl⟩) hHeld ?_
              simp only [Act.put, List.setIfInBounds_toArray, List.set_cons_zero, List.set_cons_succ]
              refine wpAnyH_take (i := 8) (v := undef) ov8 (by kernel_rfl) (by kernel_rfl) (by kernel_rfl) (fun _ _ _ h => h) (Or.inr ⟨by rfl, rfl⟩) hHeld ?_
              simp only [Act.put, List.setIfInBounds_toArray, List.set_cons_zero, List.set_cons_succ]
              refine wpAnyH_take (i := 9) (v := .bool false) ov9 (by kernel_rfl) (by kernel_rfl) (by kernel_rfl) (fun _ _ _ h => h) (Or.inl ⟨by rfl, fun V' hS => ?_⟩) hHeld ?_
              · go_simp
              simp only [Act.put, List.setIfInBounds_toArray, List.set_cons_zero, List.set_cons_succ]
              refine wpAnyH_done (by kernel_rfl) ?_ _
              go_wp2
              go_meet
              case rel => exact ⟨rfl, f, n, A4.out, ⟨by omega, by omega⟩⟩
            · obtain ⟨y, ey⟩ : ∃ y, f (pl (n - N)) = y := ⟨_, rfl⟩
              have PS : Hid (Calls Try.prog 28 #[.pointer (some ⟨b, 0, none⟩), .int .i64 N] v3 fun e w' => e = .returned (.tuple #[y.v, .int .i64 0]) ∧ Below v3.heap.size v3 w') := by
                have h := at_is v3 b f n N A2.out.s
                rw [show oAtW f n N = y by unfold oAtW; rw [if_neg (by omega)]; exact ey, show oAtE n N = 0 by unfold oAtE; rw [if_neg hN, if_neg hN2]] at h
                exact h
              have PT : Hid (∀ W, Stk W c 0 4096 f n → Calls Try.prog 39 #[.pointer (some ⟨c, 0, none⟩), .int .i64 N] W fun e w' => e = .returned y.v ∧ Below W.heap.size W w') := fun W hW => by rw [← ey]; exact peek_is W c f n N hW
              clear ey
              go_upto_region 22 with (go_at_call 28; refine (PS.out).mono ?_; rintro e v4 ⟨rfl, h1⟩; (have A3 : Hid (AL w v4 b c f f n n) := A2.out.past h1); (have BY : Hid (OpAt v4 ob 0 op) := BX.out.past h1); clear h1 PS A2 BX k0 k2 k3 x0 x1 x2 x3; unfold W4.v)
              have CX : Hid (v4.heap.size ≠ c) := by have h2 := A3.out.t.lt; unfold Hid; omega
              have W1 : Hid (Wd (v4.alloc (.cells #[.int .u64 y.a, .int .u64 y.b, .int .u64 y.c, .int .u64 y.d] 30)) v4.heap.size 0 y) := Wd.new v4 _ y
              replace A3 : Hid (AL w (v4.alloc (.cells #[.int .u64 y.a, .int .u64 y.b, .int .u64 y.c, .int .u64 y.d] 30)) b c f f n n) := A3.out.past ((Below.refl _ _).alloc (Nat.le_refl _) _)
              replace BY : Hid (OpAt (v4.alloc (.cells #[.int .u64 y.a, .int .u64 y.b, .int .u64 y.c, .int .u64 y.d] 30)) ob 0 op) := BY.out.past ((Below.refl _ _).alloc (Nat.le_refl _) _)
              have hbxc : Hid (v4.heap.size ≠ c) := CX.out
              generalize v4.alloc (.cells #[.int .u64 y.a, .int .u64 y.b, .int .u64 y.c, .int .u64 y.d] 30) = v5 at A3 W1 BY ⊢
              generalize v4.heap.size = bx at W1 hbxc ⊢
              clear CX
              have W2 : Hid (Wd v5.drew bx 0 y) := W1.out.drew
              have A4 : Hid (AL w v5.drew b c f f n n) := A3.out.past ((Below.refl _ _).drew)
              have BZ : Hid (OpAt v5.drew ob 0 op) := BY.out.past ((Below.refl _ _).drew)
              clear W1 A3 BY
              refine wp_region_held_drew (S := fun V' => Wd V' bx 0 y ∧ OpAt V' ob 0 op) (by kernel_rfl) ⟨W2.out, BZ.out⟩ (fun hHeld => ?_)
              generalize v5.drew = z0 at hHeld A4 W2 BZ ⊢
              refine wpAnyH_take (i := 0) (v := .int .i64 0) ov0 (by kernel_rfl) (by kernel_rfl) (by kernel_rfl) (fun _ _ _ h => h) (Or.inl ⟨by rfl, fun V' hS => ?_⟩) hHeld ?_
              · go_simp
              simp only [Act.put, List.setIfInBounds_toArray, List.set_cons_zero, List.set_cons_succ]
              refine wpAnyH_take (i := 1) (v := .bool true) ov1 (by kernel_rfl) (by kernel_rfl) (by kernel_rfl) (fun _ _ _ h => h) (Or.inl ⟨by rfl, fun V' hS => ?_⟩) hHeld ?_
              · go_simp
              simp only [Act.put, List.setIfInBounds_toArray, List.set_cons_zero, List.set_cons_succ]
              refine wpAnyH_take (i := 2) (v := .bool true) ov2 (by kernel_rfl) (by kernel_rfl) (by kernel_rfl) (fun _ _ _ h => h) (Or.inl ⟨by rfl, fun V' hS => ?_⟩) hHeld ?_
              · go_simp
              simp only [Act.put, List.setIfInBounds_toArray, List.set_cons_zero, List.set_cons_succ]
              refine wpAnyH_take (i := 3) (v := .pointer (some ⟨c, 0, none⟩)) ov3 (by kernel_rfl) (by kernel_rfl) (by kernel_rfl) (fun _ _ _ h => h) (Or.inl ⟨by rfl, fun V' hS => ?_⟩) hHeld ?_
              · go_simp
              simp only [Act.put, List.setIfInBounds_toArray, List.set_cons_zero, List.set_cons_succ]
              refine wpAnyH_take (i := 4) (v := .pointer (some ⟨ob, 2, none⟩)) ov4 (by kernel_rfl) (by kernel_rfl) (by kernel_rfl) (fun _ _ _ h => h) (Or.inl ⟨by rfl, fun V' hS => ?_⟩) hHeld ?_
              · go_simp
              simp only [Act.put, List.setIfInBounds_toArray, List.set_cons_zero, List.set_cons_succ]
              refine wpAnyH_take (i := 5) (v := .int .i64 N) ov5 (by kernel_rfl) (by kernel_rfl) (by kernel_rfl) (fun _ _ _ h => h) (Or.inl ⟨by rfl, fun V' hS => ?_⟩) hHeld ?_
              · have e0 : V'.cell? ⟨ob, 2, none⟩ = some (.int .i64 N) := hS.2 2 _ (by rw [← EN.out]; rfl)
                go_simp
              simp only [Act.put, List.setIfInBounds_toArray, List.set_cons_zero, List.set_cons_succ]
              refine wpAnyH_take (i := 7) (v := .agg #[.int .u64 y.a, .int .u64 y.b, .int .u64 y.c, .int .u64 y.d]) ov7 (by kernel_rfl) (by kernel_rfl) (by kernel_rfl) (fun _ _ _ h => h) (Or.inl ⟨by rfl, fun V' hS => ?_⟩) hHeld ?_
              · obtain ⟨e0, e1, e2, e3, _⟩ := hS.1
                go_simp
              simp only [Act.put, List.setIfInBounds_toArray, List.set_cons_zero, List.set_cons_succ]
              refine wpAnyH_ready (rs := [6]) (by kernel_rfl) (by simp) ?_
              refine AllReadyH.cons ov6 (fun K hK => ?_) AllReadyH.nil
              rw [if_pos (by rfl)]
              go_simp
              refine (PT.out z0 A4.out.t).mono ?_
              rintro e v6 ⟨rfl, h1⟩
              unfold W4.v
              have A5 : Hid (AL w v6 b c f f n n) := A4.out.past h1
              have W3 : Hid (Wd v6 bx 0 y) := W2.out.past h1
              have BW : Hid (OpAt v6 ob 0 op) := BZ.out.past h1
              clear h1
              (try go_wp2_with fail)
              refine hK.out _ _ ⟨W3.out, BW.out⟩ (fun _ => ?_)
              clear hK K
              (try simp only [Act.put, List.setIfInBounds_toArray, List.set_cons_zero, List.set_cons_succ])
              refine wpAnyH_take (i := 8) (v := .bool false) ov8 (by kernel_rfl) (by kernel_rfl) (by kernel_rfl) (fun _ _ _ h => h) (Or.inl ⟨by rfl, fun V' hS => ?_⟩) ⟨W3.out, BW.out⟩ ?_
              · have hq := eqw_self y.a y.b y.c y.d V'
                go_simp
              simp only [Act.put, List.setIfInBounds_toArray, List.set_cons_zero, List.set_cons_succ]
              refine wpAnyH_take (i := 9) (v := .bool false) ov9 (by kernel_rfl) (by kernel_rfl) (by kernel_rfl) (fun _ _ _ h => h) (Or.inl ⟨by rfl, fun V' hS => ?_⟩) ⟨W3.out, BW.out⟩ ?_
              · go_simp
              simp only [Act.put, List.setIfInBounds_toArray, List.set_cons_zero, List.set_cons_succ]
              refine wpAnyH_done (by kernel_rfl) ?_ _
              go_wp2
              go_meet
              case rel => exact ⟨rfl, f, n, A5.out, ⟨by omega, by omega⟩⟩
        replace h9 : (kd == 9) = false := by simpa using h9
        by_cases h4 : kd = 4
        · rw [h4] at k0 ⊢
          clear h4
          by_cases hN : N < 1
          · have PS : Hid (Calls Try.prog 36 #[.pointer (some ⟨b, 0, none⟩), .int .i64 N] v3 fun e w' => e = .returned (.int .i64 1) ∧ Stk w' b 0 4096 f n ∧ Only b v3 w') := by
              have h := dup_is v3 b f n N A2.out.s
              rw [show oDup f n N = ⟨1, f, n⟩ by unfold oDup; rw [if_pos hN]] at h
              exact h
            go_wp2_with (go_at_call 36; refine (PS.out).mono ?_; rintro e v4 ⟨rfl, h1, h2⟩; (have A3 : Hid (AL w v4 b c f f n n) := A2.out.callS h1 h2); (have BY : Hid (OpAt v4 ob 0 op) := BX.out.only h2 hob1.out.1); clear h1 h2 PS A2 BX k0 k2 k3 x0 x1 x2 x3; (have k2 : v4.cell? ⟨ob, 2, none⟩ = some (.int .i64 N) := BY.out 2 _ (by rw [← EN.out]; rfl)); (have k3 : v4.cell? ⟨ob, 3, none⟩ = some (.int .i64 M) := BY.out 3 _ (by rw [← EM.out]; rfl)); (have x0 : v4.cell? ⟨ob, 5, none⟩ = some (.int .u64 X.a) := BY.out 5 _ (by rw [← EX.out]; rfl)); (have x1 : v4.cell? ⟨ob, 6, none⟩ = some (.int .u64 X.b) := BY.out 6 _ (by rw [← EX.out]; rfl)); (have x2 : v4.cell? ⟨ob, 7, none⟩ = some (.int .u64 X.c) := BY.out 7 _ (by rw [← EX.out]; rfl)); (have x3 : v4.cell? ⟨ob, 8, none⟩ = some (.int .u64 X.d) := BY.out 8 _ (by rw [← EX.out]; rfl)))
            go_meet
            case rel => exact ⟨rfl, f, n, A3.out, ⟨n0', n1'⟩⟩
          · by_cases hN2 : n < N
            · have PS : Hid (Calls Try.prog 36 #[.pointer (some ⟨b, 0, none⟩), .int .i64 N] v3 fun e w' => e = .returned (.int .i64 90) ∧ Stk w' b 0 4096 f n ∧ Only b v3 w') := by
                have h := dup_is v3 b f n N A2.out.s
                rw [show oDup f n N = ⟨90, f, n⟩ by unfold oDup; rw [if_neg hN, if_pos hN2]] at h
                exact h
              go_wp2_with (go_at_call 36; refine (PS.out).mono ?_; rintro e v4 ⟨rfl, h1, h2⟩; (have A3 : Hid (AL w v4 b c f f n n) := A2.out.callS h1 h2); (have BY : Hid (OpAt v4 ob 0 op) := BX.out.only h2 hob1.out.1); clear h1 h2 PS A2 BX k0 k2 k3 x0 x1 x2 x3; (have k2 : v4.cell? ⟨ob, 2, none⟩ = some (.int .i64 N) := BY.out 2 _ (by rw [← EN.out]; rfl)); (have k3 : v4.cell? ⟨ob, 3, none⟩ = some (.int .i64 M) := BY.out 3 _ (by rw [← EM.out]; rfl)); (have x0 : v4.cell? ⟨ob, 5, none⟩ = some (.int .u64 X.a) := BY.out 5 _ (by rw [← EX.out]; rfl)); (have x1 : v4.cell? ⟨ob, 6, none⟩ = some (.int .u64 X.b) := BY.out 6 _ (by rw [← EX.out]; rfl)); (have x2 : v4.cell? ⟨ob, 7, none⟩ = some (.int .u64 X.c) := BY.out 7 _ (by rw [← EX.out]; rfl)); (have x3 : v4.cell? ⟨ob, 8, none⟩ = some (.int .u64 X.d) := BY.out 8 _ (by rw [← EX.out]; rfl)))
              go_meet
              case rel => exact ⟨rfl, f, n, A3.out, ⟨n0', n1'⟩⟩
            · by_cases hf : 1024 ≤ n
              · have PS : Hid (Calls Try.prog 36 #[.pointer (some ⟨b, 0, none⟩), .int .i64 N] v3 fun e w' => e = .returned (.int .i64 91) ∧ Stk w' b 0 4096 f n ∧ Only b v3 w') := by
                  have h := dup_is v3 b f n N A2.out.s
                  rw [show oDup f n N = ⟨91, f, n⟩ by unfold oDup oPush; rw [if_neg hN, if_neg hN2, if_pos hf]] at h
                  exact h
                go_wp2_with (go_at_call 36; refine (PS.out).mono ?_; rintro e v4 ⟨rfl, h1, h2⟩; (have A3 : Hid (AL w v4 b c f f n n) := A2.out.callS h1 h2); (have BY : Hid (OpAt v4 ob 0 op) := BX.out.only h2 hob1.out.1); clear h1 h2 PS A2 BX k0 k2 k3 x0 x1 x2 x3; (have k2 : v4.cell? ⟨ob, 2, none⟩ = some (.int .i64 N) := BY.out 2 _ (by rw [← EN.out]; rfl)); (have k3 : v4.cell? ⟨ob, 3, none⟩ = some (.int .i64 M) := BY.out 3 _ (by rw [← EM.out]; rfl)); (have x0 : v4.cell? ⟨ob, 5, none⟩ = some (.int .u64 X.a) := BY.out 5 _ (by rw [← EX.out]; rfl)); (have x1 : v4.cell? ⟨ob, 6, none⟩ = some (.int .u64 X.b) := BY.out 6 _ (by rw [← EX.out]; rfl)); (have x2 : v4.cell? ⟨ob, 7, none⟩ = some (.int .u64 X.c) := BY.out 7 _ (by rw [← EX.out]; rfl)); (have x3 : v4.cell? ⟨ob, 8, none⟩ = some (.int .u64 X.d) := BY.out 8 _ (by rw [← EX.out]; rfl)))
                go_meet
                case rel => exact ⟨rfl, f, n, A3.out, ⟨n0', n1'⟩⟩
              · have PS : Hid (Calls Try.prog 36 #[.pointer (some ⟨b, 0, none⟩), .int .i64 N] v3 fun e w' => e = .returned (.int .i64 0) ∧ Stk w' b 0 4096 (rput f (pl n) (f (pl (n - N)))) (n + 1) ∧ Only b v3 w') := by
                  have h := dup_is v3 b f n N A2.out.s
                  rw [show oDup f n N = ⟨0, (rput f (pl n) (f (pl (n - N)))), (n + 1)⟩ by unfold oDup oPush; rw [if_neg hN, if_neg hN2, if_neg hf, wu.out]] at h
                  exact h
                have PT : Hid (∀ W, Stk W c 0 4096 f n → Calls Try.prog 40 #[.pointer (some ⟨c, 0, none⟩), .int .i64 N] W fun e w' => e = .returned (.tuple #[]) ∧ Stk w' c 0 4096 (rput f (pl n) (f (pl (n - N)))) (n + 1) ∧ Only c W w') := fun W hW => by
                  have h := again_is W c f n N hW
                  rw [wu.out] at h
                  exact h
                go_wp2_with (first | (go_at_call 36; refine (PS.out).mono ?_; rintro e v4 ⟨rfl, h1, h2⟩; (have A3 : Hid (AL w v4 b c (rput f (pl n) (f (pl (n - N)))) f (n + 1) n) := A2.out.callS h1 h2); (have BY : Hid (OpAt v4 ob 0 op) := BX.out.only h2 hob1.out.1); clear h1 h2 PS A2 BX k0 k2 k3 x0 x1 x2 x3; (have k2 : v4.cell? ⟨ob, 2, none⟩ = some (.int .i64 N) := BY.out 2 _ (by rw [← EN.out]; rfl)); (have k3 : v4.cell? ⟨ob, 3, none⟩ = some (.int .i64 M) := BY.out 3 _ (by rw [← EM.out]; rfl)); (have x0 : v4.cell? ⟨ob, 5, none⟩ = some (.int .u64 X.a) := BY.out 5 _ (by rw [← EX.out]; rfl)); (have x1 : v4.cell? ⟨ob, 6, none⟩ = some (.int .u64 X.b) := BY.out 6 _ (by rw [← EX.out]; rfl)); (have x2 : v4.cell? ⟨ob, 7, none⟩ = some (.int .u64 X.c) := BY.out 7 _ (by rw [← EX.out]; rfl)); (have x3 : v4.cell? ⟨ob, 8, none⟩ = some (.int .u64 X.d) := BY.out 8 _ (by rw [← EX.out]; rfl))) | (go_at_call 40; refine (PT.out _ A3.out.t).mono ?_; rintro e v5 ⟨rfl, h1, h2⟩; (have A4 : Hid (AL w v5 b c (rput f (pl n) (f (pl (n - N)))) (rput f (pl n) (f (pl (n - N)))) (n + 1) (n + 1)) := A3.out.callT h1 h2); clear h1 h2 PT A3))
                go_meet
                case rel => exact ⟨rfl, (rput f (pl n) (f (pl (n - N)))), (n + 1), A4.out, ⟨by omega, by omega⟩⟩
        replace h4 : (kd == 4) = false := by simpa using h4
        by_cases h10 : kd = 10
        · rw [h10] at k0 ⊢
          clear h10
          by_cases hN : N < 1
          · have PS : Hid (Calls Try.prog 36 #[.pointer (some ⟨b, 0, none⟩), .int .i64 N] v3 fun e w' => e = .returned (.int .i64 1) ∧ Stk w' b 0 4096 f n ∧ Only b v3 w') := by
              have h := dup_is v3 b f n N A2.out.s
              rw [show oDup f n N = ⟨1, f, n⟩ by unfold oDup; rw [if_pos hN]] at h
              exact h
            go_wp2_with (go_at_call 36; refine (PS.out).mono ?_; rintro e v4 ⟨rfl, h1, h2⟩; (have A3 : Hid (AL w v4 b c f f n n) := A2.out.callS h1 h2); (have BY : Hid (OpAt v4 ob 0 op) := BX.out.only h2 hob1.out.1); clear h1 h2 PS A2 BX k0 k2 k3 x0 x1 x2 x3; (have k2 : v4.cell? ⟨ob, 2, none⟩ = some (.int .i64 N) := BY.out 2 _ (by rw [← EN.out]; rfl)); (have k3 : v4.cell? ⟨ob, 3, none⟩ = some (.int .i64 M) := BY.out 3 _ (by rw [← EM.out]; rfl)); (have x0 : v4.cell? ⟨ob, 5, none⟩ = some (.int .u64 X.a) := BY.out 5 _ (by rw [← EX.out]; rfl)); (have x1 : v4.cell? ⟨ob, 6, none⟩ = some (.int .u64 X.b) := BY.out 6 _ (by rw [← EX.out]; rfl)); (have x2 : v4.cell? ⟨ob, 7, none⟩ = some (.int .u64 X.c) := BY.out 7 _ (by rw [← EX.out]; rfl)); (have x3 : v4.cell? ⟨ob, 8, none⟩ = some (.int .u64 X.d) := BY.out 8 _ (by rw [← EX.out]; rfl)))
            go_meet
            case rel => exact ⟨rfl, f, n, A3.out, ⟨n0', n1'⟩⟩
          · by_cases hN2 : n < N
            · have PS : Hid (Calls Try.prog 36 #[.pointer (some ⟨b, 0, none⟩), .int .i64 N] v3 fun e w' => e = .returned (.int .i64 90) ∧ Stk w' b 0 4096 f n ∧ Only b v3 w') := by
                have h := dup_is v3 b f n N A2.out.s
                rw [show oDup f n N = ⟨90, f, n⟩ by unfold oDup; rw [if_neg hN, if_pos hN2]] at h
                exact h
              go_wp2_with (go_at_call 36; refine (PS.out).mono ?_; rintro e v4 ⟨rfl, h1, h2⟩; (have A3 : Hid (AL w v4 b c f f n n) := A2.out.callS h1 h2); (have BY : Hid (OpAt v4 ob 0 op) := BX.out.only h2 hob1.out.1); clear h1 h2 PS A2 BX k0 k2 k3 x0 x1 x2 x3; (have k2 : v4.cell? ⟨ob, 2, none⟩ = some (.int .i64 N) := BY.out 2 _ (by rw [← EN.out]; rfl)); (have k3 : v4.cell? ⟨ob, 3, none⟩ = some (.int .i64 M) := BY.out 3 _ (by rw [← EM.out]; rfl)); (have x0 : v4.cell? ⟨ob, 5, none⟩ = some (.int .u64 X.a) := BY.out 5 _ (by rw [← EX.out]; rfl)); (have x1 : v4.cell? ⟨ob, 6, none⟩ = some (.int .u64 X.b) := BY.out 6 _ (by rw [← EX.out]; rfl)); (have x2 : v4.cell? ⟨ob, 7, none⟩ = some (.int .u64 X.c) := BY.out 7 _ (by rw [← EX.out]; rfl)); (have x3 : v4.cell? ⟨ob, 8, none⟩ = some (.int .u64 X.d) := BY.out 8 _ (by rw [← EX.out]; rfl)))
              go_meet
              case rel => exact ⟨rfl, f, n, A3.out, ⟨n0', n1'⟩⟩
            · by_cases hf : 1024 ≤ n
              · have PS : Hid (Calls Try.prog 36 #[.pointer (some ⟨b, 0, none⟩), .int .i64 N] v3 fun e w' => e = .returned (.int .i64 91) ∧ Stk w' b 0 4096 f n ∧ Only b v3 w') := by
                  have h := dup_is v3 b f n N A2.out.s
                  rw [show oDup f n N = ⟨91, f, n⟩ by unfold oDup oPush; rw [if_neg hN, if_neg hN2, if_pos hf]] at h
                  exact h
                go_wp2_with (go_at_call 36; refine (PS.out).mono ?_; rintro e v4 ⟨rfl, h1, h2⟩; (have A3 : Hid (AL w v4 b c f f n n) := A2.out.callS h1 h2); (have BY : Hid (OpAt v4 ob 0 op) := BX.out.only h2 hob1.out.1); clear h1 h2 PS A2 BX k0 k2 k3 x0 x1 x2 x3; (have k2 : v4.cell? ⟨ob, 2, none⟩ = some (.int .i64 N) := BY.out 2 _ (by rw [← EN.out]; rfl)); (have k3 : v4.cell? ⟨ob, 3, none⟩ = some (.int .i64 M) := BY.out 3 _ (by rw [← EM.out]; rfl)); (have x0 : v4.cell? ⟨ob, 5, none⟩ = some (.int .u64 X.a) := BY.out 5 _ (by rw [← EX.out]; rfl)); (have x1 : v4.cell? ⟨ob, 6, none⟩ = some (.int .u64 X.b) := BY.out 6 _ (by rw [← EX.out]; rfl)); (have x2 : v4.cell? ⟨ob, 7, none⟩ = some (.int .u64 X.c) := BY.out 7 _ (by rw [← EX.out]; rfl)); (have x3 : v4.cell? ⟨ob, 8, none⟩ = some (.int .u64 X.d) := BY.out 8 _ (by rw [← EX.out]; rfl)))
                go_meet
                case rel => exact ⟨rfl, f, n, A3.out, ⟨n0', n1'⟩⟩
              · have PS : Hid (Calls Try.prog 36 #[.pointer (some ⟨b, 0, none⟩), .int .i64 N] v3 fun e w' => e = .returned (.int .i64 0) ∧ Stk w' b 0 4096 (rput f (pl n) (f (pl (n - N)))) (n + 1) ∧ Only b v3 w') := by
                  have h := dup_is v3 b f n N A2.out.s
                  rw [show oDup f n N = ⟨0, (rput f (pl n) (f (pl (n - N)))), (n + 1)⟩ by unfold oDup oPush; rw [if_neg hN, if_neg hN2, if_neg hf, wu.out]] at h
                  exact h
                have PT : Hid (∀ W, Stk W c 0 4096 f n → Calls Try.prog 40 #[.pointer (some ⟨c, 0, none⟩), .int .i64 N] W fun e w' => e = .returned (.tuple #[]) ∧ Stk w' c 0 4096 (rput f (pl n) (f (pl (n - N)))) (n + 1) ∧ Only c W w') := fun W hW => by
                  have h := again_is W c f n N hW
                  rw [wu.out] at h
                  exact h
                go_wp2_with (first | (go_at_call 36; refine (PS.out).mono ?_; rintro e v4 ⟨rfl, h1, h2⟩; (have A3 : Hid (AL w v4 b c (rput f (pl n) (f (pl (n - N)))) f (n + 1) n) := A2.out.callS h1 h2); (have BY : Hid (OpAt v4 ob 0 op) := BX.out.only h2 hob1.out.1); clear h1 h2 PS A2 BX k0 k2 k3 x0 x1 x2 x3; (have k2 : v4.cell? ⟨ob, 2, none⟩ = some (.int .i64 N) := BY.out 2 _ (by rw [← EN.out]; rfl)); (have k3 : v4.cell? ⟨ob, 3, none⟩ = some (.int .i64 M) := BY.out 3 _ (by rw [← EM.out]; rfl)); (have x0 : v4.cell? ⟨ob, 5, none⟩ = some (.int .u64 X.a) := BY.out 5 _ (by rw [← EX.out]; rfl)); (have x1 : v4.cell? ⟨ob, 6, none⟩ = some (.int .u64 X.b) := BY.out 6 _ (by rw [← EX.out]; rfl)); (have x2 : v4.cell? ⟨ob, 7, none⟩ = some (.int .u64 X.c) := BY.out 7 _ (by rw [← EX.out]; rfl)); (have x3 : v4.cell? ⟨ob, 8, none⟩ = some (.int .u64 X.d) := BY.out 8 _ (by rw [← EX.out]; rfl))) | (go_at_call 40; refine (PT.out _ A3.out.t).mono ?_; rintro e v5 ⟨rfl, h1, h2⟩; (have A4 : Hid (AL w v5 b c (rput f (pl n) (f (pl (n - N)))) (rput f (pl n) (f (pl (n - N)))) (n + 1) (n + 1)) := A3.out.callT h1 h2); clear h1 h2 PT A3))
                go_meet
                case rel => exact ⟨rfl, (rput f (pl n) (f (pl (n - N)))), (n + 1), A4.out, ⟨by omega, by omega⟩⟩
        replace h10 : (kd == 10) = false := by simpa using h10
        by_cases h5 : kd = 5
        · rw [h5] at k0 ⊢
          clear h5
          by_cases hN : N < 1
          · have PS : Hid (Calls Try.prog 33 #[.pointer (some ⟨b, 0, none⟩), .int .i64 N] v3 fun e w' => e = .returned (.int .i64 1) ∧ Stk w' b 0 4096 f n ∧ Only b v3 w') := by
              have h := swap_is v3 b f n N A2.out.s (by omega)
              rw [show oSwap f n N = ⟨1, f, n⟩ by unfold oSwap; rw [if_pos hN]] at h
              exact h
            go_wp2_with (go_at_call 33; refine (PS.out).mono ?_; rintro e v4 ⟨rfl, h1, h2⟩; (have A3 : Hid (AL w v4 b c f f n n) := A2.out.callS h1 h2); (have BY : Hid (OpAt v4 ob 0 op) := BX.out.only h2 hob1.out.1); clear h1 h2 PS A2 BX k0 k2 k3 x0 x1 x2 x3; (have k2 : v4.cell? ⟨ob, 2, none⟩ = some (.int .i64 N) := BY.out 2 _ (by rw [← EN.out]; rfl)); (have k3 : v4.cell? ⟨ob, 3, none⟩ = some (.int .i64 M) := BY.out 3 _ (by rw [← EM.out]; rfl)); (have x0 : v4.cell? ⟨ob, 5, none⟩ = some (.int .u64 X.a) := BY.out 5 _ (by rw [← EX.out]; rfl)); (have x1 : v4.cell? ⟨ob, 6, none⟩ = some (.int .u64 X.b) := BY.out 6 _ (by rw [← EX.out]; rfl)); (have x2 : v4.cell? ⟨ob, 7, none⟩ = some (.int .u64 X.c) := BY.out 7 _ (by rw [← EX.out]; rfl)); (have x3 : v4.cell? ⟨ob, 8, none⟩ = some (.int .u64 X.d) := BY.out 8 _ (by rw [← EX.out]; rfl)))
            go_meet
            case rel => exact ⟨rfl, f, n, A3.out, ⟨n0', n1'⟩⟩
          · by_cases hN2 : n ≤ N
            · have PS : Hid (Calls Try.prog 33 #[.pointer (some ⟨b, 0, none⟩), .int .i64 N] v3 fun e w' => e = .returned (.int .i64 90) ∧ Stk w' b 0 4096 f n ∧ Only b v3 w') := by
                have h := swap_is v3 b f n N A2.out.s (by omega)
                rw [show oSwap f n N = ⟨90, f, n⟩ by unfold oSwap; rw [if_neg hN, if_pos hN2]] at h
                exact h
              go_wp2_with (go_at_call 33; refine (PS.out).mono ?_; rintro e v4 ⟨rfl, h1, h2⟩; (have A3 : Hid (AL w v4 b c f f n n) := A2.out.callS h1 h2); (have BY : Hid (OpAt v4 ob 0 op) := BX.out.only h2 hob1.out.1); clear h1 h2 PS A2 BX k0 k2 k3 x0 x1 x2 x3; (have k2 : v4.cell? ⟨ob, 2, none⟩ = some (.int .i64 N) := BY.out 2 _ (by rw [← EN.out]; rfl)); (have k3 : v4.cell? ⟨ob, 3, none⟩ = some (.int .i64 M) := BY.out 3 _ (by rw [← EM.out]; rfl)); (have x0 : v4.cell? ⟨ob, 5, none⟩ = some (.int .u64 X.a) := BY.out 5 _ (by rw [← EX.out]; rfl)); (have x1 : v4.cell? ⟨ob, 6, none⟩ = some (.int .u64 X.b) := BY.out 6 _ (by rw [← EX.out]; rfl)); (have x2 : v4.cell? ⟨ob, 7, none⟩ = some (.int .u64 X.c) := BY.out 7 _ (by rw [← EX.out]; rfl)); (have x3 : v4.cell? ⟨ob, 8, none⟩ = some (.int .u64 X.d) := BY.out 8 _ (by rw [← EX.out]; rfl)))
              go_meet
              case rel => exact ⟨rfl, f, n, A3.out, ⟨n0', n1'⟩⟩
            · have hb1 : N + 1 ≤ 1024 := by omega
              have hb2 : 1 ≤ N := by omega
              have PS : Hid (Calls Try.prog 33 #[.pointer (some ⟨b, 0, none⟩), .int .i64 N] v3 fun e w' => e = .returned (.int .i64 0) ∧ Stk w' b 0 4096 (turnF f n 1 (N + 1)) n ∧ Only b v3 w') := by
                have h := swap_is v3 b f n N A2.out.s (by omega)
                rw [show oSwap f n N = ⟨0, (turnF f n 1 (N + 1)), n⟩ by unfold oSwap; rw [if_neg hN, if_neg hN2]] at h
                exact h
              have PT : Hid (∀ W, Stk W c 0 4096 f n → Calls Try.prog 34 #[.pointer (some ⟨c, 0, none⟩), .int .i64 1, .int .i64 (N + 1)] W fun e w' => e = .returned (.tuple #[]) ∧ Stk w' c 0 4096 (turnF f n 1 (N + 1)) n ∧ Only c W w') := fun W hW => by
                have h := turn_is W c f n 1 (N + 1) hW
                skip
                exact h
              go_wp2_with (first | (go_at_call 33; refine (PS.out).mono ?_; rintro e v4 ⟨rfl, h1, h2⟩; (have A3 : Hid (AL w v4 b c (turnF f n 1 (N + 1)) f n n) := A2.out.callS h1 h2); (have BY : Hid (OpAt v4 ob 0 op) := BX.out.only h2 hob1.out.1); clear h1 h2 PS A2 BX k0 k2 k3 x0 x1 x2 x3; (have k2 : v4.cell? ⟨ob, 2, none⟩ = some (.int .i64 N) := BY.out 2 _ (by rw [← EN.out]; rfl)); (have k3 : v4.cell? ⟨ob, 3, none⟩ = some (.int .i64 M) := BY.out 3 _ (by rw [← EM.out]; rfl)); (have x0 : v4.cell? ⟨ob, 5, none⟩ = some (.int .u64 X.a) := BY.out 5 _ (by rw [← EX.out]; rfl)); (have x1 : v4.cell? ⟨ob, 6, none⟩ = some (.int .u64 X.b) := BY.out 6 _ (by rw [← EX.out]; rfl)); (have x2 : v4.cell? ⟨ob, 7, none⟩ = some (.int .u64 X.c) := BY.out 7 _ (by rw [← EX.out]; rfl)); (have x3 : v4.cell? ⟨ob, 8, none⟩ = some (.int .u64 X.d) := BY.out 8 _ (by rw [← EX.out]; rfl))) | (go_at_call 34; refine (PT.out _ A3.out.t).mono ?_; rintro e v5 ⟨rfl, h1, h2⟩; (have A4 : Hid (AL w v5 b c (turnF f n 1 (N + 1)) (turnF f n 1 (N + 1)) n n) := A3.out.callT h1 h2); clear h1 h2 PT A3))
              go_meet
              case rel => exact ⟨rfl, (turnF f n 1 (N + 1)), n, A4.out, ⟨n0', n1'⟩⟩
        replace h5 : (kd == 5) = false := by simpa using h5
        by_cases h6 : kd = 6
        · rw [h6] at k0 ⊢
          clear h6
          by_cases hN : N < 1 ∨ M < 1
          · have PS : Hid (Calls Try.prog 35 #[.pointer (some ⟨b, 0, none⟩), .int .i64 N, .int .i64 M] v3 fun e w' => e = .returned (.int .i64 1) ∧ Stk w' b 0 4096 f n ∧ Only b v3 w') := by
              have h := exch_is v3 b f n N M A2.out.s (by omega)
              rw [show oExch f n N M = ⟨1, f, n⟩ by unfold oExch; rw [if_pos hN]] at h
              exact h
            go_wp2_with (go_at_call 35; refine (PS.out).mono ?_; rintro e v4 ⟨rfl, h1, h2⟩; (have A3 : Hid (AL w v4 b c f f n n) := A2.out.callS h1 h2); (have BY : Hid (OpAt v4 ob 0 op) := BX.out.only h2 hob1.out.1); clear h1 h2 PS A2 BX k0 k2 k3 x0 x1 x2 x3; (have k2 : v4.cell? ⟨ob, 2, none⟩ = some (.int .i64 N) := BY.out 2 _ (by rw [← EN.out]; rfl)); (have k3 : v4.cell? ⟨ob, 3, none⟩ = some (.int .i64 M) := BY.out 3 _ (by rw [← EM.out]; rfl)); (have x0 : v4.cell? ⟨ob, 5, none⟩ = some (.int .u64 X.a) := BY.out 5 _ (by rw [← EX.out]; rfl)); (have x1 : v4.cell? ⟨ob, 6, none⟩ = some (.int .u64 X.b) := BY.out 6 _ (by rw [← EX.out]; rfl)); (have x2 : v4.cell? ⟨ob, 7, none⟩ = some (.int .u64 X.c) := BY.out 7 _ (by rw [← EX.out]; rfl)); (have x3 : v4.cell? ⟨ob, 8, none⟩ = some (.int .u64 X.d) := BY.out 8 _ (by rw [← EX.out]; rfl)))
            go_meet
            case rel => exact ⟨rfl, f, n, A3.out, ⟨n0', n1'⟩⟩
          · by_cases hN2 : n ≤ N + M
            · have PS : Hid (Calls Try.prog 35 #[.pointer (some ⟨b, 0, none⟩), .int .i64 N, .int .i64 M] v3 fun e w' => e = .returned (.int .i64 90) ∧ Stk w' b 0 4096 f n ∧ Only b v3 w') := by
                have h := exch_is v3 b f n N M A2.out.s (by omega)
                rw [show oExch f n N M = ⟨90, f, n⟩ by unfold oExch; rw [if_neg hN, if_pos hN2]] at h
                exact h
              go_wp2_with (go_at_call 35; refine (PS.out).mono ?_; rintro e v4 ⟨rfl, h1, h2⟩; (have A3 : Hid (AL w v4 b c f f n n) := A2.out.callS h1 h2); (have BY : Hid (OpAt v4 ob 0 op) := BX.out.only h2 hob1.out.1); clear h1 h2 PS A2 BX k0 k2 k3 x0 x1 x2 x3; (have k2 : v4.cell? ⟨ob, 2, none⟩ = some (.int .i64 N) := BY.out 2 _ (by rw [← EN.out]; rfl)); (have k3 : v4.cell? ⟨ob, 3, none⟩ = some (.int .i64 M) := BY.out 3 _ (by rw [← EM.out]; rfl)); (have x0 : v4.cell? ⟨ob, 5, none⟩ = some (.int .u64 X.a) := BY.out 5 _ (by rw [← EX.out]; rfl)); (have x1 : v4.cell? ⟨ob, 6, none⟩ = some (.int .u64 X.b) := BY.out 6 _ (by rw [← EX.out]; rfl)); (have x2 : v4.cell? ⟨ob, 7, none⟩ = some (.int .u64 X.c) := BY.out 7 _ (by rw [← EX.out]; rfl)); (have x3 : v4.cell? ⟨ob, 8, none⟩ = some (.int .u64 X.d) := BY.out 8 _ (by rw [← EX.out]; rfl)))
              go_meet
              case rel => exact ⟨rfl, f, n, A3.out, ⟨n0', n1'⟩⟩
            · have hb1 : N + M + 1 ≤ 1024 := by omega
              have hb2 : 1 ≤ N := by omega
              have hb3 : 1 ≤ M := by omega
              have PS : Hid (Calls Try.prog 35 #[.pointer (some ⟨b, 0, none⟩), .int .i64 N, .int .i64 M] v3 fun e w' => e = .returned (.int .i64 0) ∧ Stk w' b 0 4096 (turnF f n (N + 1) (N + M + 1)) n ∧ Only b v3 w') := by
                have h := exch_is v3 b f n N M A2.out.s (by omega)
                rw [show oExch f n N M = ⟨0, (turnF f n (N + 1) (N + M + 1)), n⟩ by unfold oExch; rw [if_neg hN, if_neg hN2]] at h
                exact h
              have PT : Hid (∀ W, Stk W c 0 4096 f n → Calls Try.prog 34 #[.pointer (some ⟨c, 0, none⟩), .int .i64 (N + M + 1), .int .i64 (N + 1)] W fun e w' => e = .returned (.tuple #[]) ∧ Stk w' c 0 4096 (turnF f n (N + 1) (N + M + 1)) n ∧ Only c W w') := fun W hW => by
                have h := turn_is W c f n (N + M + 1) (N + 1) hW
                rw [show rput (rput f (pl (n - (N + M + 1))) (f (pl (n - (N + 1))))) (pl (n - (N + 1))) (f (pl (n - (N + M + 1)))) = turnF f n (N + 1) (N + M + 1) from turn_comm f n _ _] at h
                exact h
              go_wp2_with (first | (go_at_call 35; refine (PS.out).mono ?_; rintro e v4 ⟨rfl, h1, h2⟩; (have A3 : Hid (AL w v4 b c (turnF f n (N + 1) (N + M + 1)) f n n) := A2.out.callS h1 h2); (have BY : Hid (OpAt v4 ob 0 op) := BX.out.only h2 hob1.out.1); clear h1 h2 PS A2 BX k0 k2 k3 x0 x1 x2 x3; (have k2 : v4.cell? ⟨ob, 2, none⟩ = some (.int .i64 N) := BY.out 2 _ (by rw [← EN.out]; rfl)); (have k3 : v4.cell? ⟨ob, 3, none⟩ = some (.int .i64 M) := BY.out 3 _ (by rw [← EM.out]; rfl)); (have x0 : v4.cell? ⟨ob, 5, none⟩ = some (.int .u64 X.a) := BY.out 5 _ (by rw [← EX.out]; rfl)); (have x1 : v4.cell? ⟨ob, 6, none⟩ = some (.int .u64 X.b) := BY.out 6 _ (by rw [← EX.out]; rfl)); (have x2 : v4.cell? ⟨ob, 7, none⟩ = some (.int .u64 X.c) := BY.out 7 _ (by rw [← EX.out]; rfl)); (have x3 : v4.cell? ⟨ob, 8, none⟩ = some (.int .u64 X.d) := BY.out 8 _ (by rw [← EX.out]; rfl))) | (go_at_call 34; refine (PT.out _ A3.out.t).mono ?_; rintro e v5 ⟨rfl, h1, h2⟩; (have A4 : Hid (AL w v5 b c (turnF f n (N + 1) (N + M + 1)) (turnF f n (N + 1) (N + M + 1)) n n) := A3.out.callT h1 h2); clear h1 h2 PT A3))
              go_meet
              case rel => exact ⟨rfl, (turnF f n (N + 1) (N + M + 1)), n, A4.out, ⟨n0', n1'⟩⟩
        replace h6 : (kd == 6) = false := by simpa using h6
        by_cases h11 : kd = 11
        · rw [h11] at k0 ⊢
          clear h11
          by_cases hN : N < 1 ∨ M < 1
          · have PS : Hid (Calls Try.prog 35 #[.pointer (some ⟨b, 0, none⟩), .int .i64 N, .int .i64 M] v3 fun e w' => e = .returned (.int .i64 1) ∧ Stk w' b 0 4096 f n ∧ Only b v3 w') := by
              have h := exch_is v3 b f n N M A2.out.s (by omega)
              rw [show oExch f n N M = ⟨1, f, n⟩ by unfold oExch; rw [if_pos hN]] at h
              exact h
            go_wp2_with (go_at_call 35; refine (PS.out).mono ?_; rintro e v4 ⟨rfl, h1, h2⟩; (have A3 : Hid (AL w v4 b c f f n n) := A2.out.callS h1 h2); (have BY : Hid (OpAt v4 ob 0 op) := BX.out.only h2 hob1.out.1); clear h1 h2 PS A2 BX k0 k2 k3 x0 x1 x2 x3; (have k2 : v4.cell? ⟨ob, 2, none⟩ = some (.int .i64 N) := BY.out 2 _ (by rw [← EN.out]; rfl)); (have k3 : v4.cell? ⟨ob, 3, none⟩ = some (.int .i64 M) := BY.out 3 _ (by rw [← EM.out]; rfl)); (have x0 : v4.cell? ⟨ob, 5, none⟩ = some (.int .u64 X.a) := BY.out 5 _ (by rw [← EX.out]; rfl)); (have x1 : v4.cell? ⟨ob, 6, none⟩ = some (.int .u64 X.b) := BY.out 6 _ (by rw [← EX.out]; rfl)); (have x2 : v4.cell? ⟨ob, 7, none⟩ = some (.int .u64 X.c) := BY.out 7 _ (by rw [← EX.out]; rfl)); (have x3 : v4.cell? ⟨ob, 8, none⟩ = some (.int .u64 X.d) := BY.out 8 _ (by rw [← EX.out]; rfl)))
            go_meet
            case rel => exact ⟨rfl, f, n, A3.out, ⟨n0', n1'⟩⟩
          · by_cases hN2 : n ≤ N + M
            · have PS : Hid (Calls Try.prog 35 #[.pointer (some ⟨b, 0, none⟩), .int .i64 N, .int .i64 M] v3 fun e w' => e = .returned (.int .i64 90) ∧ Stk w' b 0 4096 f n ∧ Only b v3 w') := by
                have h := exch_is v3 b f n N M A2.out.s (by omega)
                rw [show oExch f n N M = ⟨90, f, n⟩ by unfold oExch; rw [if_neg hN, if_pos hN2]] at h
                exact h
              go_wp2_with (go_at_call 35; refine (PS.out).mono ?_; rintro e v4 ⟨rfl, h1, h2⟩; (have A3 : Hid (AL w v4 b c f f n n) := A2.out.callS h1 h2); (have BY : Hid (OpAt v4 ob 0 op) := BX.out.only h2 hob1.out.1); clear h1 h2 PS A2 BX k0 k2 k3 x0 x1 x2 x3; (have k2 : v4.cell? ⟨ob, 2, none⟩ = some (.int .i64 N) := BY.out 2 _ (by rw [← EN.out]; rfl)); (have k3 : v4.cell? ⟨ob, 3, none⟩ = some (.int .i64 M) := BY.out 3 _ (by rw [← EM.out]; rfl)); (have x0 : v4.cell? ⟨ob, 5, none⟩ = some (.int .u64 X.a) := BY.out 5 _ (by rw [← EX.out]; rfl)); (have x1 : v4.cell? ⟨ob, 6, none⟩ = some (.int .u64 X.b) := BY.out 6 _ (by rw [← EX.out]; rfl)); (have x2 : v4.cell? ⟨ob, 7, none⟩ = some (.int .u64 X.c) := BY.out 7 _ (by rw [← EX.out]; rfl)); (have x3 : v4.cell? ⟨ob, 8, none⟩ = some (.int .u64 X.d) := BY.out 8 _ (by rw [← EX.out]; rfl)))
              go_meet
              case rel => exact ⟨rfl, f, n, A3.out, ⟨n0', n1'⟩⟩
            · have hb1 : N + M + 1 ≤ 1024 := by omega
              have hb2 : 1 ≤ N := by omega
              have hb3 : 1 ≤ M := by omega
              have PS : Hid (Calls Try.prog 35 #[.pointer (some ⟨b, 0, none⟩), .int .i64 N, .int .i64 M] v3 fun e w' => e = .returned (.int .i64 0) ∧ Stk w' b 0 4096 (turnF f n (N + 1) (N + M + 1)) n ∧ Only b v3 w') := by
                have h := exch_is v3 b f n N M A2.out.s (by omega)
                rw [show oExch f n N M = ⟨0, (turnF f n (N + 1) (N + M + 1)), n⟩ by unfold oExch; rw [if_neg hN, if_neg hN2]] at h
                exact h
              have PT : Hid (∀ W, Stk W c 0 4096 f n → Calls Try.prog 34 #[.pointer (some ⟨c, 0, none⟩), .int .i64 (N + M + 1), .int .i64 (N + 1)] W fun e w' => e = .returned (.tuple #[]) ∧ Stk w' c 0 4096 (turnF f n (N + 1) (N + M + 1)) n ∧ Only c W w') := fun W hW => by
                have h := turn_is W c f n (N + M + 1) (N + 1) hW
                rw [show rput (rput f (pl (n - (N + M + 1))) (f (pl (n - (N + 1))))) (pl (n - (N + 1))) (f (pl (n - (N + M + 1)))) = turnF f n (N + 1) (N + M + 1) from turn_comm f n _ _] at h
                exact h
              go_wp2_with (first | (go_at_call 35; refine (PS.out).mono ?_; rintro e v4 ⟨rfl, h1, h2⟩; (have A3 : Hid (AL w v4 b c (turnF f n (N + 1) (N + M + 1)) f n n) := A2.out.callS h1 h2); (have BY : Hid (OpAt v4 ob 0 op) := BX.out.only h2 hob1.out.1); clear h1 h2 PS A2 BX k0 k2 k3 x0 x1 x2 x3; (have k2 : v4.cell? ⟨ob, 2, none⟩ = some (.int .i64 N) := BY.out 2 _ (by rw [← EN.out]; rfl)); (have k3 : v4.cell? ⟨ob, 3, none⟩ = some (.int .i64 M) := BY.out 3 _ (by rw [← EM.out]; rfl)); (have x0 : v4.cell? ⟨ob, 5, none⟩ = some (.int .u64 X.a) := BY.out 5 _ (by rw [← EX.out]; rfl)); (have x1 : v4.cell? ⟨ob, 6, none⟩ = some (.int .u64 X.b) := BY.out 6 _ (by rw [← EX.out]; rfl)); (have x2 : v4.cell? ⟨ob, 7, none⟩ = some (.int .u64 X.c) := BY.out 7 _ (by rw [← EX.out]; rfl)); (have x3 : v4.cell? ⟨ob, 8, none⟩ = some (.int .u64 X.d) := BY.out 8 _ (by rw [← EX.out]; rfl))) | (go_at_call 34; refine (PT.out _ A3.out.t).mono ?_; rintro e v5 ⟨rfl, h1, h2⟩; (have A4 : Hid (AL w v5 b c (turnF f n (N + 1) (N + M + 1)) (turnF f n (N + 1) (N + M + 1)) n n) := A3.out.callT h1 h2); clear h1 h2 PT A3))
              go_meet
              case rel => exact ⟨rfl, (turnF f n (N + 1) (N + M + 1)), n, A4.out, ⟨n0', n1'⟩⟩
        replace h11 : (kd == 11) = false := by simpa using h11
        go_wp2
        go_meet
        case rel => exact ⟨rfl, f, n, A2.out, n0', n1'⟩
      case rest =>
        obtain ⟨rfl, f', n', hA, m0, m1⟩ := hcut
        have A3 : Hid (AL w wc b c f' f' n' n') := hA
        clear hA A2 BX hob1 k0
        have L1 : Hid (Calls Try.prog 27 #[.pointer (some ⟨b, 0, none⟩)] wc fun e w' => e = .returned (.int .i64 n') ∧ w' = wc) := len_is wc b f' n' A3.out.s
        have L2 : Hid (Calls Try.prog 27 #[.pointer (some ⟨c, 0, none⟩)] wc fun e w' => e = .returned (.int .i64 n') ∧ w' = wc) := len_is wc c f' n' A3.out.t
        go_wp2_with (first | (go_at_call 27; refine (L1.out).mono ?_; rintro e w' ⟨rfl, hw⟩; (have hw2 := hw.symm); clear hw L1; subst hw2) | (go_at_call 27; refine (L2.out).mono ?_; rintro e w' ⟨rfl, hw⟩; (have hw2 := hw.symm); clear hw L2; subst hw2))
        go_roundw
        case rel => exact ⟨k + 1, f', n', by omega, by simp, A3.out, m0, m1⟩
        case measure => simp [intOf]; omega
    · obtain rfl : k = n0 := by omega
      have hm24 := cnt_le n
      have W1 : Hid (Calls Try.prog 30 #[.pointer (some ⟨b, 0, none⟩)] wr fun e w' => e = .returned (.slice (some ⟨wr.heap.size, 0, none⟩) (cnt n) (cnt n)) ∧ WordsIn w' wr.heap.size 0 (cnt n) (told f n) ∧ Below wr.heap.size wr w') := words_is wr b f n A1.out.s
      have W2 : Hid (∀ W, Stk W c 0 4096 f n → Calls Try.prog 30 #[.pointer (some ⟨c, 0, none⟩)] W fun e w' => e = .returned (.slice (some ⟨W.heap.size, 0, none⟩) (cnt n) (cnt n)) ∧ WordsIn w' W.heap.size 0 (cnt n) (told f n) ∧ Below W.heap.size W w') := fun W hW => words_is W c f n hW
      generalize cnt n = m at *
      go_wp2_with (first | (go_at_call 30; refine (W1.out).mono ?_; rintro e v4 ⟨rfl, h1, h2⟩; (have A2 : Hid (AL w v4 b c f f n n) := A1.out.past h2); (have V1 : Hid (WL v4 (.slice (some ⟨wr.heap.size, 0, none⟩) m m) m (told f n)) := h1.wl); clear h1 h2 W1 A1) | (go_at_call 30; refine (W2.out _ A2.out.t).mono ?_; rintro e v5 ⟨rfl, h1, h2⟩; (have A3 : Hid (AL w v5 b c f f n n) := A2.out.past h2); (have V2 : Hid (WL v5 (.slice (some ⟨v4.heap.size, 0, none⟩) m m) m (told f n)) := h1.wl); (have V3 : Hid (WL v5 (.slice (some ⟨wr.heap.size, 0, none⟩) m m) m (told f n)) := V1.out.past h2); clear h1 h2 W2 A2 V1) | (go_at_call 29; refine (sameWords_is v5 _ _ m (told f n) (by omega) V3.out V2.out).mono ?_; rintro e v6 ⟨rfl, h1⟩; (have A4 : Hid (Below w.heap.size w v6) := A3.out.bel.trans (h1.mono A3.out.bel.size)); clear h1 A3 V2 V3) | (go_at_call 12; refine (awake_is _).mono ?_; rintro e v7 ⟨rfl, h1⟩; (have HE : Hid (Below w.heap.size w v7) := A4.out.trans (h1.mono A4.out.size)); clear h1))
      go_ret
      exact ⟨rfl, HE.out⟩
end Go.Proofs.Ytdddmebihkdkjaa
