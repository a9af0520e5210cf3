/- Load and Store of both memories. -/
import Derived.Test.YtlemnjhdnciddaaGoc
import Derived.Test.YtlemnjhdnciddaaGni
import Derived.Laws.Slices
namespace Go.Proofs.Ytlemnjhdnciddaa
open Go.RowKit
theorem slice_all (g : Nat) (W : World) : Sem.run Try.prog (Instr.sliceAt 46 (.pointer (some ⟨g, 0, none⟩)) none none none) W = .ok (.slice (some ⟨g, 0, none⟩) 32 32) W := by
  have h32 : Try.prog.arrayLen 46 = 32 := by kernel_rfl
  have sz : Sem.run Try.prog (sizeOf (Try.prog.elem 46)) W = .ok 1 W := by kernel_rfl
  rw [run_sliceAt_array_all W 46 ⟨g, 0, none⟩ (by kernel_rfl), sz, h32, Result.andThen_ok]
  rfl
theorem RowB.byN {W : World} {g m : Nat} {x : Nat → Nat} (h : RowB W g m (fun i => (x i : Int))) (hm : m ≤ 4194304) : By W (.slice (some ⟨g, 0, none⟩) m m) m x :=
  ⟨_, m, rfl, Nat.le_refl _, by omega, fun _ => ⟨g, 0, rfl, fun i hi => by rw [Nat.zero_add]; exact (h i hi).1⟩⟩
def wz : W4 := ⟨0, 0, 0, 0⟩
/-- what Load answers -/
def LdOk (n : Nat) (u : Nat → Nat) (i : Int) (x : W4) : Prop := (lk n i 32 = 0 → LdW (fun j => u (i.toNat + j)) x) ∧ (lk n i 32 ≠ 0 → x = wz)
theorem ldOk_ex (n : Nat) (u : Nat → Nat) (i : Int) : ∃ x, LdOk n u i x := by
  by_cases h : lk n i 32 = 0
  · obtain ⟨x, hx⟩ := ldW_ex (fun j => u (i.toNat + j))
    exact ⟨x, fun _ => hx, fun k => absurd h k⟩
  · exact ⟨wz, fun k => absurd k h, fun _ => rfl⟩
set_option maxHeartbeats 2000000 in
set_option maxRecDepth 100000 in
theorem load_is (w : World) (b B : Nat) (ad : Option Addr) (n cap : Nat) (u : Nat → Nat) (h : Mem w b B ad n cap u) (hu : ∀ i, u i < 256) (i : Int) (hi : i ≤ 9223372036854775807) (x : W4) (hx : LdOk n u i x) : Calls Try.prog 27 #[.pointer (some ⟨b, 0, none⟩), .int .i64 i] w fun e w' => e = .returned (.tuple #[x.v, .int .i64 (lk n i 32)]) ∧ Below w.heap.size w w' := by
  have I0 : Hid (Below w.heap.size w (w.alloc (.cells #[.int .u64 0, .int .u64 0, .int .u64 0, .int .u64 0] 30)) ∧ Box (w.alloc (.cells #[.int .u64 0, .int .u64 0, .int .u64 0, .int .u64 0] 30)) w.heap.size 0 0 0 0 ∧ Mem (w.alloc (.cells #[.int .u64 0, .int .u64 0, .int .u64 0, .int .u64 0] 30)) b B ad n cap u) := ⟨(Below.refl _ _).alloc (Nat.le_refl _) _, Box.new w _ 0 0 0 0, h.past ((Below.refl _ _).alloc (Nat.le_refl _) _)⟩
  by_cases hk : lk n i 32 = 0
  · have hz := lk_zero hk
    have LX := hx.1 hk
    obtain ⟨g, rfl, hg, hnc, hgl, hcl⟩ := h.form (by omega)
    obtain ⟨q, rfl⟩ : ∃ q : Nat, i = (q : Int) := ⟨i.toNat, by omega⟩
    obtain ⟨r, er⟩ : ∃ r : Nat, r = q + 32 := ⟨_, rfl⟩
    have s1 : (q : Int) + 32 = (r : Int) := by omega
    have s2 : IntKind.i64.wrap (r : Int) = (r : Int) := by rw [IntKind.wrap_i64]; have := h.le; omega
    have hsl := slice_mid (some ⟨g, 0, none⟩) n cap q r (by omega) (by omega)
    rw [if_neg (show ¬ cap = q by omega), show (some (⟨g, 0, none⟩ : Addr)).map (·.add q) = some ⟨g, q, none⟩ by (show some ((⟨g, 0, none⟩ : Addr).add q) = _; rw [Addr.add_mid, Nat.zero_add]), show r - q = 32 by omega] at hsl
    rw [Int.toNat_natCast] at LX
    have FB : Hid (∀ W, Mem W b B (some ⟨g, 0, none⟩) n cap u → Calls Try.prog 28 #[.slice (some ⟨g, q, none⟩) 32 (cap - q)] W fun e w' => e = .returned (.tuple #[x.v, .int .i64 0]) ∧ Below W.heap.size W w') := fun W hW => by
      obtain ⟨g2, e2, _, _, _, hcl2⟩ := hW.form (by omega)
      obtain ⟨rfl, _, _⟩ := Addr.mk.inj (Option.some.inj e2)
      have hby : ByC W g q 32 (fun j => u (q + j)) := fun j hj => (hcl2 (q + j) (by omega)).1
      exact fromBytesN W g q (cap - q) _ (fun j => hu (q + j)) x LX hby
    have LK : Hid (∀ W, Mem W b B (some ⟨g, 0, none⟩) n cap u → Calls Try.prog 48 #[.pointer (some ⟨b, 0, none⟩), .int .i64 (q : Int), .int .i64 32] W fun e w' => e = .returned (.int .i64 0) ∧ w' = W) := fun W hW => by have := look_is W b B _ n cap u hW (q : Int) 32 hi (by omega); rwa [hk] at this
    rw [hk]
    clear hk hz h hcl hg hgl hnc er LX hx hu
    unfold W4.v at FB ⊢
    obtain ⟨x0, x1, x2, x3⟩ := x
    dsimp only at FB ⊢
    go_enter Try.func27, Try.ntmps27
    go_upto_region 1 with fail
    generalize w.alloc (.cells #[.int .u64 0, .int .u64 0, .int .u64 0, .int .u64 0] 30) = W0 at I0 ⊢
    go_upto_region 4 with (go_at_call 48; refine (LK.out _ I0.out.2.2).mono ?_; rintro e w' ⟨rfl, hw⟩; (have hw2 := hw.symm); clear hw; subst hw2)
    have c := I0.out.2.2.c
    go_wp2_with fail
    refine (FB.out _ I0.out.2.2).mono ?_
    rintro e v1 ⟨rfl, hB⟩
    have I1 : Hid (Below w.heap.size w v1 ∧ Box v1 w.heap.size 0 0 0 0) := ⟨I0.out.1.trans (hB.mono I0.out.1.size), I0.out.2.1.below hB I0.out.2.1.lt⟩
    clear hB I0 FB LK hsl c
    obtain ⟨r0, r1, r2, r3, f0, f1, f2, f3⟩ := Box.facts I1.out.2
    go_wp2
    exact bodyPost_ret (v := .tuple #[.agg #[.int .u64 x0, .int .u64 x1, .int .u64 x2, .int .u64 x3], .int .i64 0]) (by simp [results, Try.results27, go_sem, r0, r1, r2, r3]) rfl ⟨rfl, below_put I1.out.1 (Nat.le_refl _) _ _ _ _⟩
  · obtain rfl := hx.2 hk
    have LK : Hid (∀ W, Mem W b B ad n cap u → Calls Try.prog 48 #[.pointer (some ⟨b, 0, none⟩), .int .i64 i, .int .i64 32] W fun e w' => e = .returned (.int .i64 (lk n i 32)) ∧ w' = W) := fun W hW => look_is W b B _ n cap u hW i 32 hi (by omega)
    generalize lk n i 32 = L at *
    have hk2 : (L == 0) = false := by simpa using hk
    unfold wz W4.v
    clear h hu hx hk
    go_enter Try.func27, Try.ntmps27
    go_upto_region 1 with fail
    generalize w.alloc (.cells #[.int .u64 0, .int .u64 0, .int .u64 0, .int .u64 0] 30) = W0 at I0 ⊢
    obtain ⟨r0, r1, r2, r3, f0, f1, f2, f3⟩ := Box.facts I0.out.2.1
    go_wp2_with (go_at_call 48; refine (LK.out _ I0.out.2.2).mono ?_; rintro e w' ⟨rfl, hw⟩; (have hw2 := hw.symm); clear hw; subst hw2)
    exact bodyPost_ret (v := .tuple #[.agg #[.int .u64 0, .int .u64 0, .int .u64 0, .int .u64 0], .int .i64 L]) (by simp [results, Try.results27, go_sem, r0, r1, r2, r3]) rfl ⟨rfl, below_put I0.out.1 (Nat.le_refl _) _ _ _ _⟩
set_option maxHeartbeats 2000000 in
set_option maxRecDepth 100000 in
theorem loadR_is (w : World) (b B : Nat) (ad : Option Addr) (n cap : Nat) (u : Nat → Nat) (h : Mem w b B ad n cap u) (hu : ∀ i, u i < 256) (i : Int) (hi : i ≤ 9223372036854775807) (x : W4) (hx : LdOk n u i x) : Calls Try.prog 39 #[.pointer (some ⟨b, 0, none⟩), .int .i64 i] w fun e w' => e = .returned (.tuple #[x.v, .int .i64 (lk n i 32)]) ∧ Below w.heap.size w w' := by
  have I0 : Hid (Below w.heap.size w (w.alloc (.cells #[.int .u64 0, .int .u64 0, .int .u64 0, .int .u64 0] 30)) ∧ Box (w.alloc (.cells #[.int .u64 0, .int .u64 0, .int .u64 0, .int .u64 0] 30)) w.heap.size 0 0 0 0 ∧ Mem (w.alloc (.cells #[.int .u64 0, .int .u64 0, .int .u64 0, .int .u64 0] 30)) b B ad n cap u) := ⟨(Below.refl _ _).alloc (Nat.le_refl _) _, Box.new w _ 0 0 0 0, h.past ((Below.refl _ _).alloc (Nat.le_refl _) _)⟩
  by_cases hk : lk n i 32 = 0
  · have hz := lk_zero hk
    have LX := hx.1 hk
    obtain ⟨g, rfl, hg, hnc, hgl, hcl⟩ := h.form (by omega)
    obtain ⟨q, rfl⟩ : ∃ q : Nat, i = (q : Int) := ⟨i.toNat, by omega⟩
    obtain ⟨r, er⟩ : ∃ r : Nat, r = q + 32 := ⟨_, rfl⟩
    have s1 : (q : Int) + 32 = (r : Int) := by omega
    have s2 : IntKind.i64.wrap (r : Int) = (r : Int) := by rw [IntKind.wrap_i64]; have := h.le; omega
    have hsl := slice_mid (some ⟨g, 0, none⟩) n cap q r (by omega) (by omega)
    rw [if_neg (show ¬ cap = q by omega), show (some (⟨g, 0, none⟩ : Addr)).map (·.add q) = some ⟨g, q, none⟩ by (show some ((⟨g, 0, none⟩ : Addr).add q) = _; rw [Addr.add_mid, Nat.zero_add]), show r - q = 32 by omega] at hsl
    rw [Int.toNat_natCast] at LX
    have FB : Hid (∀ W, Mem W b B (some ⟨g, 0, none⟩) n cap u → Calls Try.prog 65 #[.slice (some ⟨g, q, none⟩) 32 (cap - q)] W fun e w' => e = .returned (.tuple #[x.v, .int .i64 0]) ∧ Below W.heap.size W w') := fun W hW => by
      obtain ⟨g2, e2, _, _, _, hcl2⟩ := hW.form (by omega)
      obtain ⟨rfl, _, _⟩ := Addr.mk.inj (Option.some.inj e2)
      have hby : ByC W g q 32 (fun j => u (q + j)) := fun j hj => (hcl2 (q + j) (by omega)).1
      exact rfromBytesN W _ _ (fun j => hu (q + j)) x LX ⟨_, _, rfl, by omega, by omega, fun _ => ⟨g, q, rfl, hby⟩⟩
    have LK : Hid (∀ W, Mem W b B (some ⟨g, 0, none⟩) n cap u → Calls Try.prog 64 #[.pointer (some ⟨b, 0, none⟩), .int .i64 (q : Int), .int .i64 32] W fun e w' => e = .returned (.int .i64 0) ∧ w' = W) := fun W hW => by have := liesR_is W b B _ n cap u hW (q : Int) 32 hi (by omega); rwa [hk] at this
    rw [hk]
    clear hk hz h hcl hg hgl hnc er LX hx hu
    unfold W4.v at FB ⊢
    obtain ⟨x0, x1, x2, x3⟩ := x
    dsimp only at FB ⊢
    go_enter Try.func39, Try.ntmps39
    go_upto_region 1 with fail
    generalize w.alloc (.cells #[.int .u64 0, .int .u64 0, .int .u64 0, .int .u64 0] 30) = W0 at I0 ⊢
    go_upto_region 4 with (go_at_call 64; refine (LK.out _ I0.out.2.2).mono ?_; rintro e w' ⟨rfl, hw⟩; (have hw2 := hw.symm); clear hw; subst hw2)
    have c := I0.out.2.2.c
    go_wp2_with fail
    refine (FB.out _ I0.out.2.2).mono ?_
    rintro e v1 ⟨rfl, hB⟩
    have I1 : Hid (Below w.heap.size w v1 ∧ Box v1 w.heap.size 0 0 0 0) := ⟨I0.out.1.trans (hB.mono I0.out.1.size), I0.out.2.1.below hB I0.out.2.1.lt⟩
    clear hB I0 FB LK hsl c
    go_upto_region 5 with fail
    have B9 : Hid (Box (v1.alloc (.cells #[.int .u64 x0, .int .u64 x1, .int .u64 x2, .int .u64 x3] 30)) v1.heap.size x0 x1 x2 x3) := Box.new v1 _ x0 x1 x2 x3
    replace I1 : Hid (Below w.heap.size w (v1.alloc (.cells #[.int .u64 x0, .int .u64 x1, .int .u64 x2, .int .u64 x3] 30)) ∧ Box (v1.alloc (.cells #[.int .u64 x0, .int .u64 x1, .int .u64 x2, .int .u64 x3] 30)) w.heap.size 0 0 0 0) := ⟨I1.out.1.alloc I1.out.1.size _, I1.out.2.alloc _⟩
    generalize v1.alloc (.cells #[.int .u64 x0, .int .u64 x1, .int .u64 x2, .int .u64 x3] 30) = v2 at I1 B9 ⊢
    generalize v1.heap.size = bx at B9 ⊢
    obtain ⟨c0, c1, c2, c3, _⟩ := Box.facts B9.out
    obtain ⟨r0, r1, r2, r3, f0, f1, f2, f3⟩ := Box.facts I1.out.2
    go_wp2
    exact bodyPost_ret (v := .tuple #[.agg #[.int .u64 x0, .int .u64 x1, .int .u64 x2, .int .u64 x3], .int .i64 0]) (by simp [results, Try.results39, go_sem, r0, r1, r2, r3]) rfl ⟨rfl, below_put I1.out.1 (Nat.le_refl _) _ _ _ _⟩
  · obtain rfl := hx.2 hk
    have LK : Hid (∀ W, Mem W b B ad n cap u → Calls Try.prog 64 #[.pointer (some ⟨b, 0, none⟩), .int .i64 i, .int .i64 32] W fun e w' => e = .returned (.int .i64 (lk n i 32)) ∧ w' = W) := fun W hW => liesR_is W b B _ n cap u hW i 32 hi (by omega)
    generalize lk n i 32 = L at *
    have hk2 : (L == 0) = false := by simpa using hk
    unfold wz W4.v
    clear h hu hx hk
    go_enter Try.func39, Try.ntmps39
    go_upto_region 1 with fail
    generalize w.alloc (.cells #[.int .u64 0, .int .u64 0, .int .u64 0, .int .u64 0] 30) = W0 at I0 ⊢
    obtain ⟨r0, r1, r2, r3, f0, f1, f2, f3⟩ := Box.facts I0.out.2.1
    go_wp2_with (go_at_call 64; refine (LK.out _ I0.out.2.2).mono ?_; rintro e w' ⟨rfl, hw⟩; (have hw2 := hw.symm); clear hw; subst hw2)
    exact bodyPost_ret (v := .tuple #[.agg #[.int .u64 0, .int .u64 0, .int .u64 0, .int .u64 0], .int .i64 L]) (by simp [results, Try.results39, go_sem, r0, r1, r2, r3]) rfl ⟨rfl, below_put I0.out.1 (Nat.le_refl _) _ _ _ _⟩
set_option maxHeartbeats 2000000 in
set_option maxRecDepth 100000 in
theorem store_is (w : World) (b B : Nat) (ad : Option Addr) (n cap : Nat) (u : Nat → Nat) (h : Mem w b B ad n cap u) (i : Int) (hi : i ≤ 9223372036854775807) (x : W4) (hx : IsW (V x.a x.b x.c x.d) x.a x.b x.c x.d) : Calls Try.prog 22 #[.pointer (some ⟨b, 0, none⟩), .int .i64 i, x.v] w fun e w' => e = .returned (.int .i64 (lk n i 32)) ∧ Mem w' b B ad n cap (if lk n i 32 = 0 then ins u i.toNat (bN x) 32 else u) ∧ Off b ad w w' := by
  have I0 : Hid (∀ o, Below w.heap.size w (w.alloc o)) := fun o => (Below.refl _ _).alloc (Nat.le_refl _) _
  have BY : Hid (∀ W, Calls Try.prog 21 #[x.v] W fun e w' => e = .returned (.agg (rowB 32 (fun i => (bN x i : Int))).toArray) ∧ Below W.heap.size W w') := fun W => bytesN W x
  have WR : Hid (∀ W g, Below w.heap.size w W → RowB W g 32 (fun i => (bN x i : Int)) → w.heap.size ≤ g → Calls Try.prog 24 #[.pointer (some ⟨b, 0, none⟩), .int .i64 i, .slice (some ⟨g, 0, none⟩) 32 32] W fun e w' => e = .returned (.int .i64 (lk n i 32)) ∧ Mem w' b B ad n cap (if lk n i 32 = 0 then ins u i.toNat (bN x) 32 else u) ∧ Off b ad W w') := fun W g hW hr hg => write_is W b B ad n cap u (h.past hW) i hi _ 32 (bN x) (hr.byN (by omega))
  generalize (if lk n i 32 = 0 then ins u i.toNat (bN x) 32 else u) = u2 at WR ⊢
  generalize lk n i 32 = L at WR ⊢
  have SA := slice_all
  generalize (fun i => (bN x i : Int)) = F at BY WR
  unfold W4.v at BY ⊢
  obtain ⟨x0, x1, x2, x3⟩ := x
  dsimp only at BY ⊢
  clear h hx
  go_enter Try.func22, Try.ntmps22
  go_upto_region 1 with fail
  have B0 : Hid (Below w.heap.size w (w.alloc (.cells #[.int .u64 x0, .int .u64 x1, .int .u64 x2, .int .u64 x3] 30))) := I0.out _
  have C0 : Hid (Box (w.alloc (.cells #[.int .u64 x0, .int .u64 x1, .int .u64 x2, .int .u64 x3] 30)) w.heap.size x0 x1 x2 x3) := Box.new w _ x0 x1 x2 x3
  generalize w.alloc (.cells #[.int .u64 x0, .int .u64 x1, .int .u64 x2, .int .u64 x3] 30) = W0 at B0 C0 ⊢
  obtain ⟨c0, c1, c2, c3, _⟩ := Box.facts C0.out
  clear I0 C0
  go_wp2_with fail
  refine (BY.out _).mono ?_
  rintro e v1 ⟨rfl, hB⟩
  have B1 : Hid (Below w.heap.size w v1) := B0.out.trans (hB.mono B0.out.size)
  clear hB c0 c1 c2 c3 BY B0
  go_upto_region 2 with (first | (refine alloc32 rfl rfl ?_; intro W2 hW2) | (refine store32 F v1.heap.size rfl _ _ rfl rfl rfl hW2.row.there ?_))
  have R2 : Hid (RowB (W2.setCells v1.heap.size 0 (rowB 32 F)) v1.heap.size 32 F) := RowB.of_range hW2.row
  have B2 : Hid (Below w.heap.size w (W2.setCells v1.heap.size 0 (rowB 32 F))) := below_setCellsB _ B1.out.size _ _ _ (B1.out.trans (hW2.bel.mono B1.out.size))
  have L2 : Hid (w.heap.size ≤ v1.heap.size) := B1.out.size
  clear hW2 B1
  generalize W2.setCells v1.heap.size 0 (rowB 32 F) = v2 at R2 B2 ⊢
  generalize v1.heap.size = g at R2 L2 ⊢
  go_wp2_with fail
  refine (WR.out v2 g B2.out R2.out L2.out).mono ?_
  rintro e v3 ⟨rfl, hm, ho⟩
  have FI : Hid (Mem v3 b B ad n cap u2 ∧ Off b ad w v3) := ⟨hm, Off.past B2.out ho⟩
  clear hm ho WR R2 B2
  go_wp2
  go_ret
  exact ⟨rfl, FI.out⟩
set_option maxHeartbeats 2000000 in
set_option maxRecDepth 100000 in
theorem storeR_is (w : World) (b B : Nat) (ad : Option Addr) (n cap : Nat) (u : Nat → Nat) (h : Mem w b B ad n cap u) (i : Int) (hi : i ≤ 9223372036854775807) (x : W4) (hx : IsW (V x.a x.b x.c x.d) x.a x.b x.c x.d) : Calls Try.prog 40 #[.pointer (some ⟨b, 0, none⟩), .int .i64 i, x.v] w fun e w' => e = .returned (.int .i64 (lk n i 32)) ∧ Mem w' b B ad n cap (if lk n i 32 = 0 then ins u i.toNat (bN x) 32 else u) ∧ Off b ad w w' := by
  have I0 : Hid (∀ o, Below w.heap.size w (w.alloc o)) := fun o => (Below.refl _ _).alloc (Nat.le_refl _) _
  have BY : Hid (∀ W, Calls Try.prog 66 #[x.v] W fun e w' => e = .returned (.agg (rowB 32 (fun i => (bN x i : Int))).toArray) ∧ Below W.heap.size W w') := fun W => rbytesN W x hx
  have WR : Hid (∀ W g, Below w.heap.size w W → RowB W g 32 (fun i => (bN x i : Int)) → w.heap.size ≤ g → Calls Try.prog 43 #[.pointer (some ⟨b, 0, none⟩), .int .i64 i, .slice (some ⟨g, 0, none⟩) 32 32] W fun e w' => e = .returned (.int .i64 (lk n i 32)) ∧ Mem w' b B ad n cap (if lk n i 32 = 0 then ins u i.toNat (bN x) 32 else u) ∧ Off b ad W w') := fun W g hW hr hg => writeR_is W b B ad n cap u (h.past hW) i hi _ 32 32 (bN x) (hr.byN (by omega)) (fun a y e1 e2 => by obtain rfl := Option.some.inj e1; have := h.adlt y e2; show g ≠ y.block; omega)
  generalize (if lk n i 32 = 0 then ins u i.toNat (bN x) 32 else u) = u2 at WR ⊢
  generalize lk n i 32 = L at WR ⊢
  have SA := slice_all
  generalize (fun i => (bN x i : Int)) = F at BY WR
  unfold W4.v at BY ⊢
  obtain ⟨x0, x1, x2, x3⟩ := x
  dsimp only at BY ⊢
  clear h hx
  go_enter Try.func40, Try.ntmps40
  go_upto_region 1 with fail
  have B0 : Hid (Below w.heap.size w (w.alloc (.cells #[.int .u64 x0, .int .u64 x1, .int .u64 x2, .int .u64 x3] 30))) := I0.out _
  have C0 : Hid (Box (w.alloc (.cells #[.int .u64 x0, .int .u64 x1, .int .u64 x2, .int .u64 x3] 30)) w.heap.size x0 x1 x2 x3) := Box.new w _ x0 x1 x2 x3
  generalize w.alloc (.cells #[.int .u64 x0, .int .u64 x1, .int .u64 x2, .int .u64 x3] 30) = W0 at B0 C0 ⊢
  obtain ⟨c0, c1, c2, c3, _⟩ := Box.facts C0.out
  clear I0 C0
  go_wp2_with fail
  refine (BY.out _).mono ?_
  rintro e v1 ⟨rfl, hB⟩
  have B1 : Hid (Below w.heap.size w v1) := B0.out.trans (hB.mono B0.out.size)
  clear hB c0 c1 c2 c3 BY B0
  go_upto_region 2 with (first | (refine alloc32 rfl rfl ?_; intro W2 hW2) | (refine store32 F v1.heap.size rfl _ _ rfl rfl rfl hW2.row.there ?_))
  have R2 : Hid (RowB (W2.setCells v1.heap.size 0 (rowB 32 F)) v1.heap.size 32 F) := RowB.of_range hW2.row
  have B2 : Hid (Below w.heap.size w (W2.setCells v1.heap.size 0 (rowB 32 F))) := below_setCellsB _ B1.out.size _ _ _ (B1.out.trans (hW2.bel.mono B1.out.size))
  have L2 : Hid (w.heap.size ≤ v1.heap.size) := B1.out.size
  clear hW2 B1
  generalize W2.setCells v1.heap.size 0 (rowB 32 F) = v2 at R2 B2 ⊢
  generalize v1.heap.size = g at R2 L2 ⊢
  go_wp2_with fail
  refine (WR.out v2 g B2.out R2.out L2.out).mono ?_
  rintro e v3 ⟨rfl, hm, ho⟩
  have FI : Hid (Mem v3 b B ad n cap u2 ∧ Off b ad w v3) := ⟨hm, Off.past B2.out ho⟩
  clear hm ho WR R2 B2
  go_wp2
  go_ret
  exact ⟨rfl, FI.out⟩
end Go.Proofs.Ytlemnjhdnciddaa
