/- Package undo: Delete. -/
import Derived.Test.YtohfkgfjcnldaaaTm
namespace Go.Proofs.Ytohfkgfjcnldaaa
open Go.RowKit
theorem rem_fresh {m : Int → Option Nat} {L : List (Int × Int)} (h : IX m L) (i : Nat) (hi : i < L.length) (j : Nat) (hj : j < (remL L i).length) : (atL (remL L i) j).1 ≠ (atL L i).1 := by
  rw [remL_len] at hj
  have e : atL (remL L i) j = if j = i then atL L (L.length - 1) else atL L j := by
    unfold atL
    rw [remL_at L i hi, if_pos hj]
    split <;> rfl
  rw [e]
  have hp := h.key hi
  intro e2
  split at e2
  · have hq := h.key (i := L.length - 1) (by omega)
    rw [e2, hp] at hq
    have := Option.some.inj hq
    omega
  · have hq := h.key (i := j) (by omega)
    rw [e2, hp] at hq
    have := Option.some.inj hq
    omega
set_option maxHeartbeats 2000000 in
set_option maxRecDepth 100000 in
theorem delete_no (w : World) (b pm : Nat) (ra : Option Addr) (rc : Nat) (ba : Option Addr) (bc : Nat) (ma : Option Addr) (mc : Nat) (m : Int → Option Nat) (L : List (Int × Int)) (V : List Un) (M : List Nat) (h : Tab w b pm ra rc ba bc ma mc m L (V.map uv) M) (hV : ∀ u ∈ V, UnOk w b (TS b pm ra ba ma) u) (k : Int) (hk : I64 k) (hm : m k = none) : Calls Try.prog 43 #[.pointer (some ⟨b, 0, none⟩), .int .i64 k] w fun e w' => e = .returned (.bool false) ∧ Below w.heap.size w w' := by
  have HV : Hid (∀ u ∈ V, UnOk w b (TS b pm ra ba ma) u) := hV
  have H0 : Hid (Tab w b pm ra rc ba bc ma mc m L (V.map uv) M) := h
  have HLT : Hid (∀ j, TS b pm ra ba ma j → j < w.heap.size) := h.toTab0.lt
  obtain ⟨w1, ew⟩ : ∃ w1, w.alloc (.cells #[.pointer (some ⟨b, 0, none⟩)] 24) = w1 := ⟨_, rfl⟩
  have X1 : Hid (CBox w1 w.heap.size 24 [.pointer (some ⟨b, 0, none⟩)]) := by rw [← ew]; exact CBox.new w _ _
  have B1 : Hid (But (fun _ => False) w w1) := by rw [← ew]; exact (But.refl _ _).alloc _
  have H1 : Hid (Tab w1 b pm ra rc ba bc ma mc m L (V.map uv) M) := h.but B1.out (fun _ _ => id)
  have S1 : Hid (w1.heap.size = w.heap.size + 1) := by rw [← ew]; show _ = _; simp
  have hk1 := H1.out.pl.look k hk
  have c1 := H1.out.c1
  obtain ⟨bx, ex⟩ : ∃ bx, w.heap.size = bx := ⟨_, rfl⟩
  rw [ex] at X1
  obtain ⟨by_, ey⟩ : ∃ by_, w1.heap.size = by_ := ⟨_, rfl⟩
  have EXY : Hid (w.heap.size = bx ∧ by_ = bx + 1) := ⟨ex, by have := S1.out; omega⟩
  have x0 : w1.cell? ⟨bx, 0, none⟩ = some (.pointer (some ⟨b, 0, none⟩)) := X1.out.cell 0
  rw [hm] at hk1
  simp only [Option.getD_none, Option.isSome_none, Int.natCast_zero] at hk1
  have BE : Hid (Below w.heap.size w (w1.alloc (.cells #[.int .i64 0] 3))) := by rw [← ew]; exact ((Below.refl _ w).alloc (Nat.le_refl _) _).alloc (by simp) _
  clear h hV hm hk HV H0 HLT
  go_enter Try.func43, Try.ntmps43
  go_wp2
  go_ret
  exact ⟨rfl, BE.out⟩
set_option maxHeartbeats 2000000 in
set_option maxRecDepth 100000 in
theorem delete_yes (w : World) (b pm : Nat) (ra : Option Addr) (rc : Nat) (ba : Option Addr) (bc : Nat) (ma : Option Addr) (mc : Nat) (m : Int → Option Nat) (L : List (Int × Int)) (V : List Un) (M : List Nat) (h : Tab w b pm ra rc ba bc ma mc m L (V.map uv) M) (hV : ∀ u ∈ V, UnOk w b (TS b pm ra ba ma) u) (k : Int) (hk : I64 k) (hL : L.length < 549755813888) (hl : V.length < 549755813888) (i : Nat) (hm : m k = some i) :
    Calls Try.prog 43 #[.pointer (some ⟨b, 0, none⟩), .int .i64 k] w fun e w' => e = .returned (.bool true) ∧ ∃ S' V', TabU w' b S' (remL L i) V' M ∧ But (TS b pm ra ba ma) w w' ∧ Grown (TS b pm ra ba ma) S' w ∧ Noted w.heap.size M V V' L (remL L i) := by
  have HV : Hid (∀ u ∈ V, UnOk w b (TS b pm ra ba ma) u) := hV
  have H0 : Hid (Tab w b pm ra rc ba bc ma mc m L (V.map uv) M) := h
  have HLT : Hid (∀ j, TS b pm ra ba ma j → j < w.heap.size) := h.toTab0.lt
  obtain ⟨w1, ew⟩ : ∃ w1, w.alloc (.cells #[.pointer (some ⟨b, 0, none⟩)] 24) = w1 := ⟨_, rfl⟩
  have X1 : Hid (CBox w1 w.heap.size 24 [.pointer (some ⟨b, 0, none⟩)]) := by rw [← ew]; exact CBox.new w _ _
  have B1 : Hid (But (fun _ => False) w w1) := by rw [← ew]; exact (But.refl _ _).alloc _
  have H1 : Hid (Tab w1 b pm ra rc ba bc ma mc m L (V.map uv) M) := h.but B1.out (fun _ _ => id)
  have S1 : Hid (w1.heap.size = w.heap.size + 1) := by rw [← ew]; show _ = _; simp
  have hk1 := H1.out.pl.look k hk
  have c1 := H1.out.c1
  obtain ⟨bx, ex⟩ : ∃ bx, w.heap.size = bx := ⟨_, rfl⟩
  rw [ex] at X1
  obtain ⟨by_, ey⟩ : ∃ by_, w1.heap.size = by_ := ⟨_, rfl⟩
  have EXY : Hid (w.heap.size = bx ∧ by_ = bx + 1) := ⟨ex, by have := S1.out; omega⟩
  have x0 : w1.cell? ⟨bx, 0, none⟩ = some (.pointer (some ⟨b, 0, none⟩)) := X1.out.cell 0
  rw [hm] at hk1
  simp only [Option.getD_some, Option.isSome_some] at hk1
  obtain ⟨il, ik⟩ := h.ix.some hm
  have HP : Hid (i < L.length ∧ (atL L i).1 = k ∧ I64 k ∧ L.length < 549755813888 ∧ V.length < 549755813888) := ⟨il, ik, hk, hL, hl⟩
  clear h hV hm hL hl hk il ik
  go_enter Try.func43, Try.ntmps43
  go_upto_region 4 with fail
  have X2 : Hid (CBox (w1.alloc (.cells #[.int .i64 (i : Int)] 3)) bx 24 [.pointer (some ⟨b, 0, none⟩)]) := X1.out.but (S := fun _ => False) ((But.refl _ _).alloc _) id
  have Y2 : Hid (CBox (w1.alloc (.cells #[.int .i64 (i : Int)] 3)) w1.heap.size 3 [.int .i64 (i : Int)]) := CBox.new w1 _ _
  have B2 : Hid (But (fun _ => False) w (w1.alloc (.cells #[.int .i64 (i : Int)] 3))) := B1.out.alloc _
  have H2 : Hid (Tab (w1.alloc (.cells #[.int .i64 (i : Int)] 3)) b pm ra rc ba bc ma mc m L (V.map uv) M) := H0.out.but B2.out (fun _ _ => id)
  rw [ey] at Y2
  generalize w1.alloc (.cells #[.int .i64 (i : Int)] 3) = v2 at X2 Y2 B2 H2 ⊢
  clear X1 B1 H1 ew S1 hk1 c1 ex x0 ey
  have NT : Hid (¬ TS b pm ra ba ma bx ∧ ¬ TS b pm ra ba ma by_ ∧ bx ≠ by_ ∧ w.heap.size ≤ by_) := ⟨fun e => by have := HLT.out _ e; have := EXY.out; omega, fun e => by have := HLT.out _ e; have := EXY.out; omega, by have := EXY.out; omega, by have := EXY.out; omega⟩
  have x0 : v2.cell? ⟨bx, 0, none⟩ = some (.pointer (some ⟨b, 0, none⟩)) := X2.out.cell 0
  have y0 : v2.cell? ⟨by_, 0, none⟩ = some (.int .i64 (i : Int)) := Y2.out.cell 0
  have RM : Hid (Calls Try.prog 73 #[.pointer (some ⟨b, 0, none⟩), .int .i64 (i : Int)] v2 fun e w' => e = .returned (.agg #[.int .i64 (atL L i).1, .int .i64 (atL L i).2]) ∧ ∃ m', Tab w' b pm ra rc ba bc ma mc m' (remL L i) (V.map uv) M ∧ But (TS b pm ra ba ma) v2 w') := remT v2 b pm ra rc ba bc ma mc m L (V.map uv) M H2.out i HP.out.1 HP.out.2.2.2.1
  go_upto_region 5 with (go_at_call 73; refine (RM.out).mono ?_; rintro e v3 ⟨rfl, m', h1, h2⟩)
  have H3 : Hid (Tab (v3.alloc (.cells #[.int .i64 (atL L i).1, .int .i64 (atL L i).2] 112)) b pm ra rc ba bc ma mc m' (remL L i) (V.map uv) M) := h1.but (S := fun _ => False) ((But.refl _ _).alloc _) (fun _ _ => id)
  have B3 : Hid (But (TS b pm ra ba ma) w (v3.alloc (.cells #[.int .i64 (atL L i).1, .int .i64 (atL L i).2] 112))) := ((B2.out.mono (fun _ e => e.elim)).trans h2).alloc _
  have X3 : Hid (CBox (v3.alloc (.cells #[.int .i64 (atL L i).1, .int .i64 (atL L i).2] 112)) bx 24 [.pointer (some ⟨b, 0, none⟩)] ∧ CBox (v3.alloc (.cells #[.int .i64 (atL L i).1, .int .i64 (atL L i).2] 112)) by_ 3 [.int .i64 (i : Int)] ∧ CBox (v3.alloc (.cells #[.int .i64 (atL L i).1, .int .i64 (atL L i).2] 112)) v3.heap.size 112 [.int .i64 (atL L i).1, .int .i64 (atL L i).2]) := ⟨(X2.out.but h2 NT.out.1).but (S := fun _ => False) ((But.refl _ _).alloc _) id, (Y2.out.but h2 NT.out.2.1).but (S := fun _ => False) ((But.refl _ _).alloc _) id, CBox.new v3 _ _⟩
  have NZ : Hid (¬ TS b pm ra ba ma v3.heap.size) := fun e => by have := HLT.out _ e; have := B2.out.size; have := h2.size; omega
  have NZ2 : Hid (w.heap.size ≤ v3.heap.size) := by have := B2.out.size; have := h2.size; show _ ≤ _; omega
  have W3 : Hid (∀ u ∈ V, UnOk (v3.alloc (.cells #[.int .i64 (atL L i).1, .int .i64 (atL L i).2] 112)) b (TS b pm ra ba ma) u) := fun u hu => (((HV.out u hu).kept B2.out (fun _ e => e.elim)).but h2 (Grown.refl _ _)).kept (T := fun _ => False) ((But.refl _ _).alloc _) (fun _ e => e.elim)
  have MX : Hid (IX m L) := H0.out.ix
  clear h1 h2 RM x0 y0 X2 Y2 B2 H2 HV H0
  generalize v3.alloc (.cells #[.int .i64 (atL L i).1, .int .i64 (atL L i).2] 112) = v4 at H3 B3 X3 W3 ⊢
  generalize v3.heap.size = bz at X3 NZ NZ2 ⊢
  have x1 : v4.cell? ⟨bx, 0, none⟩ = some (.pointer (some ⟨b, 0, none⟩)) := X3.out.1.cell 0
  have NO : Hid (Calls Try.prog 71 #[.pointer (some ⟨b, 0, none⟩), .func (.func 75) #[] #[.pointer (some ⟨bx, 0, none⟩), .pointer (some ⟨by_, 0, none⟩), .pointer (some ⟨bz, 0, none⟩)]] v4 fun e w' => e = .returned (.tuple #[]) ∧ ∃ S' V', TabU w' b S' (remL L i) V' M ∧ But (TS b pm ra ba ma) v4 w' ∧ Grown (TS b pm ra ba ma) S' v4 ∧ Noted w.heap.size M V V' L (remL L i)) := noteU v4 b pm ra rc ba bc ma mc m' (remL L i) V M H3.out W3.out HP.out.2.2.2.2 ⟨2, i, atL L i, bx, by_, bz⟩ ⟨X3.out.1, X3.out.2.1, fun _ => X3.out.2.2, NT.out.1, NT.out.2.1, fun _ => NZ.out⟩ L (by unfold okU; rw [if_neg (by show ¬ (2 : Nat) = 0; decide), if_neg (by show ¬ (2 : Nat) = 1; decide)]; exact ⟨by show i ≤ _; rw [remL_len]; have := HP.out.1; omega, fun j hj => rem_fresh MX.out i HP.out.1 j hj, by show I64 (atL L i).1; rw [HP.out.2.1]; exact HP.out.2.2.1⟩) (by unfold apU; rw [if_neg (by show ¬ (2 : Nat) = 0; decide), if_neg (by show ¬ (2 : Nat) = 1; decide)]; exact ins_rem L i HP.out.1) w.heap.size ⟨by have := EXY.out; show w.heap.size ≤ bx; omega, by have := EXY.out; show w.heap.size ≤ by_; omega, fun _ => NZ2.out⟩
  clear H3 X3 W3
  go_wp2_with (go_at_call 71; refine (NO.out).mono ?_; rintro e v5 ⟨rfl, S', V', q1, q2, q3, q4⟩)
  go_ret
  exact ⟨rfl, S', V', q1, B3.out.trans q2, (Grown.refl _ _).then B3.out.size q3, q4⟩
end Go.Proofs.Ytohfkgfjcnldaaa
