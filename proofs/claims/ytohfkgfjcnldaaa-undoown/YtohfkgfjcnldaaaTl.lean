/- Package undo: Set, Delete. -/
import Derived.Test.YtohfkgfjcnldaaaTk
namespace Go.Proofs.Ytohfkgfjcnldaaa
open Go.RowKit
/-- what was noted of a change from L to L' -/
def Noted (n : Nat) (M : List Nat) (V V' : List Un) (L L' : List (Int × Int)) : Prop := (M = [] ∧ V' = V) ∨ (M ≠ [] ∧ ∃ u, V' = V ++ [u] ∧ okU u L' ∧ apU u L' = L ∧ n ≤ u.x ∧ n ≤ u.y ∧ (u.kd ≠ 0 → n ≤ u.z))
/-- a key gets a value -/
def setL (m : Int → Option Nat) (L : List (Int × Int)) (k v : Int) : List (Int × Int) := match m k with
  | none => insL L L.length (k, v)
  | some i => L.set i (k, v)
theorem noteU (w : World) (b pm : Nat) (ra : Option Addr) (rc : Nat) (ba : Option Addr) (bc : Nat) (ma : Option Addr) (mc : Nat) (m : Int → Option Nat) (L : List (Int × Int)) (V : List Un) (M : List Nat) (h : Tab w b pm ra rc ba bc ma mc m L (V.map uv) M) (hV : ∀ u ∈ V, UnOk w b (TS b pm ra ba ma) u) (hl : V.length < 549755813888) (u : Un) (hu : UnOk w b (TS b pm ra ba ma) u) (L0 : List (Int × Int)) (ho : okU u L) (ha : apU u L = L0) (n : Nat) (hn : n ≤ u.x ∧ n ≤ u.y ∧ (u.kd ≠ 0 → n ≤ u.z)) :
    Calls Try.prog 71 #[.pointer (some ⟨b, 0, none⟩), uv u] w fun e w' => e = .returned (.tuple #[]) ∧ ∃ S' V', TabU w' b S' L V' M ∧ But (TS b pm ra ba ma) w w' ∧ Grown (TS b pm ra ba ma) S' w ∧ Noted n M V V' L0 L := by
  by_cases hM : M = []
  · refine (note_no w b pm ra rc ba bc ma mc L.length m L (V.map uv) M h.toTab0 (uv u) hM).mono ?_
    rintro e w' ⟨rfl, rfl⟩
    exact ⟨rfl, _, V, ⟨pm, ra, rc, ba, bc, ma, mc, m, h, rfl, hV⟩, But.refl _ _, Grown.refl _ _, Or.inl ⟨hM, rfl⟩⟩
  · have hf : ∃ fn caps, uv u = .func fn #[] caps := by
      unfold uv
      split
      · exact ⟨_, _, rfl⟩
      · split
        · exact ⟨_, _, rfl⟩
        · exact ⟨_, _, rfl⟩
    obtain ⟨fn, caps, ef⟩ := hf
    rw [ef]
    refine (note_yes w b pm ra rc ba bc ma mc L.length m L (V.map uv) M h.toTab0 fn caps hM (by rw [List.length_map]; exact hl)).mono ?_
    rintro e w' ⟨rfl, ba', bc', h1, h2, h3⟩
    rw [← ef] at h1
    have e1 : V.map uv ++ [uv u] = (V ++ [u]).map uv := by simp
    rw [e1] at h1
    refine ⟨rfl, _, V ++ [u], ⟨pm, ra, rc, ba', bc', ma, mc, m, ⟨h1, h.ix, h.keys⟩, rfl, fun z hz => ?_⟩, h2, h3, Or.inr ⟨hM, u, rfl, ho, ha, hn⟩⟩
    rcases List.mem_append.1 hz with hz | hz
    · exact (hV z hz).but h2 h3
    · obtain rfl : z = u := by simpa using hz
      exact hu.but h2 h3
set_option maxHeartbeats 2000000 in
set_option maxRecDepth 100000 in
theorem set_new (w : World) (b pm : Nat) (ra : Option Addr) (rc : Nat) (ba : Option Addr) (bc : Nat) (ma : Option Addr) (mc : Nat) (m : Int → Option Nat) (L : List (Int × Int)) (V : List Un) (M : List Nat) (h : Tab w b pm ra rc ba bc ma mc m L (V.map uv) M) (hV : ∀ u ∈ V, UnOk w b (TS b pm ra ba ma) u) (k v : Int) (hk : I64 k) (hL : L.length < 549755813888) (hl : V.length < 549755813888) (hm : m k = none) :
    Calls Try.prog 39 #[.pointer (some ⟨b, 0, none⟩), .int .i64 k, .int .i64 v] w fun e w' => e = .returned (.tuple #[]) ∧ ∃ S' V', TabU w' b S' (insL L L.length (k, v)) V' M ∧ But (TS b pm ra ba ma) w w' ∧ Grown (TS b pm ra ba ma) S' w ∧ Noted w.heap.size M V V' L (insL L L.length (k, v)) := by
  have HV : Hid (∀ u ∈ V, UnOk w b (TS b pm ra ba ma) u) := hV
  have H0 : Hid (Tab w b pm ra rc ba bc ma mc m L (V.map uv) M) := h
  have HLT : Hid (∀ j, TS b pm ra ba ma j → j < w.heap.size) := h.toTab0.lt
  obtain ⟨w1, ew⟩ : ∃ w1, w.alloc (.cells #[.pointer (some ⟨b, 0, none⟩)] 24) = w1 := ⟨_, rfl⟩
  have X1 : Hid (CBox w1 w.heap.size 24 [.pointer (some ⟨b, 0, none⟩)]) := by rw [← ew]; exact CBox.new w _ _
  have B1 : Hid (But (fun _ => False) w w1) := by rw [← ew]; exact (But.refl _ _).alloc _
  have H1 : Hid (Tab w1 b pm ra rc ba bc ma mc m L (V.map uv) M) := h.but B1.out (fun _ _ => id)
  have S1 : Hid (w1.heap.size = w.heap.size + 1) := by rw [← ew]; show _ = _; simp
  have hk1 := H1.out.pl.look k hk
  have c1 := H1.out.c1
  obtain ⟨bx, ex⟩ : ∃ bx, w.heap.size = bx := ⟨_, rfl⟩
  rw [ex] at X1
  obtain ⟨by_, ey⟩ : ∃ by_, w1.heap.size = by_ := ⟨_, rfl⟩
  have EXY : Hid (w.heap.size = bx ∧ by_ = bx + 1) := ⟨ex, by have := S1.out; omega⟩
  have x0 : w1.cell? ⟨bx, 0, none⟩ = some (.pointer (some ⟨b, 0, none⟩)) := X1.out.cell 0
  rw [hm] at hk1
  simp only [Option.getD_none, Option.isSome_none, Int.natCast_zero] at hk1
  have HP : Hid (m k = none ∧ I64 k ∧ L.length < 549755813888 ∧ V.length < 549755813888) := ⟨hm, hk, hL, hl⟩
  obtain ⟨nn, en⟩ : ∃ nn, L.length = nn := ⟨_, rfl⟩
  have EN : Hid (L.length = nn) := en
  have nX : (nn : Int) < 549755813888 := by omega
  clear h hV hm hL hl hk
  go_enter Try.func39, Try.ntmps39
  go_upto_region 3 with fail
  have X2 : Hid (CBox (w1.alloc (.cells #[.int .i64 0] 3)) bx 24 [.pointer (some ⟨b, 0, none⟩)]) := X1.out.but (S := fun _ => False) ((But.refl _ _).alloc _) id
  have Y2 : Hid (CBox (w1.alloc (.cells #[.int .i64 0] 3)) w1.heap.size 3 [.int .i64 0]) := CBox.new w1 _ _
  have B2 : Hid (But (fun _ => False) w (w1.alloc (.cells #[.int .i64 0] 3))) := B1.out.alloc _
  have H2 : Hid (Tab (w1.alloc (.cells #[.int .i64 0] 3)) b pm ra rc ba bc ma mc m L (V.map uv) M) := H0.out.but B2.out (fun _ _ => id)
  rw [ey] at Y2
  generalize w1.alloc (.cells #[.int .i64 0] 3) = v2 at X2 Y2 B2 H2 ⊢
  clear X1 B1 H1 ew S1 hk1 c1 ex x0 ey
  have c0 : v2.cell? ⟨b, 0, none⟩ = some (.slice ra nn rc) := by rw [← EN.out]; exact H2.out.c0
  have x0 : v2.cell? ⟨bx, 0, none⟩ = some (.pointer (some ⟨b, 0, none⟩)) := X2.out.cell 0
  have y0 : v2.cell? ⟨by_, 0, none⟩ = some (.int .i64 0) := Y2.out.cell 0
  have f0 : v2.frozen? ⟨by_, 0, none⟩ = false := Y2.out.frozen 0
  go_upto_region 4 with fail
  have S3 : Hid (But (fun k => k = by_) v2 (v2.setCell ⟨by_, 0, none⟩ (.int .i64 (nn : Int)))) := (But.refl (fun k => k = by_) v2).setCell ⟨by_, 0, none⟩ (.int .i64 (nn : Int)) (Or.inl rfl)
  have NT : Hid (¬ TS b pm ra ba ma bx ∧ ¬ TS b pm ra ba ma by_ ∧ bx ≠ by_ ∧ w.heap.size ≤ by_) := ⟨fun e => by have := HLT.out _ e; have := EXY.out; omega, fun e => by have := HLT.out _ e; have := EXY.out; omega, by have := EXY.out; omega, by have := EXY.out; omega⟩
  have X3 : Hid (CBox (v2.setCell ⟨by_, 0, none⟩ (.int .i64 (nn : Int))) bx 24 [.pointer (some ⟨b, 0, none⟩)]) := X2.out.but S3.out NT.out.2.2.1
  have Y3 : Hid (CBox (v2.setCell ⟨by_, 0, none⟩ (.int .i64 (nn : Int))) by_ 3 [.int .i64 (nn : Int)]) := Y2.out.set 0 _
  have H3 : Hid (Tab (v2.setCell ⟨by_, 0, none⟩ (.int .i64 (nn : Int))) b pm ra rc ba bc ma mc m L (V.map uv) M) := H2.out.but S3.out (fun j hj e => NT.out.2.1 (e ▸ hj))
  have B3 : Hid (But (fun _ => False) w (v2.setCell ⟨by_, 0, none⟩ (.int .i64 (nn : Int)))) := B2.out.setCell _ _ (Or.inr NT.out.2.2.2)
  clear c0 x0 y0 f0 S3 X2 Y2 H2 B2
  generalize v2.setCell ⟨by_, 0, none⟩ (.int .i64 (nn : Int)) = v3 at X3 Y3 H3 B3 ⊢
  have x0 : v3.cell? ⟨bx, 0, none⟩ = some (.pointer (some ⟨b, 0, none⟩)) := X3.out.cell 0
  have y0 : v3.cell? ⟨by_, 0, none⟩ = some (.int .i64 (nn : Int)) := Y3.out.cell 0
  have IN : Hid (Calls Try.prog 70 #[.pointer (some ⟨b, 0, none⟩), .int .i64 (nn : Int), .agg #[.int .i64 k, .int .i64 v]] v3 fun e w' => e = .returned (.tuple #[]) ∧ ∃ ra' rc' m', Tab w' b pm ra' rc' ba bc ma mc m' (insL L nn (k, v)) (V.map uv) M ∧ But (TS b pm ra ba ma) v3 w' ∧ Grown (TS b pm ra ba ma) (TS b pm ra' ba ma) v3) := insT v3 b pm ra rc ba bc ma mc m L (V.map uv) M H3.out nn (k, v) (by rw [EN.out]; exact Nat.le_refl _) HP.out.1 HP.out.2.1 HP.out.2.2.1
  go_upto_region 5 with (go_at_call 70; refine (IN.out).mono ?_; rintro e v4 ⟨rfl, ra', rc', m', h1, h2, h3⟩)
  have H4 : Hid (Tab v4 b pm ra' rc' ba bc ma mc m' (insL L nn (k, v)) (V.map uv) M ∧ But (TS b pm ra ba ma) v3 v4 ∧ Grown (TS b pm ra ba ma) (TS b pm ra' ba ma) v3) := ⟨h1, h2, h3⟩
  have U4 : Hid (UnOk v4 b (TS b pm ra' ba ma) ⟨0, nn, (0, 0), bx, by_, 0⟩) := UnOk.but (S := TS b pm ra ba ma) (W := v3) ⟨X3.out, Y3.out, fun e => absurd rfl e, NT.out.1, NT.out.2.1, fun e => absurd rfl e⟩ h2 h3
  have W4 : Hid (∀ u ∈ V, UnOk v4 b (TS b pm ra' ba ma) u) := fun u hu => ((HV.out u hu).kept B3.out (fun _ e => e.elim)).but h2 h3
  have x1 : v4.cell? ⟨bx, 0, none⟩ = some (.pointer (some ⟨b, 0, none⟩)) := U4.out.cx.cell 0
  have NO : Hid (Calls Try.prog 71 #[.pointer (some ⟨b, 0, none⟩), .func (.func 72) #[] #[.pointer (some ⟨bx, 0, none⟩), .pointer (some ⟨by_, 0, none⟩)]] v4 fun e w' => e = .returned (.tuple #[]) ∧ ∃ S' V', TabU w' b S' (insL L nn (k, v)) V' M ∧ But (TS b pm ra' ba ma) v4 w' ∧ Grown (TS b pm ra' ba ma) S' v4 ∧ Noted w.heap.size M V V' L (insL L nn (k, v))) := noteU v4 b pm ra' rc' ba bc ma mc m' (insL L nn (k, v)) V M H4.out.1 W4.out HP.out.2.2.2 ⟨0, nn, (0, 0), bx, by_, 0⟩ U4.out L (by unfold okU; rw [if_pos rfl, insL_len, EN.out]; exact Nat.lt_succ_self _) (by unfold apU; rw [if_pos rfl]; have := rem_app L (k, v); rw [EN.out] at this; exact this) w.heap.size ⟨by have := EXY.out; show w.heap.size ≤ bx; omega, by have := EXY.out; show w.heap.size ≤ by_; omega, fun e => absurd rfl e⟩
  clear x0 y0 h1 h2 h3 IN X3 Y3 H3 U4 W4 HV
  go_wp2_with (go_at_call 71; refine (NO.out).mono ?_; rintro e v5 ⟨rfl, S', V', q1, q2, q3, q4⟩)
  refine bodyPost_ret (v := .tuple #[]) (results_none rfl _ _ _) rfl ?_
  rw [EN.out]
  have G4 : Grown (TS b pm ra ba ma) (TS b pm ra' ba ma) w := fun j hj => by
    rcases H4.out.2.2 j hj with e | e
    · exact Or.inl e
    · exact Or.inr (Nat.le_trans B3.out.size e)
  have Q4 : But (TS b pm ra ba ma) w v4 := (B3.out.mono (fun _ e => e.elim)).trans H4.out.2.1
  exact ⟨rfl, S', V', q1, Q4.then G4 q2, G4.then Q4.size q3, q4⟩
end Go.Proofs.Ytohfkgfjcnldaaa
