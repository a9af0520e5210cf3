/- Package container: the reader's field and fixed. -/
import Derived.Test.YtndhabhlajldeaaBkp
namespace Go.Proofs.Ytndhabhlajldeaa
open Go.RowKit
/-- what a reading comes to: its answer, or what is thrown -/
def Out {α : Type} (rb : Nat) (W : World) (r : Except Er α) (Q : α → Ending → World → Prop) (e : Ending) (W' : World) : Prop :=
  match r with
  | .ok x => Q x e W'
  | .error (c, a) => e = thrown c a ∧ RB rb W W'
theorem fld_cut {b : List Nat} {k wd why : Nat} {p : Nat → Bool} (h : b.length < k + wd) : fld b k wd why p = .error (50, b.length) := by unfold fld; rw [if_pos h]
theorem fld_ok {b : List Nat} {k wd why : Nat} {p : Nat → Bool} (h : k + wd ≤ b.length) (hp : p (rd b k wd) = true) : fld b k wd why p = .ok (rd b k wd) := by unfold fld; rw [if_neg (by omega), if_pos hp]
theorem fld_no {b : List Nat} {k wd why : Nat} {p : Nat → Bool} (h : k + wd ≤ b.length) (hp : p (rd b k wd) = false) : fld b k wd why p = .error (why, k) := by unfold fld; rw [if_neg (by omega), if_neg (by rw [hp]; decide)]
/-- what is told of a reading that went well -/
def FldQ (rb : Nat) (w : World) (bs : Value) (b : List Nat) (k : Nat) (x : Nat) (e : Ending) (w' : World) : Prop := e = .returned (.int .u64 (x : Int)) ∧ Rdr w' rb bs b k ∧ RB rb w w'
set_option maxHeartbeats 4000000 in
set_option maxRecDepth 100000 in
theorem field0_is (w : World) (rb : Nat) (bs : Value) (b : List Nat) (k wd why : Nat) (h : Rdr w rb bs b k) (hk : k ≤ b.length) (hw : wd ≤ 8) (p : Nat → Bool) (f : FuncId) (hE : ∀ args W, (callFunc f args).run Try.prog W = .ok (.enter f args) W)
    (hf : ∀ V, RB rb w V → Calls Try.prog f #[.int .u64 (rd b k wd : Int)] V fun e V' => e = .returned (.bool (p (rd b k wd))) ∧ V' = V) :
    Calls Try.prog 91 #[.pointer (some ⟨rb, 0, none⟩), .int .i64 (wd : Int), .int .i64 (why : Int), .func (.func f) #[] #[]] w fun e w' => Out rb w (fld b k wd why p) (FldQ rb w bs b (k + wd)) e w' := by
  have hk0 : w.cell? ⟨rb, 1, none⟩ = some (.int .i64 (k : Int)) := h.box.cell 1
  by_cases e0 : b.length < k + wd
  · have NC : Hid (Calls Try.prog 97 #[.pointer (some ⟨rb, 0, none⟩), .int .i64 (wd : Int)] w fun e w' => e = thrown 50 (b.length : Int) ∧ Below w.heap.size w w') := number_cut w rb bs b k wd h hk hw e0
    rw [fld_cut e0]
    generalize b.length = n at *
    clear h hf hk hw e0
    go_enter Try.func91, Try.ntmps91
    go_wp2_with (go_at_call 97; refine NC.out.mono ?_; rintro e w' ⟨rfl, hB⟩; unfold thrown rejV)
    exact ⟨rfl, rfl, below_but hB⟩
  · have NO : Hid (Calls Try.prog 97 #[.pointer (some ⟨rb, 0, none⟩), .int .i64 (wd : Int)] w fun e w' => e = .returned (.int .u64 (rd b k wd : Int)) ∧ Rdr w' rb bs b (k + wd) ∧ RB rb w w') := number_ok w rb bs b k wd h hw (by omega)
    have HF : Hid (∀ V, RB rb w V → Calls Try.prog f #[.int .u64 (rd b k wd : Int)] V fun e V' => e = .returned (.bool (p (rd b k wd))) ∧ V' = V) := hf
    have F1 : Hid (p (rd b k wd) = true → fld b k wd why p = .ok (rd b k wd)) := fun q => fld_ok (by omega) q
    have F2 : Hid (p (rd b k wd) = false → fld b k wd why p = .error (why, k)) := fun q => fld_no (by omega) q
    generalize fld b k wd why p = FF at *
    generalize rd b k wd = R at *
    generalize k + wd = t at *
    clear h hf hk hw e0
    go_enter Try.func91, Try.ntmps91
    go_upto_region 3 with (go_at_call 97; refine NO.out.mono ?_; rintro e w1 ⟨rfl, hR, hB⟩)
    have HH : Hid (Rdr w1 rb bs b t ∧ RB rb w w1) := ⟨hR, hB⟩
    clear hR hB NO hk0
    cases ep : p R with
    | true =>
      have E0 : Hid (FF = .ok R) := F1.out ep
      have CF : Hid (Calls Try.prog f #[.int .u64 (R : Int)] w1 fun e V' => e = .returned (.bool true) ∧ V' = w1) := by have := HF.out w1 HH.out.2; rwa [ep] at this
      clear HF F1 F2 ep
      go_wp2_with fail
      refine CF.out.mono ?_
      rintro e w' ⟨rfl, hw⟩
      have hw2 := hw.symm
      clear hw
      subst hw2
      go_wp2
      go_ret
      rw [E0.out]
      exact ⟨rfl, HH.out⟩
    | false =>
      have E0 : Hid (FF = .error (why, k)) := F2.out ep
      have CF : Hid (Calls Try.prog f #[.int .u64 (R : Int)] w1 fun e V' => e = .returned (.bool false) ∧ V' = w1) := by have := HF.out w1 HH.out.2; rwa [ep] at this
      clear HF F1 F2 ep
      go_wp2_with fail
      refine CF.out.mono ?_
      rintro e w' ⟨rfl, hw⟩
      have hw2 := hw.symm
      clear hw
      subst hw2
      go_wp2_with (go_at_call 98; refine (giveUp_is _ (why : Int) (k : Int)).mono ?_; rintro e w' ⟨rfl, hw⟩; (have hw2 := hw.symm); clear hw; subst hw2; unfold thrown rejV)
      refine ⟨rfl, ?_⟩
      rw [E0.out]
      exact ⟨rfl, HH.out.2⟩
set_option maxHeartbeats 4000000 in
set_option maxRecDepth 100000 in
theorem field1_is (w : World) (rb : Nat) (bs : Value) (b : List Nat) (k wd why : Nat) (h : Rdr w rb bs b k) (hk : k ≤ b.length) (hw : wd ≤ 8) (p : Nat → Bool) (f : FuncId) (c0 : Value) (hE : ∀ args W, (callFunc f args).run Try.prog W = .ok (.enter f args) W)
    (hf : ∀ V, RB rb w V → Calls Try.prog f #[.int .u64 (rd b k wd : Int), c0] V fun e V' => e = .returned (.bool (p (rd b k wd))) ∧ V' = V) :
    Calls Try.prog 91 #[.pointer (some ⟨rb, 0, none⟩), .int .i64 (wd : Int), .int .i64 (why : Int), .func (.func f) #[] #[c0]] w fun e w' => Out rb w (fld b k wd why p) (FldQ rb w bs b (k + wd)) e w' := by
  have hk0 : w.cell? ⟨rb, 1, none⟩ = some (.int .i64 (k : Int)) := h.box.cell 1
  by_cases e0 : b.length < k + wd
  · have NC : Hid (Calls Try.prog 97 #[.pointer (some ⟨rb, 0, none⟩), .int .i64 (wd : Int)] w fun e w' => e = thrown 50 (b.length : Int) ∧ Below w.heap.size w w') := number_cut w rb bs b k wd h hk hw e0
    rw [fld_cut e0]
    generalize b.length = n at *
    clear h hf hk hw e0
    go_enter Try.func91, Try.ntmps91
    go_wp2_with (go_at_call 97; refine NC.out.mono ?_; rintro e w' ⟨rfl, hB⟩; unfold thrown rejV)
    exact ⟨rfl, rfl, below_but hB⟩
  · have NO : Hid (Calls Try.prog 97 #[.pointer (some ⟨rb, 0, none⟩), .int .i64 (wd : Int)] w fun e w' => e = .returned (.int .u64 (rd b k wd : Int)) ∧ Rdr w' rb bs b (k + wd) ∧ RB rb w w') := number_ok w rb bs b k wd h hw (by omega)
    have HF : Hid (∀ V, RB rb w V → Calls Try.prog f #[.int .u64 (rd b k wd : Int), c0] V fun e V' => e = .returned (.bool (p (rd b k wd))) ∧ V' = V) := hf
    have F1 : Hid (p (rd b k wd) = true → fld b k wd why p = .ok (rd b k wd)) := fun q => fld_ok (by omega) q
    have F2 : Hid (p (rd b k wd) = false → fld b k wd why p = .error (why, k)) := fun q => fld_no (by omega) q
    generalize fld b k wd why p = FF at *
    generalize rd b k wd = R at *
    generalize k + wd = t at *
    clear h hf hk hw e0
    go_enter Try.func91, Try.ntmps91
    go_upto_region 3 with (go_at_call 97; refine NO.out.mono ?_; rintro e w1 ⟨rfl, hR, hB⟩)
    have HH : Hid (Rdr w1 rb bs b t ∧ RB rb w w1) := ⟨hR, hB⟩
    clear hR hB NO hk0
    cases ep : p R with
    | true =>
      have E0 : Hid (FF = .ok R) := F1.out ep
      have CF : Hid (Calls Try.prog f #[.int .u64 (R : Int), c0] w1 fun e V' => e = .returned (.bool true) ∧ V' = w1) := by have := HF.out w1 HH.out.2; rwa [ep] at this
      clear HF F1 F2 ep
      go_wp2_with fail
      refine CF.out.mono ?_
      rintro e w' ⟨rfl, hw⟩
      have hw2 := hw.symm
      clear hw
      subst hw2
      go_wp2
      go_ret
      rw [E0.out]
      exact ⟨rfl, HH.out⟩
    | false =>
      have E0 : Hid (FF = .error (why, k)) := F2.out ep
      have CF : Hid (Calls Try.prog f #[.int .u64 (R : Int), c0] w1 fun e V' => e = .returned (.bool false) ∧ V' = w1) := by have := HF.out w1 HH.out.2; rwa [ep] at this
      clear HF F1 F2 ep
      go_wp2_with fail
      refine CF.out.mono ?_
      rintro e w' ⟨rfl, hw⟩
      have hw2 := hw.symm
      clear hw
      subst hw2
      go_wp2_with (go_at_call 98; refine (giveUp_is _ (why : Int) (k : Int)).mono ?_; rintro e w' ⟨rfl, hw⟩; (have hw2 := hw.symm); clear hw; subst hw2; unfold thrown rejV)
      refine ⟨rfl, ?_⟩
      rw [E0.out]
      exact ⟨rfl, HH.out.2⟩
set_option maxHeartbeats 4000000 in
set_option maxRecDepth 100000 in
theorem field2_is (w : World) (rb : Nat) (bs : Value) (b : List Nat) (k wd why : Nat) (h : Rdr w rb bs b k) (hk : k ≤ b.length) (hw : wd ≤ 8) (p : Nat → Bool) (f : FuncId) (c0 : Value) (c1 : Value) (hE : ∀ args W, (callFunc f args).run Try.prog W = .ok (.enter f args) W)
    (hf : ∀ V, RB rb w V → Calls Try.prog f #[.int .u64 (rd b k wd : Int), c0, c1] V fun e V' => e = .returned (.bool (p (rd b k wd))) ∧ V' = V) :
    Calls Try.prog 91 #[.pointer (some ⟨rb, 0, none⟩), .int .i64 (wd : Int), .int .i64 (why : Int), .func (.func f) #[] #[c0, c1]] w fun e w' => Out rb w (fld b k wd why p) (FldQ rb w bs b (k + wd)) e w' := by
  have hk0 : w.cell? ⟨rb, 1, none⟩ = some (.int .i64 (k : Int)) := h.box.cell 1
  by_cases e0 : b.length < k + wd
  · have NC : Hid (Calls Try.prog 97 #[.pointer (some ⟨rb, 0, none⟩), .int .i64 (wd : Int)] w fun e w' => e = thrown 50 (b.length : Int) ∧ Below w.heap.size w w') := number_cut w rb bs b k wd h hk hw e0
    rw [fld_cut e0]
    generalize b.length = n at *
    clear h hf hk hw e0
    go_enter Try.func91, Try.ntmps91
    go_wp2_with (go_at_call 97; refine NC.out.mono ?_; rintro e w' ⟨rfl, hB⟩; unfold thrown rejV)
    exact ⟨rfl, rfl, below_but hB⟩
  · have NO : Hid (Calls Try.prog 97 #[.pointer (some ⟨rb, 0, none⟩), .int .i64 (wd : Int)] w fun e w' => e = .returned (.int .u64 (rd b k wd : Int)) ∧ Rdr w' rb bs b (k + wd) ∧ RB rb w w') := number_ok w rb bs b k wd h hw (by omega)
    have HF : Hid (∀ V, RB rb w V → Calls Try.prog f #[.int .u64 (rd b k wd : Int), c0, c1] V fun e V' => e = .returned (.bool (p (rd b k wd))) ∧ V' = V) := hf
    have F1 : Hid (p (rd b k wd) = true → fld b k wd why p = .ok (rd b k wd)) := fun q => fld_ok (by omega) q
    have F2 : Hid (p (rd b k wd) = false → fld b k wd why p = .error (why, k)) := fun q => fld_no (by omega) q
    generalize fld b k wd why p = FF at *
    generalize rd b k wd = R at *
    generalize k + wd = t at *
    clear h hf hk hw e0
    go_enter Try.func91, Try.ntmps91
    go_upto_region 3 with (go_at_call 97; refine NO.out.mono ?_; rintro e w1 ⟨rfl, hR, hB⟩)
    have HH : Hid (Rdr w1 rb bs b t ∧ RB rb w w1) := ⟨hR, hB⟩
    clear hR hB NO hk0
    cases ep : p R with
    | true =>
      have E0 : Hid (FF = .ok R) := F1.out ep
      have CF : Hid (Calls Try.prog f #[.int .u64 (R : Int), c0, c1] w1 fun e V' => e = .returned (.bool true) ∧ V' = w1) := by have := HF.out w1 HH.out.2; rwa [ep] at this
      clear HF F1 F2 ep
      go_wp2_with fail
      refine CF.out.mono ?_
      rintro e w' ⟨rfl, hw⟩
      have hw2 := hw.symm
      clear hw
      subst hw2
      go_wp2
      go_ret
      rw [E0.out]
      exact ⟨rfl, HH.out⟩
    | false =>
      have E0 : Hid (FF = .error (why, k)) := F2.out ep
      have CF : Hid (Calls Try.prog f #[.int .u64 (R : Int), c0, c1] w1 fun e V' => e = .returned (.bool false) ∧ V' = w1) := by have := HF.out w1 HH.out.2; rwa [ep] at this
      clear HF F1 F2 ep
      go_wp2_with fail
      refine CF.out.mono ?_
      rintro e w' ⟨rfl, hw⟩
      have hw2 := hw.symm
      clear hw
      subst hw2
      go_wp2_with (go_at_call 98; refine (giveUp_is _ (why : Int) (k : Int)).mono ?_; rintro e w' ⟨rfl, hw⟩; (have hw2 := hw.symm); clear hw; subst hw2; unfold thrown rejV)
      refine ⟨rfl, ?_⟩
      rw [E0.out]
      exact ⟨rfl, HH.out.2⟩
set_option maxHeartbeats 4000000 in
set_option maxRecDepth 100000 in
theorem fixed1_is (V : World) (g : Nat) (x y : Int) (h : V.cell? ⟨g, 0, none⟩ = some (.int .u64 y)) : Calls Try.prog 112 #[.int .u64 x, .pointer (some ⟨g, 0, none⟩)] V fun e V' => e = .returned (.bool (x == y)) ∧ V' = V := by
  go_enter Try.func112, Try.ntmps112
  go_wp2
  go_ret
  exact ⟨rfl, rfl⟩
theorem eq_nat (x y : Nat) : ((x : Int) == (y : Int)) = (x == y) := by
  rw [Bool.eq_iff_iff, beq_iff_eq, beq_iff_eq]; omega
set_option maxHeartbeats 4000000 in
set_option maxRecDepth 100000 in
theorem fixed_is (w : World) (rb : Nat) (bs : Value) (b : List Nat) (k want why : Nat) (h : Rdr w rb bs b k) (hk : k ≤ b.length) :
    Calls Try.prog 90 #[.pointer (some ⟨rb, 0, none⟩), .int .u64 (want : Int), .int .i64 (why : Int)] w fun e w' => Out rb w (fld b k 1 why (fun n => n == want)) (fun _ e w' => e = .returned (.tuple #[]) ∧ Rdr w' rb bs b (k + 1) ∧ RB rb w w') e w' := by
  have B0 : Hid (Below w.heap.size w (w.alloc (.cells #[.int .u64 (want : Int)] 73))) := below_alloc _ _
  have C0 : Hid (CBox (w.alloc (.cells #[.int .u64 (want : Int)] 73)) w.heap.size 73 [.int .u64 (want : Int)]) := CBox.new w _ [_]
  have NE : Hid (w.heap.size ≠ rb) := by unfold Hid; have := h.box.lt; omega
  have FC : Hid (Calls Try.prog 91 #[.pointer (some ⟨rb, 0, none⟩), .int .i64 1, .int .i64 (why : Int), .func (.func 112) #[] #[.pointer (some ⟨w.heap.size, 0, none⟩)]] (w.alloc (.cells #[.int .u64 (want : Int)] 73)) fun e w' => Out rb (w.alloc (.cells #[.int .u64 (want : Int)] 73)) (fld b k 1 why (fun n => n == want)) (FldQ rb (w.alloc (.cells #[.int .u64 (want : Int)] 73)) bs b (k + 1)) e w') :=
    field1_is _ rb bs b k 1 why (h.past B0.out) hk (by omega) (fun n => n == want) 112 _ (fun _ _ => by kernel_rfl) fun V hV => by
      have := fixed1_is V w.heap.size (rd b k 1 : Int) (want : Int) ((C0.out.but hV NE.out).cell 0)
      rwa [eq_nat] at this
  generalize fld b k 1 why (fun n => n == want) = FF at *
  clear h hk C0 NE
  go_enter Try.func90, Try.ntmps90
  go_upto_region 1 with fail
  generalize w.alloc _ = W0 at B0 FC ⊢
  generalize w.heap.size = g0 at FC ⊢
  cases FF with
  | ok x =>
    go_wp2_with (go_at_call 91; refine FC.out.mono ?_; rintro e w' ⟨rfl, hR, hB⟩)
    go_end0
    exact ⟨rfl, hR, (below_but (S := fun g => g = rb) B0.out).trans hB⟩
  | error er =>
    obtain ⟨ec, ea⟩ := er
    go_wp2_with (go_at_call 91; refine FC.out.mono ?_; rintro e w' ⟨rfl, hB⟩; unfold thrown rejV)
    exact ⟨rfl, rfl, (below_but (S := fun g => g = rb) B0.out).trans hB⟩
end Go.Proofs.Ytndhabhlajldeaa
