/- Package container: the reader's number and field. -/
import Derived.Test.YtndhabhlajldeaaMz2
namespace Go.Proofs.Ytndhabhlajldeaa
open Go.RowKit
theorem or8 (n x : Nat) (hx : x < 256) (hn : 256 * n + x < 18446744073709551616) : bits .or .u64 ((n * 256 : Nat) : Int) (x : Int) = ((256 * n + x : Nat) : Int) := by
  have e : (BitVec.ofInt 64 ((n * 256 : Nat) : Int) ||| BitVec.ofInt 64 (x : Int)).toNat = 256 * n + x := by
    have e64 : (2 : Nat) ^ 64 = 18446744073709551616 := by decide
    have e8 : (2 : Nat) ^ 8 = 256 := by decide
    have h := Nat.shiftLeft_add_eq_or_of_lt (i := 8) (b := x) (by rw [e8]; exact hx) n
    rw [Nat.shiftLeft_eq, e8] at h
    rw [BitVec.toNat_or, BitVec.ofInt_natCast, BitVec.ofInt_natCast, BitVec.toNat_ofNat, BitVec.toNat_ofNat, e64, Nat.mod_eq_of_lt (by omega), Nat.mod_eq_of_lt (by omega), ← h]
    omega
  show IntKind.u64.wrap (((BitVec.ofInt 64 ((n * 256 : Nat) : Int) ||| BitVec.ofInt 64 (x : Int)).toNat : Nat) : Int) = _
  rw [e, IntKind.wrap_u64]
  omega
theorem num_le_take (l : List Nat) (i : Nat) (hb : Byt l) : num (l.take i) < 256 ^ i := by
  have h := num_lt (l.take i) (fun x hx => hb x (List.mem_of_mem_take hx))
  exact Nat.lt_of_lt_of_le h (Nat.pow_le_pow_right (by omega) (by simp; omega))
set_option maxHeartbeats 4000000 in
set_option maxRecDepth 100000 in
theorem number_cut (w : World) (rb : Nat) (bs : Value) (b : List Nat) (k wd : Nat) (h : Rdr w rb bs b k) (hk : k ≤ b.length) (hw : wd ≤ 8) (hc : b.length < k + wd) :
    Calls Try.prog 97 #[.pointer (some ⟨rb, 0, none⟩), .int .i64 (wd : Int)] w fun e w' => e = thrown 50 (b.length : Int) ∧ Below w.heap.size w w' := by
  obtain ⟨ad, cap, rfl, hc0, _⟩ := h.by'.len
  have HR : Hid (Rdr w rb (.slice ad b.length cap) b k) := h
  have n0 : Hid (b.length ≤ 16777216) := h.len
  generalize hn : b.length = n at *
  obtain ⟨m, hm⟩ : ∃ m : Nat, m = n - k := ⟨_, rfl⟩
  have r1 : (n : Int) - (k : Int) = (m : Int) := by omega
  have w1 : IntKind.i64.wrap (m : Int) = (m : Int) := by rw [IntKind.wrap_i64]; have := n0.out; omega
  have c1 : (m : Int) < (wd : Int) := by omega
  have dc : decide ((m : Int) < (wd : Int)) = true := by simp [c1]
  have nI : (n : Int) ≤ 16777216 := by have := n0.out; omega
  clear h hk hc hm hn hc0 hw
  go_enter Try.func97, Try.ntmps97
  go_upto_region 1 with fail
  refine wp_region_held_drew (S := fun V' => CBox V' rb 81 [.slice ad n cap, .int .i64 (k : Int)]) (by kernel_rfl) (HR.out.box.past below_drew) (fun hHeld => ?_)
  have B0 : Hid (Below w.heap.size w w.drew) := below_drew
  generalize w.drew = z0 at hHeld B0 ⊢
  refine wpAnyH_take (i := 0) (v := .pointer (some ⟨rb, 0, none⟩)) ov0 (by kernel_rfl) (by kernel_rfl) (by kernel_rfl) (fun _ _ _ h => h) (Or.inl ⟨by rfl, fun V' hS => ?_⟩) hHeld ?_
  · go_simp
  simp only [Act.put, List.setIfInBounds_toArray, List.set_cons_zero, List.set_cons_succ]
  refine wpAnyH_take (i := 1) (v := .pointer (some ⟨rb, 0, none⟩)) ov1 (by kernel_rfl) (by kernel_rfl) (by kernel_rfl) (fun _ _ _ h => h) (Or.inl ⟨by rfl, fun V' hS => ?_⟩) hHeld ?_
  · go_simp
  simp only [Act.put, List.setIfInBounds_toArray, List.set_cons_zero, List.set_cons_succ]
  refine wpAnyH_take (i := 2) (v := .pointer (some ⟨rb, 0, none⟩)) ov2 (by kernel_rfl) (by kernel_rfl) (by kernel_rfl) (fun _ _ _ h => h) (Or.inl ⟨by rfl, fun V' hS => ?_⟩) hHeld ?_
  · go_simp
  simp only [Act.put, List.setIfInBounds_toArray, List.set_cons_zero, List.set_cons_succ]
  refine wpAnyH_take (i := 3) (v := .slice ad n cap) ov3 (by kernel_rfl) (by kernel_rfl) (by kernel_rfl) (fun _ _ _ h => h) (Or.inl ⟨by rfl, fun V' hS => ?_⟩) hHeld ?_
  · have c0 : V'.cell? ⟨rb, 0, none⟩ = some (.slice ad n cap) := hS.cell 0
    go_simp
  simp only [Act.put, List.setIfInBounds_toArray, List.set_cons_zero, List.set_cons_succ]
  refine wpAnyH_take (i := 4) (v := .int .i64 (n : Int)) ov4 (by kernel_rfl) (by kernel_rfl) (by kernel_rfl) (fun _ _ _ h => h) (Or.inl ⟨by rfl, fun V' hS => ?_⟩) hHeld ?_
  · go_simp
  simp only [Act.put, List.setIfInBounds_toArray, List.set_cons_zero, List.set_cons_succ]
  refine wpAnyH_take (i := 5) (v := .pointer (some ⟨rb, 0, none⟩)) ov5 (by kernel_rfl) (by kernel_rfl) (by kernel_rfl) (fun _ _ _ h => h) (Or.inl ⟨by rfl, fun V' hS => ?_⟩) hHeld ?_
  · go_simp
  simp only [Act.put, List.setIfInBounds_toArray, List.set_cons_zero, List.set_cons_succ]
  refine wpAnyH_take (i := 6) (v := .pointer (some ⟨rb, 0, none⟩)) ov6 (by kernel_rfl) (by kernel_rfl) (by kernel_rfl) (fun _ _ _ h => h) (Or.inl ⟨by rfl, fun V' hS => ?_⟩) hHeld ?_
  · go_simp
  simp only [Act.put, List.setIfInBounds_toArray, List.set_cons_zero, List.set_cons_succ]
  refine wpAnyH_take (i := 7) (v := .pointer (some ⟨rb, 1, none⟩)) ov7 (by kernel_rfl) (by kernel_rfl) (by kernel_rfl) (fun _ _ _ h => h) (Or.inl ⟨by rfl, fun V' hS => ?_⟩) hHeld ?_
  · go_simp
  simp only [Act.put, List.setIfInBounds_toArray, List.set_cons_zero, List.set_cons_succ]
  refine wpAnyH_take (i := 8) (v := .int .i64 (k : Int)) ov8 (by kernel_rfl) (by kernel_rfl) (by kernel_rfl) (fun _ _ _ h => h) (Or.inl ⟨by rfl, fun V' hS => ?_⟩) hHeld ?_
  · have c0 : V'.cell? ⟨rb, 1, none⟩ = some (.int .i64 (k : Int)) := hS.cell 1
    go_simp
  simp only [Act.put, List.setIfInBounds_toArray, List.set_cons_zero, List.set_cons_succ]
  refine wpAnyH_take (i := 9) (v := .int .i64 (m : Int)) ov9 (by kernel_rfl) (by kernel_rfl) (by kernel_rfl) (fun _ _ _ h => h) (Or.inl ⟨by rfl, fun V' hS => ?_⟩) hHeld ?_
  · go_simp
  simp only [Act.put, List.setIfInBounds_toArray, List.set_cons_zero, List.set_cons_succ]
  refine wpAnyH_take (i := 10) (v := .int .i64 (wd : Int)) ov10 (by kernel_rfl) (by kernel_rfl) (by kernel_rfl) (fun _ _ _ h => h) (Or.inl ⟨by rfl, fun V' hS => ?_⟩) hHeld ?_
  · go_simp
  simp only [Act.put, List.setIfInBounds_toArray, List.set_cons_zero, List.set_cons_succ]
  refine wpAnyH_take (i := 11) (v := .bool true) ov11 (by kernel_rfl) (by kernel_rfl) (by kernel_rfl) (fun _ _ _ h => h) (Or.inl ⟨by rfl, fun V' hS => ?_⟩) hHeld ?_
  · go_simp
  simp only [Act.put, List.setIfInBounds_toArray, List.set_cons_zero, List.set_cons_succ]
  refine wpAnyH_done (by kernel_rfl) ?_ _
  have c0 : z0.cell? ⟨rb, 0, none⟩ = some (.slice ad n cap) := hHeld.cell 0
  clear hHeld
  go_wp2_with (go_at_call 98; refine (giveUp_is _ 50 (n : Int)).mono ?_; rintro e w' ⟨rfl, hw⟩; (have hw2 := hw.symm); clear hw; subst hw2; unfold thrown rejV)
  exact ⟨rfl, rfl, B0.out⟩
set_option maxHeartbeats 4000000 in
set_option maxRecDepth 100000 in
theorem number_ok (w : World) (rb : Nat) (bs : Value) (b : List Nat) (k wd : Nat) (h : Rdr w rb bs b k) (hw : wd ≤ 8) (hc : k + wd ≤ b.length) :
    Calls Try.prog 97 #[.pointer (some ⟨rb, 0, none⟩), .int .i64 (wd : Int)] w fun e w' => e = .returned (.int .u64 (rd b k wd : Int)) ∧ Rdr w' rb bs b (k + wd) ∧ RB rb w w' := by
  obtain ⟨ad, cap, rfl, hc0, _⟩ := h.by'.len
  have HR : Hid (Rdr w rb (.slice ad b.length cap) b k) := h
  have n0 : Hid (b.length ≤ 16777216) := h.len
  have SLc : Hid (∀ W, BL (fun g => g < rb) W (.slice ad b.length cap) b → BL (fun g => g < rb) W (.slice (if cap = k then ad else ad.map (·.add k)) (k + wd - k) (cap - k)) ((b.drop k).take (k + wd - k))) := fun W q => q.mid k (k + wd) (by omega) hc
  have hsl := slice_ij ad b.length cap k (k + wd) (by omega) (by omega)
  have HB : Hid (Byt ((b.drop k).take wd)) := fun x hx => h.byt x (List.mem_of_mem_drop (List.mem_of_mem_take hx))
  have HL : Hid (((b.drop k).take wd).length = wd) := by unfold Hid; simp; omega
  rw [show k + wd - k = wd by omega] at SLc hsl
  generalize (if cap = k then ad else ad.map (·.add k)) = ad2 at SLc hsl
  generalize cap - k = cap2 at SLc hsl
  have HRD : Hid (num ((b.drop k).take wd) = rd b k wd) := rfl
  have RL : Hid (rd b k wd < 18446744073709551616) := rd_lt h.byt k wd hw
  generalize rd b k wd = RR at *
  generalize hseg : (b.drop k).take wd = seg at *
  clear hseg
  generalize hn : b.length = n at *
  obtain ⟨m, hm⟩ : ∃ m : Nat, m = n - k := ⟨_, rfl⟩
  obtain ⟨t, ht⟩ : ∃ t : Nat, t = k + wd := ⟨_, rfl⟩
  rw [← ht] at hsl
  rw [← ht]
  have r1 : (n : Int) - (k : Int) = (m : Int) := by omega
  have r2 : (k : Int) + (wd : Int) = (t : Int) := by omega
  have w1 : IntKind.i64.wrap (m : Int) = (m : Int) := by rw [IntKind.wrap_i64]; have := n0.out; omega
  have w2 : IntKind.i64.wrap (t : Int) = (t : Int) := by rw [IntKind.wrap_i64]; have := n0.out; omega
  have dc : ¬ (m : Int) < (wd : Int) := by omega
  have nI : (n : Int) ≤ 16777216 := by have := n0.out; omega
  have wI : (wd : Int) ≤ 8 := by omega
  have W8 : Hid (wd ≤ 8) := hw
  clear h hc hm hn hc0 hw ht
  go_enter Try.func97, Try.ntmps97
  go_upto_region 1 with fail
  refine wp_region_held_drew (S := fun V' => CBox V' rb 81 [.slice ad n cap, .int .i64 (k : Int)]) (by kernel_rfl) (HR.out.box.past below_drew) (fun hHeld => ?_)
  have B0 : Hid (Below w.heap.size w w.drew ∧ Rdr w.drew rb (.slice ad n cap) b k) := ⟨below_drew, HR.out.past below_drew⟩
  generalize w.drew = z0 at hHeld B0 ⊢
  refine wpAnyH_take (i := 0) (v := .pointer (some ⟨rb, 0, none⟩)) ov0 (by kernel_rfl) (by kernel_rfl) (by kernel_rfl) (fun _ _ _ h => h) (Or.inl ⟨by rfl, fun V' hS => ?_⟩) hHeld ?_
  · go_simp
  simp only [Act.put, List.setIfInBounds_toArray, List.set_cons_zero, List.set_cons_succ]
  refine wpAnyH_take (i := 1) (v := .pointer (some ⟨rb, 0, none⟩)) ov1 (by kernel_rfl) (by kernel_rfl) (by kernel_rfl) (fun _ _ _ h => h) (Or.inl ⟨by rfl, fun V' hS => ?_⟩) hHeld ?_
  · go_simp
  simp only [Act.put, List.setIfInBounds_toArray, List.set_cons_zero, List.set_cons_succ]
  refine wpAnyH_take (i := 2) (v := .pointer (some ⟨rb, 0, none⟩)) ov2 (by kernel_rfl) (by kernel_rfl) (by kernel_rfl) (fun _ _ _ h => h) (Or.inl ⟨by rfl, fun V' hS => ?_⟩) hHeld ?_
  · go_simp
  simp only [Act.put, List.setIfInBounds_toArray, List.set_cons_zero, List.set_cons_succ]
  refine wpAnyH_take (i := 3) (v := .slice ad n cap) ov3 (by kernel_rfl) (by kernel_rfl) (by kernel_rfl) (fun _ _ _ h => h) (Or.inl ⟨by rfl, fun V' hS => ?_⟩) hHeld ?_
  · have c0 : V'.cell? ⟨rb, 0, none⟩ = some (.slice ad n cap) := hS.cell 0
    go_simp
  simp only [Act.put, List.setIfInBounds_toArray, List.set_cons_zero, List.set_cons_succ]
  refine wpAnyH_take (i := 4) (v := .int .i64 (n : Int)) ov4 (by kernel_rfl) (by kernel_rfl) (by kernel_rfl) (fun _ _ _ h => h) (Or.inl ⟨by rfl, fun V' hS => ?_⟩) hHeld ?_
  · go_simp
  simp only [Act.put, List.setIfInBounds_toArray, List.set_cons_zero, List.set_cons_succ]
  refine wpAnyH_take (i := 5) (v := .pointer (some ⟨rb, 0, none⟩)) ov5 (by kernel_rfl) (by kernel_rfl) (by kernel_rfl) (fun _ _ _ h => h) (Or.inl ⟨by rfl, fun V' hS => ?_⟩) hHeld ?_
  · go_simp
  simp only [Act.put, List.setIfInBounds_toArray, List.set_cons_zero, List.set_cons_succ]
  refine wpAnyH_take (i := 6) (v := .pointer (some ⟨rb, 0, none⟩)) ov6 (by kernel_rfl) (by kernel_rfl) (by kernel_rfl) (fun _ _ _ h => h) (Or.inl ⟨by rfl, fun V' hS => ?_⟩) hHeld ?_
  · go_simp
  simp only [Act.put, List.setIfInBounds_toArray, List.set_cons_zero, List.set_cons_succ]
  refine wpAnyH_take (i := 7) (v := .pointer (some ⟨rb, 1, none⟩)) ov7 (by kernel_rfl) (by kernel_rfl) (by kernel_rfl) (fun _ _ _ h => h) (Or.inl ⟨by rfl, fun V' hS => ?_⟩) hHeld ?_
  · go_simp
  simp only [Act.put, List.setIfInBounds_toArray, List.set_cons_zero, List.set_cons_succ]
  refine wpAnyH_take (i := 8) (v := .int .i64 (k : Int)) ov8 (by kernel_rfl) (by kernel_rfl) (by kernel_rfl) (fun _ _ _ h => h) (Or.inl ⟨by rfl, fun V' hS => ?_⟩) hHeld ?_
  · have c0 : V'.cell? ⟨rb, 1, none⟩ = some (.int .i64 (k : Int)) := hS.cell 1
    go_simp
  simp only [Act.put, List.setIfInBounds_toArray, List.set_cons_zero, List.set_cons_succ]
  refine wpAnyH_take (i := 9) (v := .int .i64 (m : Int)) ov9 (by kernel_rfl) (by kernel_rfl) (by kernel_rfl) (fun _ _ _ h => h) (Or.inl ⟨by rfl, fun V' hS => ?_⟩) hHeld ?_
  · go_simp
  simp only [Act.put, List.setIfInBounds_toArray, List.set_cons_zero, List.set_cons_succ]
  refine wpAnyH_take (i := 10) (v := .int .i64 (wd : Int)) ov10 (by kernel_rfl) (by kernel_rfl) (by kernel_rfl) (fun _ _ _ h => h) (Or.inl ⟨by rfl, fun V' hS => ?_⟩) hHeld ?_
  · go_simp
  simp only [Act.put, List.setIfInBounds_toArray, List.set_cons_zero, List.set_cons_succ]
  refine wpAnyH_take (i := 11) (v := .bool false) ov11 (by kernel_rfl) (by kernel_rfl) (by kernel_rfl) (fun _ _ _ h => h) (Or.inl ⟨by rfl, fun V' hS => ?_⟩) hHeld ?_
  · go_simp
  simp only [Act.put, List.setIfInBounds_toArray, List.set_cons_zero, List.set_cons_succ]
  refine wpAnyH_done (by kernel_rfl) ?_ _
  clear hHeld HR
  go_upto_region 4 with fail
  refine wp_region_held_drew (S := fun V' => CBox V' rb 81 [.slice ad n cap, .int .i64 (k : Int)]) (by kernel_rfl) (B0.out.2.box.past below_drew) (fun hHeld => ?_)
  have B1 : Hid (Below w.heap.size w z0.drew ∧ Rdr z0.drew rb (.slice ad n cap) b k) := ⟨B0.out.1.trans (below_drew.mono B0.out.1.size), B0.out.2.past below_drew⟩
  clear B0
  generalize z0.drew = z1 at hHeld B1 ⊢
  refine wpAnyH_take (i := 0) (v := .pointer (some ⟨rb, 0, none⟩)) ov0 (by kernel_rfl) (by kernel_rfl) (by kernel_rfl) (fun _ _ _ h => h) (Or.inl ⟨by rfl, fun V' hS => ?_⟩) hHeld ?_
  · go_simp
  simp only [Act.put, List.setIfInBounds_toArray, List.set_cons_zero, List.set_cons_succ]
  refine wpAnyH_take (i := 1) (v := .pointer (some ⟨rb, 0, none⟩)) ov1 (by kernel_rfl) (by kernel_rfl) (by kernel_rfl) (fun _ _ _ h => h) (Or.inl ⟨by rfl, fun V' hS => ?_⟩) hHeld ?_
  · go_simp
  simp only [Act.put, List.setIfInBounds_toArray, List.set_cons_zero, List.set_cons_succ]
  refine wpAnyH_take (i := 2) (v := .pointer (some ⟨rb, 0, none⟩)) ov2 (by kernel_rfl) (by kernel_rfl) (by kernel_rfl) (fun _ _ _ h => h) (Or.inl ⟨by rfl, fun V' hS => ?_⟩) hHeld ?_
  · go_simp
  simp only [Act.put, List.setIfInBounds_toArray, List.set_cons_zero, List.set_cons_succ]
  refine wpAnyH_take (i := 3) (v := .slice ad n cap) ov3 (by kernel_rfl) (by kernel_rfl) (by kernel_rfl) (fun _ _ _ h => h) (Or.inl ⟨by rfl, fun V' hS => ?_⟩) hHeld ?_
  · have c0 : V'.cell? ⟨rb, 0, none⟩ = some (.slice ad n cap) := hS.cell 0
    go_simp
  simp only [Act.put, List.setIfInBounds_toArray, List.set_cons_zero, List.set_cons_succ]
  refine wpAnyH_take (i := 4) (v := .pointer (some ⟨rb, 0, none⟩)) ov4 (by kernel_rfl) (by kernel_rfl) (by kernel_rfl) (fun _ _ _ h => h) (Or.inl ⟨by rfl, fun V' hS => ?_⟩) hHeld ?_
  · go_simp
  simp only [Act.put, List.setIfInBounds_toArray, List.set_cons_zero, List.set_cons_succ]
  refine wpAnyH_take (i := 5) (v := .pointer (some ⟨rb, 0, none⟩)) ov5 (by kernel_rfl) (by kernel_rfl) (by kernel_rfl) (fun _ _ _ h => h) (Or.inl ⟨by rfl, fun V' hS => ?_⟩) hHeld ?_
  · go_simp
  simp only [Act.put, List.setIfInBounds_toArray, List.set_cons_zero, List.set_cons_succ]
  refine wpAnyH_take (i := 6) (v := .pointer (some ⟨rb, 1, none⟩)) ov6 (by kernel_rfl) (by kernel_rfl) (by kernel_rfl) (fun _ _ _ h => h) (Or.inl ⟨by rfl, fun V' hS => ?_⟩) hHeld ?_
  · go_simp
  simp only [Act.put, List.setIfInBounds_toArray, List.set_cons_zero, List.set_cons_succ]
  refine wpAnyH_take (i := 7) (v := .int .i64 (k : Int)) ov7 (by kernel_rfl) (by kernel_rfl) (by kernel_rfl) (fun _ _ _ h => h) (Or.inl ⟨by rfl, fun V' hS => ?_⟩) hHeld ?_
  · have c0 : V'.cell? ⟨rb, 1, none⟩ = some (.int .i64 (k : Int)) := hS.cell 1
    go_simp
  simp only [Act.put, List.setIfInBounds_toArray, List.set_cons_zero, List.set_cons_succ]
  refine wpAnyH_take (i := 8) (v := .pointer (some ⟨rb, 0, none⟩)) ov8 (by kernel_rfl) (by kernel_rfl) (by kernel_rfl) (fun _ _ _ h => h) (Or.inl ⟨by rfl, fun V' hS => ?_⟩) hHeld ?_
  · go_simp
  simp only [Act.put, List.setIfInBounds_toArray, List.set_cons_zero, List.set_cons_succ]
  refine wpAnyH_take (i := 9) (v := .pointer (some ⟨rb, 0, none⟩)) ov9 (by kernel_rfl) (by kernel_rfl) (by kernel_rfl) (fun _ _ _ h => h) (Or.inl ⟨by rfl, fun V' hS => ?_⟩) hHeld ?_
  · go_simp
  simp only [Act.put, List.setIfInBounds_toArray, List.set_cons_zero, List.set_cons_succ]
  refine wpAnyH_take (i := 10) (v := .pointer (some ⟨rb, 1, none⟩)) ov10 (by kernel_rfl) (by kernel_rfl) (by kernel_rfl) (fun _ _ _ h => h) (Or.inl ⟨by rfl, fun V' hS => ?_⟩) hHeld ?_
  · go_simp
  simp only [Act.put, List.setIfInBounds_toArray, List.set_cons_zero, List.set_cons_succ]
  refine wpAnyH_take (i := 11) (v := .int .i64 (k : Int)) ov11 (by kernel_rfl) (by kernel_rfl) (by kernel_rfl) (fun _ _ _ h => h) (Or.inl ⟨by rfl, fun V' hS => ?_⟩) hHeld ?_
  · have c0 : V'.cell? ⟨rb, 1, none⟩ = some (.int .i64 (k : Int)) := hS.cell 1
    go_simp
  simp only [Act.put, List.setIfInBounds_toArray, List.set_cons_zero, List.set_cons_succ]
  refine wpAnyH_take (i := 12) (v := .int .i64 (wd : Int)) ov12 (by kernel_rfl) (by kernel_rfl) (by kernel_rfl) (fun _ _ _ h => h) (Or.inl ⟨by rfl, fun V' hS => ?_⟩) hHeld ?_
  · go_simp
  simp only [Act.put, List.setIfInBounds_toArray, List.set_cons_zero, List.set_cons_succ]
  refine wpAnyH_take (i := 13) (v := .int .i64 (t : Int)) ov13 (by kernel_rfl) (by kernel_rfl) (by kernel_rfl) (fun _ _ _ h => h) (Or.inl ⟨by rfl, fun V' hS => ?_⟩) hHeld ?_
  · go_simp
  simp only [Act.put, List.setIfInBounds_toArray, List.set_cons_zero, List.set_cons_succ]
  refine wpAnyH_take (i := 14) (v := .slice ad2 wd cap2) ov14 (by kernel_rfl) (by kernel_rfl) (by kernel_rfl) (fun _ _ _ h => h) (Or.inl ⟨by rfl, fun V' hS => ?_⟩) hHeld ?_
  · go_simp
  simp only [Act.put, List.setIfInBounds_toArray, List.set_cons_zero, List.set_cons_succ]
  refine wpAnyH_take (i := 15) (v := .int .i64 (wd : Int)) ov15 (by kernel_rfl) (by kernel_rfl) (by kernel_rfl) (fun _ _ _ h => h) (Or.inl ⟨by rfl, fun V' hS => ?_⟩) hHeld ?_
  · go_simp
  simp only [Act.put, List.setIfInBounds_toArray, List.set_cons_zero, List.set_cons_succ]
  refine wpAnyH_take (i := 16) (v := .int .i64 0) ov16 (by kernel_rfl) (by kernel_rfl) (by kernel_rfl) (fun _ _ _ h => h) (Or.inl ⟨by rfl, fun V' hS => ?_⟩) hHeld ?_
  · go_simp
  simp only [Act.put, List.setIfInBounds_toArray, List.set_cons_zero, List.set_cons_succ]
  refine wpAnyH_done (by kernel_rfl) ?_ _
  clear hHeld hsl dc w1 r1
  have SG : Hid (BL (fun g => g < rb) z1 (.slice ad2 wd cap2) seg) := SLc.out z1 B1.out.2.by'
  clear SLc
  go_wp2
  go_loopw [5, 42] (fun s5 s42 wr => ∃ i : Nat, s42 = .int .i64 (i : Int) ∧ i ≤ wd ∧ s5 = .int .u64 (num (seg.take i) : Int) ∧ wr = z1) (fun _ s42 _ => wd - (intOf s42).toNat)
  case atStart => exact ⟨0, rfl, by omega, by simp [num], rfl⟩
  case round =>
    obtain ⟨i, rfl, hi, rfl, rfl⟩ := hrel
    by_cases e : i = wd
    · subst e
      have EV : Hid (num (seg.take i) = RR) := by unfold Hid; rw [List.take_of_length_le (by have := HL.out; omega)]; exact HRD.out
      rw [EV.out]
      have c1 : wr.cell? ⟨rb, 1, none⟩ = some (.int .i64 (k : Int)) := B1.out.2.box.cell 1
      have f1 := B1.out.2.box.frozen 1
      have HG : Hid (Rdr (wr.setCell ⟨rb, 1, none⟩ (.int .i64 (t : Int))) rb (.slice ad n cap) b t ∧ RB rb w (wr.setCell ⟨rb, 1, none⟩ (.int .i64 (t : Int)))) := ⟨(B1.out.2.go t).1, (below_but (S := fun g => g = rb) B1.out.1).trans (B1.out.2.go t).2⟩
      clear B1 SG
      go_wp2
      go_ret
      exact ⟨rfl, HG.out⟩
    · have iI : (i : Int) < (wd : Int) := by omega
      obtain ⟨x, hx⟩ : ∃ x, seg[i]? = some x := ⟨seg[i]'(by have := HL.out; omega), List.getElem?_eq_getElem _⟩
      obtain ⟨g, a, rfl, hcell⟩ := SG.out.get hx
      have x8 : x < 256 := HB.out x (List.mem_of_getElem? hx)
      obtain ⟨y, hy⟩ : ∃ y : Nat, y = num (seg.take i) := ⟨_, rfl⟩
      have hy2 : num (seg.take (i + 1)) = 256 * y + x := by rw [take_snoc hx, num_snoc, hy]
      have hlt : 256 * y + x < 18446744073709551616 := by
        have h1 := num_le_take seg (i + 1) HB.out
        have h2 : (256 : Nat) ^ (i + 1) ≤ 256 ^ 8 := Nat.pow_le_pow_right (by omega) (by have := W8.out; omega)
        have h3 : (256 : Nat) ^ 8 = 18446744073709551616 := by decide
        omega
      rw [← hy]
      obtain ⟨y2, ey2⟩ : ∃ y2 : Nat, y2 = 256 * y + x := ⟨_, rfl⟩
      have r3 : (y : Int) * 256 = ((y * 256 : Nat) : Int) := by rw [Int.natCast_mul]; rfl
      have r4 : IntKind.u64.wrap ((y * 256 : Nat) : Int) = ((y * 256 : Nat) : Int) := by rw [IntKind.wrap_u64]; omega
      have r5 : bits .or .u64 ((y * 256 : Nat) : Int) (x : Int) = (y2 : Int) := by rw [or8 y x x8 hlt, ey2]
      have r6 : IntKind.u64.wrap (x : Int) = (x : Int) := by rw [IntKind.wrap_u64]; omega
      have HY : Hid (num (seg.take (i + 1)) = y2) := by unfold Hid; rw [hy2, ey2]
      generalize y * 256 = y256 at *
      clear hy hy2 hlt ey2 hx x8 e
      go_wp2
      go_roundw
      case rel => exact ⟨i + 1, by first | rfl | go_num, by omega, by rw [HY.out], by first | rfl | trivial⟩
      case measure => simp [intOf]; omega
end Go.Proofs.Ytndhabhlajldeaa
/- Package container: the reader's field and fixed. -/
namespace Go.Proofs.Ytndhabhlajldeaa
open Go.RowKit
/-- what a reading comes to: its answer, or what is thrown -/
def Out {α : Type} (rb : Nat) (W : World) (r : Except Er α) (Q : α → Ending → World → Prop) (e : Ending) (W' : World) : Prop :=
  match r with
  | .ok x => Q x e W'
  | .error (c, a) => e = thrown c a ∧ RB rb W W'
theorem fld_cut {b : List Nat} {k wd why : Nat} {p : Nat → Bool} (h : b.length < k + wd) : fld b k wd why p = .error (50, b.length) := by unfold fld; rw [if_pos h]
theorem fld_ok {b : List Nat} {k wd why : Nat} {p : Nat → Bool} (h : k + wd ≤ b.length) (hp : p (rd b k wd) = true) : fld b k wd why p = .ok (rd b k wd) := by unfold fld; rw [if_neg (by omega), if_pos hp]
theorem fld_no {b : List Nat} {k wd why : Nat} {p : Nat → Bool} (h : k + wd ≤ b.length) (hp : p (rd b k wd) = false) : fld b k wd why p = .error (why, k) := by unfold fld; rw [if_neg (by omega), if_neg (by rw [hp]; decide)]
/-- what is told of a reading that went well -/
def FldQ (rb : Nat) (w : World) (bs : Value) (b : List Nat) (k : Nat) (x : Nat) (e : Ending) (w' : World) : Prop := e = .returned (.int .u64 (x : Int)) ∧ Rdr w' rb bs b k ∧ RB rb w w'
set_option maxHeartbeats 4000000 in
set_option maxRecDepth 100000 in
theorem field0_is (w : World) (rb : Nat) (bs : Value) (b : List Nat) (k wd why : Nat) (h : Rdr w rb bs b k) (hk : k ≤ b.length) (hw : wd ≤ 8) (p : Nat → Bool) (f : FuncId) (hE : ∀ args W, (callFunc f args).run Try.prog W = .ok (.enter f args) W)
    (hf : ∀ V, RB rb w V → Calls Try.prog f #[.int .u64 (rd b k wd : Int)] V fun e V' => e = .returned (.bool (p (rd b k wd))) ∧ V' = V) :
    Calls Try.prog 91 #[.pointer (some ⟨rb, 0, none⟩), .int .i64 (wd : Int), .int .i64 (why : Int), .func (.func f) #[] #[]] w fun e w' => Out rb w (fld b k wd why p) (FldQ rb w bs b (k + wd)) e w' := by
  have hk0 : w.cell? ⟨rb, 1, none⟩ = some (.int .i64 (k : Int)) := h.box.cell 1
  by_cases e0 : b.length < k + wd
  · have NC : Hid (Calls Try.prog 97 #[.pointer (some ⟨rb, 0, none⟩), .int .i64 (wd : Int)] w fun e w' => e = thrown 50 (b.length : Int) ∧ Below w.heap.size w w') := number_cut w rb bs b k wd h hk hw e0
    rw [fld_cut e0]
    generalize b.length = n at *
    clear h hf hk hw e0
    go_enter Try.func91, Try.ntmps91
    go_wp2_with (go_at_call 97; refine NC.out.mono ?_; rintro e w' ⟨rfl, hB⟩; unfold thrown rejV)
    exact ⟨rfl, rfl, below_but hB⟩
  · have NO : Hid (Calls Try.prog 97 #[.pointer (some ⟨rb, 0, none⟩), .int .i64 (wd : Int)] w fun e w' => e = .returned (.int .u64 (rd b k wd : Int)) ∧ Rdr w' rb bs b (k + wd) ∧ RB rb w w') := number_ok w rb bs b k wd h hw (by omega)
    have HF : Hid (∀ V, RB rb w V → Calls Try.prog f #[.int .u64 (rd b k wd : Int)] V fun e V' => e = .returned (.bool (p (rd b k wd))) ∧ V' = V) := hf
    have F1 : Hid (p (rd b k wd) = true → fld b k wd why p = .ok (rd b k wd)) := fun q => fld_ok (by omega) q
    have F2 : Hid (p (rd b k wd) = false → fld b k wd why p = .error (why, k)) := fun q => fld_no (by omega) q
    generalize fld b k wd why p = FF at *
    generalize rd b k wd = R at *
    generalize k + wd = t at *
    clear h hf hk hw e0
    go_enter Try.func91, Try.ntmps91
    go_upto_region 3 with (go_at_call 97; refine NO.out.mono ?_; rintro e w1 ⟨rfl, hR, hB⟩)
    have HH : Hid (Rdr w1 rb bs b t ∧ RB rb w w1) := ⟨hR, hB⟩
    clear hR hB NO hk0
    cases ep : p R with
    | true =>
      have E0 : Hid (FF = .ok R) := F1.out ep
      have CF : Hid (Calls Try.prog f #[.int .u64 (R : Int)] w1 fun e V' => e = .returned (.bool true) ∧ V' = w1) := by have := HF.out w1 HH.out.2; rwa [ep] at this
      clear HF F1 F2 ep
      go_wp2_with fail
      refine CF.out.mono ?_
      rintro e w' ⟨rfl, hw⟩
      have hw2 := hw.symm
      clear hw
      subst hw2
      go_wp2
      go_ret
      rw [E0.out]
      exact ⟨rfl, HH.out⟩
    | false =>
      have E0 : Hid (FF = .error (why, k)) := F2.out ep
      have CF : Hid (Calls Try.prog f #[.int .u64 (R : Int)] w1 fun e V' => e = .returned (.bool false) ∧ V' = w1) := by have := HF.out w1 HH.out.2; rwa [ep] at this
      clear HF F1 F2 ep
      go_wp2_with fail
      refine CF.out.mono ?_
      rintro e w' ⟨rfl, hw⟩
      have hw2 := hw.symm
      clear hw
      subst hw2
      go_wp2_with (go_at_call 98; refine (giveUp_is _ (why : Int) (k : Int)).mono ?_; rintro e w' ⟨rfl, hw⟩; (have hw2 := hw.symm); clear hw; subst hw2; unfold thrown rejV)
      refine ⟨rfl, ?_⟩
      rw [E0.out]
      exact ⟨rfl, HH.out.2⟩
set_option maxHeartbeats 4000000 in
set_option maxRecDepth 100000 in
theorem field1_is (w : World) (rb : Nat) (bs : Value) (b : List Nat) (k wd why : Nat) (h : Rdr w rb bs b k) (hk : k ≤ b.length) (hw : wd ≤ 8) (p : Nat → Bool) (f : FuncId) (c0 : Value) (hE : ∀ args W, (callFunc f args).run Try.prog W = .ok (.enter f args) W)
    (hf : ∀ V, RB rb w V → Calls Try.prog f #[.int .u64 (rd b k wd : Int), c0] V fun e V' => e = .returned (.bool (p (rd b k wd))) ∧ V' = V) :
    Calls Try.prog 91 #[.pointer (some ⟨rb, 0, none⟩), .int .i64 (wd : Int), .int .i64 (why : Int), .func (.func f) #[] #[c0]] w fun e w' => Out rb w (fld b k wd why p) (FldQ rb w bs b (k + wd)) e w' := by
  have hk0 : w.cell? ⟨rb, 1, none⟩ = some (.int .i64 (k : Int)) := h.box.cell 1
  by_cases e0 : b.length < k + wd
  · have NC : Hid (Calls Try.prog 97 #[.pointer (some ⟨rb, 0, none⟩), .int .i64 (wd : Int)] w fun e w' => e = thrown 50 (b.length : Int) ∧ Below w.heap.size w w') := number_cut w rb bs b k wd h hk hw e0
    rw [fld_cut e0]
    generalize b.length = n at *
    clear h hf hk hw e0
    go_enter Try.func91, Try.ntmps91
    go_wp2_with (go_at_call 97; refine NC.out.mono ?_; rintro e w' ⟨rfl, hB⟩; unfold thrown rejV)
    exact ⟨rfl, rfl, below_but hB⟩
  · have NO : Hid (Calls Try.prog 97 #[.pointer (some ⟨rb, 0, none⟩), .int .i64 (wd : Int)] w fun e w' => e = .returned (.int .u64 (rd b k wd : Int)) ∧ Rdr w' rb bs b (k + wd) ∧ RB rb w w') := number_ok w rb bs b k wd h hw (by omega)
    have HF : Hid (∀ V, RB rb w V → Calls Try.prog f #[.int .u64 (rd b k wd : Int), c0] V fun e V' => e = .returned (.bool (p (rd b k wd))) ∧ V' = V) := hf
    have F1 : Hid (p (rd b k wd) = true → fld b k wd why p = .ok (rd b k wd)) := fun q => fld_ok (by omega) q
    have F2 : Hid (p (rd b k wd) = false → fld b k wd why p = .error (why, k)) := fun q => fld_no (by omega) q
    generalize fld b k wd why p = FF at *
    generalize rd b k wd = R at *
    generalize k + wd = t at *
    clear h hf hk hw e0
    go_enter Try.func91, Try.ntmps91
    go_upto_region 3 with (go_at_call 97; refine NO.out.mono ?_; rintro e w1 ⟨rfl, hR, hB⟩)
    have HH : Hid (Rdr w1 rb bs b t ∧ RB rb w w1) := ⟨hR, hB⟩
    clear hR hB NO hk0
    cases ep : p R with
    | true =>
      have E0 : Hid (FF = .ok R) := F1.out ep
      have CF : Hid (Calls Try.prog f #[.int .u64 (R : Int), c0] w1 fun e V' => e = .returned (.bool true) ∧ V' = w1) := by have := HF.out w1 HH.out.2; rwa [ep] at this
      clear HF F1 F2 ep
      go_wp2_with fail
      refine CF.out.mono ?_
      rintro e w' ⟨rfl, hw⟩
      have hw2 := hw.symm
      clear hw
      subst hw2
      go_wp2
      go_ret
      rw [E0.out]
      exact ⟨rfl, HH.out⟩
    | false =>
      have E0 : Hid (FF = .error (why, k)) := F2.out ep
      have CF : Hid (Calls Try.prog f #[.int .u64 (R : Int), c0] w1 fun e V' => e = .returned (.bool false) ∧ V' = w1) := by have := HF.out w1 HH.out.2; rwa [ep] at this
      clear HF F1 F2 ep
      go_wp2_with fail
      refine CF.out.mono ?_
      rintro e w' ⟨rfl, hw⟩
      have hw2 := hw.symm
      clear hw
      subst hw2
      go_wp2_with (go_at_call 98; refine (giveUp_is _ (why : Int) (k : Int)).mono ?_; rintro e w' ⟨rfl, hw⟩; (have hw2 := hw.symm); clear hw; subst hw2; unfold thrown rejV)
      refine ⟨rfl, ?_⟩
      rw [E0.out]
      exact ⟨rfl, HH.out.2⟩
set_option maxHeartbeats 4000000 in
set_option maxRecDepth 100000 in
theorem field2_is (w : World) (rb : Nat) (bs : Value) (b : List Nat) (k wd why : Nat) (h : Rdr w rb bs b k) (hk : k ≤ b.length) (hw : wd ≤ 8) (p : Nat → Bool) (f : FuncId) (c0 : Value) (c1 : Value) (hE : ∀ args W, (callFunc f args).run Try.prog W = .ok (.enter f args) W)
    (hf : ∀ V, RB rb w V → Calls Try.prog f #[.int .u64 (rd b k wd : Int), c0, c1] V fun e V' => e = .returned (.bool (p (rd b k wd))) ∧ V' = V) :
    Calls Try.prog 91 #[.pointer (some ⟨rb, 0, none⟩), .int .i64 (wd : Int), .int .i64 (why : Int), .func (.func f) #[] #[c0, c1]] w fun e w' => Out rb w (fld b k wd why p) (FldQ rb w bs b (k + wd)) e w' := by
  have hk0 : w.cell? ⟨rb, 1, none⟩ = some (.int .i64 (k : Int)) := h.box.cell 1
  by_cases e0 : b.length < k + wd
  · have NC : Hid (Calls Try.prog 97 #[.pointer (some ⟨rb, 0, none⟩), .int .i64 (wd : Int)] w fun e w' => e = thrown 50 (b.length : Int) ∧ Below w.heap.size w w') := number_cut w rb bs b k wd h hk hw e0
    rw [fld_cut e0]
    generalize b.length = n at *
    clear h hf hk hw e0
    go_enter Try.func91, Try.ntmps91
    go_wp2_with (go_at_call 97; refine NC.out.mono ?_; rintro e w' ⟨rfl, hB⟩; unfold thrown rejV)
    exact ⟨rfl, rfl, below_but hB⟩
  · have NO : Hid (Calls Try.prog 97 #[.pointer (some ⟨rb, 0, none⟩), .int .i64 (wd : Int)] w fun e w' => e = .returned (.int .u64 (rd b k wd : Int)) ∧ Rdr w' rb bs b (k + wd) ∧ RB rb w w') := number_ok w rb bs b k wd h hw (by omega)
    have HF : Hid (∀ V, RB rb w V → Calls Try.prog f #[.int .u64 (rd b k wd : Int), c0, c1] V fun e V' => e = .returned (.bool (p (rd b k wd))) ∧ V' = V) := hf
    have F1 : Hid (p (rd b k wd) = true → fld b k wd why p = .ok (rd b k wd)) := fun q => fld_ok (by omega) q
    have F2 : Hid (p (rd b k wd) = false → fld b k wd why p = .error (why, k)) := fun q => fld_no (by omega) q
    generalize fld b k wd why p = FF at *
    generalize rd b k wd = R at *
    generalize k + wd = t at *
    clear h hf hk hw e0
    go_enter Try.func91, Try.ntmps91
    go_upto_region 3 with (go_at_call 97; refine NO.out.mono ?_; rintro e w1 ⟨rfl, hR, hB⟩)
    have HH : Hid (Rdr w1 rb bs b t ∧ RB rb w w1) := ⟨hR, hB⟩
    clear hR hB NO hk0
    cases ep : p R with
    | true =>
      have E0 : Hid (FF = .ok R) := F1.out ep
      have CF : Hid (Calls Try.prog f #[.int .u64 (R : Int), c0, c1] w1 fun e V' => e = .returned (.bool true) ∧ V' = w1) := by have := HF.out w1 HH.out.2; rwa [ep] at this
      clear HF F1 F2 ep
      go_wp2_with fail
      refine CF.out.mono ?_
      rintro e w' ⟨rfl, hw⟩
      have hw2 := hw.symm
      clear hw
      subst hw2
      go_wp2
      go_ret
      rw [E0.out]
      exact ⟨rfl, HH.out⟩
    | false =>
      have E0 : Hid (FF = .error (why, k)) := F2.out ep
      have CF : Hid (Calls Try.prog f #[.int .u64 (R : Int), c0, c1] w1 fun e V' => e = .returned (.bool false) ∧ V' = w1) := by have := HF.out w1 HH.out.2; rwa [ep] at this
      clear HF F1 F2 ep
      go_wp2_with fail
      refine CF.out.mono ?_
      rintro e w' ⟨rfl, hw⟩
      have hw2 := hw.symm
      clear hw
      subst hw2
      go_wp2_with (go_at_call 98; refine (giveUp_is _ (why : Int) (k : Int)).mono ?_; rintro e w' ⟨rfl, hw⟩; (have hw2 := hw.symm); clear hw; subst hw2; unfold thrown rejV)
      refine ⟨rfl, ?_⟩
      rw [E0.out]
      exact ⟨rfl, HH.out.2⟩
set_option maxHeartbeats 4000000 in
set_option maxRecDepth 100000 in
theorem fixed1_is (V : World) (g : Nat) (x y : Int) (h : V.cell? ⟨g, 0, none⟩ = some (.int .u64 y)) : Calls Try.prog 112 #[.int .u64 x, .pointer (some ⟨g, 0, none⟩)] V fun e V' => e = .returned (.bool (x == y)) ∧ V' = V := by
  go_enter Try.func112, Try.ntmps112
  go_wp2
  go_ret
  exact ⟨rfl, rfl⟩
theorem eq_nat (x y : Nat) : ((x : Int) == (y : Int)) = (x == y) := by
  rw [Bool.eq_iff_iff, beq_iff_eq, beq_iff_eq]; omega
set_option maxHeartbeats 4000000 in
set_option maxRecDepth 100000 in
theorem fixed_is (w : World) (rb : Nat) (bs : Value) (b : List Nat) (k want why : Nat) (h : Rdr w rb bs b k) (hk : k ≤ b.length) :
    Calls Try.prog 90 #[.pointer (some ⟨rb, 0, none⟩), .int .u64 (want : Int), .int .i64 (why : Int)] w fun e w' => Out rb w (fld b k 1 why (fun n => n == want)) (fun _ e w' => e = .returned (.tuple #[]) ∧ Rdr w' rb bs b (k + 1) ∧ RB rb w w') e w' := by
  have B0 : Hid (Below w.heap.size w (w.alloc (.cells #[.int .u64 (want : Int)] 73))) := below_alloc _ _
  have C0 : Hid (CBox (w.alloc (.cells #[.int .u64 (want : Int)] 73)) w.heap.size 73 [.int .u64 (want : Int)]) := CBox.new w _ [_]
  have NE : Hid (w.heap.size ≠ rb) := by unfold Hid; have := h.box.lt; omega
  have FC : Hid (Calls Try.prog 91 #[.pointer (some ⟨rb, 0, none⟩), .int .i64 1, .int .i64 (why : Int), .func (.func 112) #[] #[.pointer (some ⟨w.heap.size, 0, none⟩)]] (w.alloc (.cells #[.int .u64 (want : Int)] 73)) fun e w' => Out rb (w.alloc (.cells #[.int .u64 (want : Int)] 73)) (fld b k 1 why (fun n => n == want)) (FldQ rb (w.alloc (.cells #[.int .u64 (want : Int)] 73)) bs b (k + 1)) e w') :=
    field1_is _ rb bs b k 1 why (h.past B0.out) hk (by omega) (fun n => n == want) 112 _ (fun _ _ => by kernel_rfl) fun V hV => by
      have := fixed1_is V w.heap.size (rd b k 1 : Int) (want : Int) ((C0.out.but hV NE.out).cell 0)
      rwa [eq_nat] at this
  generalize fld b k 1 why (fun n => n == want) = FF at *
  clear h hk C0 NE
  go_enter Try.func90, Try.ntmps90
  go_upto_region 1 with fail
  generalize w.alloc _ = W0 at B0 FC ⊢
  generalize w.heap.size = g0 at FC ⊢
  cases FF with
  | ok x =>
    go_wp2_with (go_at_call 91; refine FC.out.mono ?_; rintro e w' ⟨rfl, hR, hB⟩)
    go_end0
    exact ⟨rfl, hR, (below_but (S := fun g => g = rb) B0.out).trans hB⟩
  | error er =>
    obtain ⟨ec, ea⟩ := er
    go_wp2_with (go_at_call 91; refine FC.out.mono ?_; rintro e w' ⟨rfl, hB⟩; unfold thrown rejV)
    exact ⟨rfl, rfl, (below_but (S := fun g => g = rb) B0.out).trans hB⟩
end Go.Proofs.Ytndhabhlajldeaa
/- bytes.Clone; package container: the reader's lengths and measure. -/
namespace Go.Proofs.Ytndhabhlajldeaa
open Go.RowKit
theorem owns_emptyB (w : World) : (w.alloc (.cells #[] 5)).ownsRow w.heap.size 5 1 (.slice (some ⟨w.heap.size, 0, none⟩) 0 0) ([] : List Nat).length (bV []) :=
  ⟨rfl, Or.inr ⟨w.heap.size, 0, #[], rfl, Nat.le_refl _, heap_alloc_new w _, by simp, by simp, by simp, by simp [bV]⟩⟩
theorem nilB (W : World) : Sem.run Try.prog (binOp BinOp.eql 22 (.slice none 0 0) (.slice none 0 0)) W = .ok (.bool true) W := by kernel_rfl
theorem notNilB (W : World) (a : Addr) (n c : Nat) : Sem.run Try.prog (binOp BinOp.eql 22 (.slice (some a) n c) (.slice none 0 0)) W = .ok (.bool false) W := by kernel_rfl
set_option maxHeartbeats 4000000 in
set_option maxRecDepth 100000 in
theorem clone_is {P : Nat → Prop} (w : World) (v : Value) (l : List Nat) (h : BL P w v l) (hl : l.length ≤ 2199023255552) : Calls Try.prog 88 #[v] w fun e w' => ∃ v', e = .returned v' ∧ w'.ownsRow w.heap.size 5 1 v' l.length (bV l) ∧ Below w.heap.size w w' := by
  obtain ⟨_, ad, cap, rfl, h0, h1, hz, h2⟩ := id h
  cases ad with
  | none =>
    have e0 : cap = 0 := hz rfl
    have e1 : l.length = 0 := by omega
    obtain rfl := List.eq_nil_of_length_eq_zero e1
    subst e0
    clear h h0 h1 h2 hz e1 hl
    have hnil := nilB w
    go_enter Try.func88, Try.ntmps88
    go_wp2
    go_ret
    exact ⟨_, rfl, World.ownsRow_nil _ _ _ _, Below.refl _ _⟩
  | some a =>
    have HB : Hid (BL P (w.alloc (.cells #[] 5)) (.slice (some a) l.length cap) l) := h.past (below_alloc _ _)
    have HO : Hid ((w.alloc (.cells #[] 5)).ownsRow w.heap.size 5 1 (.slice (some ⟨w.heap.size, 0, none⟩) 0 0) ([] : List Nat).length (bV [])) := owns_emptyB w
    have HP : Hid (Below w.heap.size w (w.alloc (.cells #[] 5))) := below_alloc _ _
    have HL : Hid (([] : List Nat).length + l.length ≤ 2199023255552) := by unfold Hid; simpa using hl
    generalize hn : l.length = n at *
    have HN : Hid (l.length = n) := hn
    have HL2 : Hid (([] : List Nat).length + l.length ≤ 2199023255552) := by unfold Hid; rw [hn]; exact HL.out
    clear h h0 h1 h2 hz hn hl HL
    have hnil := notNilB w a n cap
    go_enter Try.func88, Try.ntmps88
    go_wp2_with (at_builtin; refine wpList_appB rfl _ _ rfl w.heap.size HP.out.size (.slice (some ⟨w.heap.size, 0, none⟩) 0 0) [] rfl HO.out (.slice (some a) n cap) l rfl HB.out HL2.out ?_; intro v' w' hA)
    go_ret
    exact ⟨_, rfl, by have := hA.row; rw [List.nil_append, HN.out] at this; exact this, HP.out.trans (hA.below HO.out HP.out.size)⟩
set_option maxHeartbeats 4000000 in
set_option maxRecDepth 100000 in
theorem len1_is (V : World) (x : Nat) : Calls Try.prog 113 #[.int .u64 (x : Int)] V fun e V' => e = .returned (.bool (decide (0 < x))) ∧ V' = V := by
  go_enter Try.func113, Try.ntmps113
  go_wp2
  go_ret
  exact ⟨rfl, rfl⟩
/-- the numbers so far, zeros behind them -/
theorem uV_set (L : List Nat) (r x : Nat) : (uV (L ++ List.replicate (r + 1) 0)).set L.length (.int .u64 (x : Int)) = uV ((L ++ [x]) ++ List.replicate r 0) := by
  unfold uV
  rw [List.map_append, List.set_append_right _ _ (by simp), List.length_map, Nat.sub_self, List.replicate_succ, List.map_cons, List.set_cons_zero, List.map_append, List.map_append]
  simp
theorem lens_len : ∀ (b : List Nat) (wd k m : Nat) (l : List Nat), lens b wd k m = .ok l → l.length = m
  | b, wd, k, 0, l, h => by unfold lens at h; cases h; rfl
  | b, wd, k, m + 1, l, h => by
    unfold lens at h
    cases e1 : fld b k wd 56 (fun n => decide (0 < n)) with
    | error er => rw [e1] at h; cases h
    | ok x =>
      rw [e1] at h
      cases e2 : lens b wd (k + wd) m with
      | error er => simp only [Except.bind, e2] at h; cases h
      | ok r =>
        simp only [Except.bind, e2] at h
        cases h
        rw [List.length_cons, lens_len b wd (k + wd) m r e2]
/-- lengths that were read -/
structure LnQ (rb : Nat) (w w' : World) (bs : Value) (b : List Nat) (k : Nat) (e : Ending) (l : List Nat) : Prop where
  ex : ∃ g, e = .returned (.slice (some ⟨g, 0, none⟩) l.length l.length) ∧ CBox w' g 73 (uV l) ∧ w.heap.size ≤ g
  rd : Rdr w' rb bs b k
  but : RB rb w w'
set_option maxHeartbeats 4000000 in
set_option maxRecDepth 100000 in
theorem rlengths_is (w : World) (rb : Nat) (bs : Value) (b : List Nat) (k m wd : Nat) (h : Rdr w rb bs b k) (hk : k ≤ b.length) (hw : wd ≤ 8) (hm : m ≤ 16777216) :
    Calls Try.prog 94 #[.pointer (some ⟨rb, 0, none⟩), .int .u64 (m : Int), .int .i64 (wd : Int)] w fun e w' => Out rb w (lens b wd k m) (fun l e w' => LnQ rb w w' bs b (k + wd * m) e l) e w' := by
  obtain ⟨W1, hmk, hcb, hB1, hsz⟩ := make_n 82 73 (.int .u64 0) (.int .u64 0) 1 8 Try.underlying82 Try.infoU (one_cell rfl) (by simp [Value.cells]) .u64 w m (by omega) (by omega)
  have NE : Hid (w.heap.size ≠ rb) := by unfold Hid; have := h.box.lt; omega
  obtain ⟨LL, hLL⟩ : ∃ LL, LL = lens b wd k m := ⟨_, rfl⟩
  rw [← hLL]
  have C0 : Hid (CBox W1 w.heap.size 73 (uV ([] ++ List.replicate (m - 0) 0)) ∧ RB rb w W1 ∧ Rdr W1 rb bs b (k + wd * 0) ∧ k + wd * 0 ≤ b.length ∧ LL = (lens b wd (k + wd * 0) (m - 0)).bind fun r => .ok ([] ++ r)) := ⟨by rw [Nat.mul_one] at hcb; simpa [uV] using hcb, below_but hB1, h.past hB1, by omega, by rw [hLL]; cases lens b wd k m <;> simp [Except.bind]⟩
  have HK : Hid (wd ≤ 8 ∧ m ≤ 16777216) := ⟨hw, hm⟩
  have HRB : Hid (rb < w.heap.size) := h.box.lt
  have mI : (m : Int) ≤ 16777216 := by omega
  clear hcb hB1 hsz h hk
  clear hLL hw hm
  go_enter Try.func94, Try.ntmps94
  go_upto_region 2 with fail
  generalize hg : w.heap.size = g at *
  have HG : Hid (w.heap.size = g) := hg
  clear hmk hg
  go_wp2
  go_loopw [13] (fun s13 wr => ∃ (i : Nat) (L : List Nat), s13 = .int .i64 (i : Int) ∧ i ≤ m ∧ L.length = i ∧ CBox wr g 73 (uV (L ++ List.replicate (m - i) 0)) ∧ RB rb w wr ∧ Rdr wr rb bs b (k + wd * i) ∧ k + wd * i ≤ b.length ∧ LL = (lens b wd (k + wd * i) (m - i)).bind fun r => .ok (L ++ r)) (fun s13 _ => m - (intOf s13).toNat)
  case atStart => exact ⟨0, [], rfl, by omega, rfl, C0.out⟩
  case round =>
    obtain ⟨i, L, rfl, hi, hL, hC, hB, hR, hkl, hE⟩ := hrel
    have HC : Hid (CBox wr g 73 (uV (L ++ List.replicate (m - i) 0)) ∧ RB rb w wr ∧ Rdr wr rb bs b (k + wd * i)) := ⟨hC, hB, hR⟩
    have HE : Hid (LL = (lens b wd (k + wd * i) (m - i)).bind fun r => .ok (L ++ r)) := hE
    have HLn : Hid (L.length = i) := hL
    clear hC hB hR hE C0 hL
    by_cases e : i = m
    · subst e
      have E0 : Hid (LL = .ok L) := by unfold Hid; rw [HE.out, Nat.sub_self, lens]; simp [Except.bind]
      have E1 : Hid (CBox wr g 73 (uV L)) := by have := HC.out.1; rwa [Nat.sub_self, List.replicate_zero, List.append_nil] at this
      go_wp2
      go_ret
      rw [E0.out]
      exact ⟨⟨g, by rw [HLn.out]; rfl, E1.out, by rw [HG.out]; exact Nat.le_refl _⟩, HC.out.2.2, HC.out.2.1⟩
    · have iI : (i : Int) < (m : Int) := by omega
      obtain ⟨r, hr⟩ : ∃ r, m - i = r + 1 := ⟨m - i - 1, by omega⟩
      have hE2 : LL = ((fld b (k + wd * i) wd 56 (fun n => decide (0 < n))).bind fun n => (lens b wd (k + wd * i + wd) r).bind fun q => .ok (n :: q)).bind fun q => .ok (L ++ q) := by rw [HE.out, hr]; rfl
      have FC0 := field0_is wr rb bs b (k + wd * i) wd 56 HC.out.2.2 hkl HK.out.1 (fun n => decide (0 < n)) 113 (fun _ _ => by kernel_rfl) (fun V _ => len1_is V (rd b (k + wd * i) wd))
      have ek : k + wd * i + wd = k + wd * (i + 1) := by rw [Nat.mul_add]; omega
      rw [ek] at FC0 hE2
      have HE2 : Hid _ := hE2
      have FC : Hid _ := FC0
      have FK : Hid (∀ x, fld b (k + wd * i) wd 56 (fun n => decide (0 < n)) = .ok x → k + wd * (i + 1) ≤ b.length) := fun x q => by
        rw [← ek]
        unfold fld at q
        split at q
        · cases q
        · omega
      generalize fld b (k + wd * i) wd 56 (fun n => decide (0 < n)) = FF at *
      have HR1 : Hid (m - i = r + 1) := hr
      clear hE2 FC0 hkl hr ek HE
      cases FF with
      | error er =>
        obtain ⟨ec, ea⟩ := er
        have E0 : Hid (LL = .error (ec, ea)) := HE2.out
        go_wp2_with (go_at_call 91; refine Calls.mono FC.out ?_; rintro e w' ⟨rfl, hB⟩; unfold thrown rejV)
        refine ⟨rfl, ?_⟩
        rw [E0.out]
        exact ⟨rfl, HC.out.2.1.trans hB⟩
      | ok x =>
        have E0 : Hid (LL = (lens b wd (k + wd * (i + 1)) (m - (i + 1))).bind fun q => .ok ((L ++ [x]) ++ q)) := by
          unfold Hid
          rw [HE2.out, show m - (i + 1) = r by have := HR1.out; omega]
          cases lens b wd (k + wd * (i + 1)) r <;> simp [Except.bind]
        have HLe : Hid (k + wd * (i + 1) ≤ b.length) := FK.out x rfl
        clear HE2 FK
        go_upto_region 6 with (go_at_call 91; refine Calls.mono FC.out ?_; rintro e w1 ⟨rfl, hR, hB⟩; (have z1 : w1.cell? ⟨g, i, none⟩ = some (.int .u64 0) := by (rw [(HC.out.1.but hB NE.out).cell, HR1.out]; simp [uV, HLn.out])); (have z2 := (HC.out.1.but hB NE.out).frozen i))
        have HN : Hid (CBox (w1.setCell ⟨g, i, none⟩ (.int .u64 (x : Int))) g 73 (uV ((L ++ [x]) ++ List.replicate (m - (i + 1)) 0)) ∧ RB rb w (w1.setCell ⟨g, i, none⟩ (.int .u64 (x : Int))) ∧ Rdr (w1.setCell ⟨g, i, none⟩ (.int .u64 (x : Int))) rb bs b (k + wd * (i + 1))) := by
          have hs : But (fun q => q = g) w1 (w1.setCell ⟨g, i, none⟩ (.int .u64 (x : Int))) := (But.refl (fun q => q = g) w1).setCell ⟨g, i, none⟩ _ (Or.inl rfl)
          refine ⟨?_, (HC.out.2.1.trans hB).setCell ⟨g, i, none⟩ _ (Or.inr (by rw [HG.out]; exact Nat.le_refl _)), ⟨hR.box.but hs (Ne.symm NE.out), hR.by'.but hs (fun q hq e => by have h1 := HG.out; have h2 := HRB.out; omega), hR.byt, hR.len⟩⟩
          have h9 := (HC.out.1.but hB NE.out).set i (.int .u64 (x : Int))
          rw [HR1.out, ← HLn.out, uV_set] at h9
          rw [show m - (i + 1) = r by have := HR1.out; omega]
          rw [HLn.out] at h9
          exact h9
        clear z1 z2 hR hB FC
        go_wp2
        go_roundw
        case rel => exact ⟨i + 1, L ++ [x], by first | rfl | go_num, by omega, by rw [List.length_append, HLn.out]; rfl, HN.out.1, HN.out.2.1, HN.out.2.2, HLe.out, E0.out⟩
        case measure => simp [intOf]; omega
end Go.Proofs.Ytndhabhlajldeaa
/- The document's containers: typeWrong, number, at, sum. -/
namespace Go.Proofs.Ytndhabhlajldeaa
open Go.RowKit
theorem okIn_bad (i : Nat) (x : Int) : okIn i x = false ↔ (x < 0 ∨ 127 < x ∨ (i = 0 ∧ x ≠ 0)) := by
  unfold okIn
  constructor
  · intro h; simp at h; omega
  · intro h; simp; omega
theorem okOut_bad (i : Nat) (x : Int) : okOut i x = false ↔ (x < 0 ∨ 128 < x ∨ (i = 0 ∧ x ≠ 128)) := by
  unfold okOut
  constructor
  · intro h; simp at h; omega
  · intro h; simp; omega
theorem okMost_bad (x : Int) : okMost x = false ↔ (x < 0 ∨ 1023 < x) := by
  unfold okMost
  constructor
  · intro h; simp at h; omega
  · intro h; simp; omega
set_option maxHeartbeats 4000000 in
set_option maxRecDepth 100000 in
theorem typeWrong_is (w : World) (i : Nat) (x y z : Int) : Calls Try.prog 73 #[.int .i64 (i : Int), .agg #[.int .i64 x, .int .i64 y, .int .i64 z]] w fun e w' => e = .returned (.int .i64 (tyBad i (x, y, z) : Int)) ∧ Below w.heap.size w w' := by
  have B0 : Hid (Below w.heap.size w (w.alloc (.cells #[.int .i64 x, .int .i64 y, .int .i64 z] 77))) := below_alloc _ _
  have T0 : Hid (okIn i x = false → tyBad i (x, y, z) = 0) := fun h => by unfold tyBad; rw [if_pos h]
  have T1 : Hid (¬ okIn i x = false → okOut i y = false → tyBad i (x, y, z) = 1) := fun h1 h => by unfold tyBad; rw [if_neg h1, if_pos h]
  have T2 : Hid (¬ okIn i x = false → ¬ okOut i y = false → okMost z = false → tyBad i (x, y, z) = 2) := fun h1 h2 h => by unfold tyBad; rw [if_neg h1, if_neg h2, if_pos h]
  have T3 : Hid (¬ okIn i x = false → ¬ okOut i y = false → ¬ okMost z = false → tyBad i (x, y, z) = 3) := fun h1 h2 h => by unfold tyBad; rw [if_neg h1, if_neg h2, if_neg h]
  rw [okIn_bad] at T0 T1 T2 T3
  rw [okOut_bad] at T1 T2 T3
  rw [okMost_bad] at T2 T3
  generalize tyBad i (x, y, z) = r at *
  have CB0 : Hid (CBox (w.alloc (.cells #[.int .i64 x, .int .i64 y, .int .i64 z] 77)) w.heap.size 77 [.int .i64 x, .int .i64 y, .int .i64 z]) := CBox.new _ _ [_, _, _]
  go_enter Try.func73, Try.ntmps73
  go_upto_region 1 with fail
  generalize w.alloc _ = W0 at B0 CB0 ⊢
  generalize hb : w.heap.size = bx at *
  have GB : Hid (w.heap.size = bx) := hb
  have c0 : W0.cell? ⟨bx, 0, none⟩ = some (.int .i64 x) := CB0.out.cell 0
  have c1 : W0.cell? ⟨bx, 1, none⟩ = some (.int .i64 y) := CB0.out.cell 1
  have c2 : W0.cell? ⟨bx, 2, none⟩ = some (.int .i64 z) := CB0.out.cell 2
  clear hb CB0
  by_cases ei : i = 0
  · subst ei
    by_cases ex0 : x < 0
    · have E0 : Hid (r = 0) := T0.out (by omega)
      go_wp2
      go_ret
      exact ⟨by rw [E0.out]; rfl, by rw [GB.out]; exact B0.out⟩
    by_cases ex1 : 127 < x
    · have E0 : Hid (r = 0) := T0.out (by omega)
      go_wp2
      go_ret
      exact ⟨by rw [E0.out]; rfl, by rw [GB.out]; exact B0.out⟩
    by_cases ex2 : x = 0
    rotate_left
    · have E0 : Hid (r = 0) := T0.out (by omega)
      have qx : (x == 0) = false := by simpa using ex2
      have px : (x != 0) = true := by simpa using ex2
      clear ex2
      go_wp2
      go_ret
      exact ⟨by rw [E0.out]; rfl, by rw [GB.out]; exact B0.out⟩
    go_upto_region 3 with fail
    by_cases ey0 : y < 0
    · have E0 : Hid (r = 1) := T1.out (by omega) (by omega)
      go_wp2
      go_ret
      exact ⟨by rw [E0.out]; rfl, by rw [GB.out]; exact B0.out⟩
    by_cases ey1 : 128 < y
    · have E0 : Hid (r = 1) := T1.out (by omega) (by omega)
      go_wp2
      go_ret
      exact ⟨by rw [E0.out]; rfl, by rw [GB.out]; exact B0.out⟩
    by_cases ey2 : y = 128
    rotate_left
    · have E0 : Hid (r = 1) := T1.out (by omega) (by omega)
      have qy : (y == 128) = false := by simpa using ey2
      have py : (y != 128) = true := by simpa using ey2
      clear ey2
      go_wp2
      go_ret
      exact ⟨by rw [E0.out]; rfl, by rw [GB.out]; exact B0.out⟩
    go_upto_region 5 with fail
    by_cases ez0 : z < 0
    · have E0 : Hid (r = 2) := T2.out (by omega) (by omega) (by omega)
      go_wp2
      go_ret
      exact ⟨by rw [E0.out]; rfl, by rw [GB.out]; exact B0.out⟩
    by_cases ez1 : 1023 < z
    · have E0 : Hid (r = 2) := T2.out (by omega) (by omega) (by omega)
      go_wp2
      go_ret
      exact ⟨by rw [E0.out]; rfl, by rw [GB.out]; exact B0.out⟩
    have E0 : Hid (r = 3) := T3.out (by omega) (by omega) (by omega)
    go_wp2
    go_ret
    exact ⟨by rw [E0.out]; rfl, by rw [GB.out]; exact B0.out⟩
  · have qi : ((i : Int) == 0) = false := by simp; omega
    by_cases ex0 : x < 0
    · have E0 : Hid (r = 0) := T0.out (by omega)
      go_wp2
      go_ret
      exact ⟨by rw [E0.out]; rfl, by rw [GB.out]; exact B0.out⟩
    by_cases ex1 : 127 < x
    · have E0 : Hid (r = 0) := T0.out (by omega)
      go_wp2
      go_ret
      exact ⟨by rw [E0.out]; rfl, by rw [GB.out]; exact B0.out⟩
    go_upto_region 3 with fail
    by_cases ey0 : y < 0
    · have E0 : Hid (r = 1) := T1.out (by omega) (by omega)
      go_wp2
      go_ret
      exact ⟨by rw [E0.out]; rfl, by rw [GB.out]; exact B0.out⟩
    by_cases ey1 : 128 < y
    · have E0 : Hid (r = 1) := T1.out (by omega) (by omega)
      go_wp2
      go_ret
      exact ⟨by rw [E0.out]; rfl, by rw [GB.out]; exact B0.out⟩
    go_upto_region 5 with fail
    by_cases ez0 : z < 0
    · have E0 : Hid (r = 2) := T2.out (by omega) (by omega) (by omega)
      go_wp2
      go_ret
      exact ⟨by rw [E0.out]; rfl, by rw [GB.out]; exact B0.out⟩
    by_cases ez1 : 1023 < z
    · have E0 : Hid (r = 2) := T2.out (by omega) (by omega) (by omega)
      go_wp2
      go_ret
      exact ⟨by rw [E0.out]; rfl, by rw [GB.out]; exact B0.out⟩
    have E0 : Hid (r = 3) := T3.out (by omega) (by omega) (by omega)
    go_wp2
    go_ret
    exact ⟨by rw [E0.out]; rfl, by rw [GB.out]; exact B0.out⟩
end Go.Proofs.Ytndhabhlajldeaa
/- The document's containers: number, at, sum, lengths; lists of ints. -/
namespace Go.Proofs.Ytndhabhlajldeaa
open Go.RowKit
/-- ints as cells -/
def iV (l : List Nat) : List Value := l.map fun x : Nat => Value.int .i64 (x : Int)
theorem iV_len (l : List Nat) : (iV l).length = l.length := by simp [iV]
theorem iV_app (l m : List Nat) : iV (l ++ m) = iV l ++ iV m := by simp [iV]
theorem iV_one (l : List Nat) : ∀ u ∈ iV l, u.oneCell' = true := fun u hu => by
  obtain ⟨x, _, rfl⟩ := List.mem_map.1 hu
  rfl
/-- a list of ints of one's own -/
def InO (B : Nat) (W : World) (v : Value) (l : List Nat) : Prop := W.ownsRow B 3 1 v l.length (iV l)
theorem InO.past {B : Nat} {W W' : World} {v : Value} {l : List Nat} (h : InO B W v l) (k : Below W.heap.size W W') : InO B W' v l := owns_past h k
theorem InO.nil (B : Nat) (W : World) : InO B W (.slice none 0 0) [] := World.ownsRow_nil _ _ _ _
theorem InO.get {B : Nat} {W : World} {ad : Option Addr} {n c : Nat} {l : List Nat} (h : InO B W (.slice ad n c) l) {i x : Nat} (hi : l[i]? = some x) : ∃ g, ad = some ⟨g, 0, none⟩ ∧ W.cell? ⟨g, i, none⟩ = some (.int .i64 (x : Int)) := by
  have hl : i < l.length := (List.getElem?_eq_some_iff.1 hi).1
  rcases id h.2 with ⟨e, e2⟩ | ⟨g, c', cur, e, hb, hh, hq, _, hz, ht⟩
  · omega
  · injection e with e1 _ _
    subst e1
    refine ⟨g, rfl, ?_⟩
    have := World.ownsRow.cells h (g := g) rfl i (.int .i64 (x : Int)) (by simp [iV, hi])
    simpa [Addr.add_mid] using this
/-- append of one int -/
theorem wpList_appI {w : World} {ops : Array Oper} {rest : List Oper} {o : Oper} {a : Act} {Q : Exit → Act → World → Prop} (hgd : o.guard = none) (s x : Operand)
    (ho : o.op = .call { callee := .builtin .append, args := #[s, x], argTypes := #[45, 45] }) (B : Nat) (hB : B ≤ w.heap.size) (v : Value) (l : List Nat) (hs : a.eval s = v) (hown : InO B w v l)
    (y : Nat) (hx : a.eval x = .slice (some ⟨w.heap.size, 0, none⟩) 1 1) (hn : l.length + 1 ≤ 2199023255552)
    (h : ∀ v' w', App B 3 1 w w' v v' (l ++ [y]).length (iV (l ++ [y])) → wpList Try.prog ops Q rest (a.put o.dst v') w') : wpList Try.prog ops Q (o :: rest) a (w.alloc (.cells #[.int .i64 (y : Int)] 3)) :=
  wpList_plain hgd fun _ hK => by
    obtain ⟨ad, cap, rfl⟩ := owns_sl hown
    refine wp_apps s x 45 3 ho (.int .i64 0) 1 8 Try.underlying45 Try.infoI rfl (by omega) (by omega) B (Nat.le_trans hB (below_alloc _ _).size) ad l.length cap (iV l) hs (owns_past hown (below_alloc _ _)) ⟨w.heap.size, 0, none⟩ 1 1 (iV [y]) hx (by rw [iV_len]; rfl) (fun j c hj => ?_) (iV_one [y]) hn (fun ad' cap' w' q1 q2 q3 => hK _ _ (h _ _ ⟨?_, ?_, fun k hk => ?_⟩))
    · have hj0 : j = 0 := by have := (List.getElem?_eq_some_iff.1 hj).1; simpa [iV] using this
      subst hj0
      rw [Addr.add_mid]
      have := (CBox.new w 3 (iV [y])).cell 0
      rw [Nat.zero_add]
      exact this.trans hj
    · rw [List.length_append, iV_app]; exact q1
    · have b1 : But (OwnV (.slice ad l.length cap)) w (w.alloc (.cells #[.int .i64 (y : Int)] 3)) := below_but (below_alloc _ _)
      exact b1.trans (q2.mono fun k hk => own_iff.1 hk)
    · rcases q3.own (own_iff.2 hk) with e | e
      · exact Or.inl (own_iff.1 e)
      · exact Or.inr (Nat.le_trans (below_alloc _ _).size e)
set_option maxHeartbeats 4000000 in
set_option maxRecDepth 100000 in
theorem sum_is {B : Nat} (w : World) (v : Value) (l : List Nat) (h : InO B w v l) (hl : l.length ≤ 1152921504606846976) (hs : sumL l < 4611686018427387904) : Calls Try.prog 70 #[v] w fun e w' => e = .returned (.int .i64 (sumL l : Int)) ∧ w' = w := by
  obtain ⟨ad, cap, rfl⟩ := owns_sl h
  have HI : Hid (InO B w (.slice ad l.length cap) l) := h
  have HS : Hid (sumL l < 4611686018427387904) := hs
  have nI : (l.length : Int) ≤ 1152921504606846976 := by omega
  generalize hn : l.length = n at *
  have HN : Hid (l.length = n) := hn
  clear h hl hs hn
  go_enter Try.func70, Try.ntmps70
  go_wp2
  go_loopw [3, 4] (fun s3 s4 wr => ∃ k : Nat, s4 = .int .i64 (k : Int) ∧ k ≤ n ∧ s3 = .int .i64 (sumL (l.take k) : Int) ∧ wr = w) (fun _ s4 _ => n - (intOf s4).toNat)
  case atStart => exact ⟨0, rfl, by omega, by simp [sumL], rfl⟩
  case round =>
    obtain ⟨k, rfl, hk, rfl, rfl⟩ := hrel
    by_cases e : k = n
    · subst e
      have E0 : Hid (sumL (l.take k) = sumL l) := by unfold Hid; rw [List.take_of_length_le (by have := HN.out; omega)]
      rw [E0.out]
      go_wp2
      go_ret
      exact ⟨rfl, rfl⟩
    · have kn : (k : Int) < (n : Int) := by omega
      obtain ⟨x, hx⟩ : ∃ x, l[k]? = some x := ⟨l[k]'(by have := HN.out; omega), List.getElem?_eq_getElem _⟩
      obtain ⟨g, rfl, hcell⟩ := HI.out.get hx
      obtain ⟨y, hy⟩ : ∃ y : Nat, y = sumL (l.take k) := ⟨_, rfl⟩
      obtain ⟨y2, hy2⟩ : ∃ y2 : Nat, y2 = y + x := ⟨_, rfl⟩
      have HY : Hid (sumL (l.take (k + 1)) = y2) := by unfold Hid; rw [sumL_take hx, hy2, hy]
      rw [← hy]
      have r2 : (y : Int) + (x : Int) = (y2 : Int) := by omega
      have wy : IntKind.i64.wrap (y2 : Int) = (y2 : Int) := by rw [IntKind.wrap_i64]; have h1 := HS.out; have h3 := HY.out; have h4 := sumL_le l (k + 1); omega
      clear hy hx hy2 e
      go_wp2
      go_roundw
      case rel => exact ⟨k + 1, by first | rfl | go_num, by omega, by rw [HY.out], by first | rfl | trivial⟩
      case measure => simp [intOf]; omega
set_option maxHeartbeats 4000000 in
set_option maxRecDepth 100000 in
theorem rlen_is {P : Nat → Prop} (w : World) (v : Value) (ll : List (List Nat)) (h : PL P w v ll) (hl : ll.length ≤ 16777216) : Calls Try.prog 79 #[v] w fun e w' => ∃ v', e = .returned v' ∧ InO w.heap.size w' v' (lns ll) ∧ Below w.heap.size w w' := by
  obtain ⟨ad, cap, rfl, hc0, hc1⟩ := h.len
  have HP : Hid (PL P w (.slice ad ll.length cap) ll) := h
  have nI : (ll.length : Int) ≤ 16777216 := by omega
  generalize hn : ll.length = n at *
  have HN : Hid (ll.length = n ∧ n ≤ 16777216) := ⟨hn, hl⟩
  clear h hc0 hc1 hn hl
  go_enter Try.func79, Try.ntmps79
  go_wp2
  go_loopw [3, 4] (fun s3 s4 wr => ∃ k : Nat, s4 = .int .i64 (k : Int) ∧ k ≤ n ∧ InO w.heap.size wr s3 ((lns ll).take k) ∧ Below w.heap.size w wr) (fun _ s4 _ => n - (intOf s4).toNat)
  case atStart => exact ⟨0, rfl, by omega, InO.nil _ _, Below.refl _ _⟩
  case round =>
    obtain ⟨k, rfl, hk, hI, hB⟩ := hrel
    have HI : Hid (InO w.heap.size wr u3 ((lns ll).take k) ∧ Below w.heap.size w wr) := ⟨hI, hB⟩
    have hsz := hB.size
    have HSZ : Hid (w.heap.size ≤ wr.heap.size) := hsz
    clear hI hB hsz
    by_cases e : k = n
    · subst e
      have E0 : Hid (InO w.heap.size wr u3 (lns ll)) := by have := HI.out.1; rwa [List.take_of_length_le (by rw [lns_len]; have := HN.out; omega)] at this
      go_wp2
      go_ret
      exact ⟨_, rfl, E0.out, HI.out.2⟩
    · have kn : (k : Int) < (n : Int) := by omega
      obtain ⟨l, hl⟩ : ∃ l, ll[k]? = some l := ⟨ll[k]'(by have := HN.out; omega), List.getElem?_eq_getElem _⟩
      obtain ⟨g, a, u, rfl, hcell, hb⟩ := HP.out.get hl
      obtain ⟨ad2, cap2, rfl, _, hl1⟩ := hb.len
      have hc2 := (HI.out.2.cell (p := ⟨g, a + k, none⟩) (World.block_lt_of_cell? w _ hcell)).trans hcell
      have HX : Hid ((lns ll)[k]? = some l.length) := lns_get hl
      have mI : (l.length : Int) ≤ 1152921504606846976 := by omega
      clear hl hb hl1 hcell
      generalize l.length = q at *
      have HLe : Hid (((lns ll).take k).length + 1 ≤ 2199023255552) := by unfold Hid; rw [List.length_take]; have := HN.out; omega
      go_wp2_with (at_builtin; refine wpList_appI rfl _ _ rfl w.heap.size HSZ.out u3 ((lns ll).take k) rfl HI.out.1 q rfl HLe.out ?_; intro v' w' hA)
      have HR : Hid (InO w.heap.size w' v' ((lns ll).take (k + 1)) ∧ Below w.heap.size w w') := ⟨by unfold InO; rw [take_snoc HX.out]; exact hA.row, HI.out.2.trans (hA.below HI.out.1 HSZ.out)⟩
      clear hA HI
      go_roundw
      case rel => exact ⟨k + 1, by first | rfl | go_num, by omega, HR.out⟩
      case measure => simp [intOf]; omega
set_option maxHeartbeats 4000000 in
set_option maxRecDepth 100000 in
theorem at_is {P : Nat → Prop} (w : World) (v : Value) (b : List Nat) (k wd : Nat) (h : BL P w v b) (hb : Byt b) (hw : wd ≤ 4) (hk : k + wd ≤ b.length) (hl : b.length ≤ 1073741824) : Calls Try.prog 72 #[v, .int .i64 (k : Int), .int .i64 (wd : Int)] w fun e w' => e = .returned (.int .i64 (rd b k wd : Int)) ∧ w' = w := by
  obtain ⟨ad, cap, rfl, hc0, hc1⟩ := h.len
  have HP : Hid (BL P w (.slice ad b.length cap) b) := h
  have HB : Hid (Byt ((b.drop k).take wd)) := fun x hx => hb x (List.mem_of_mem_drop (List.mem_of_mem_take hx))
  have HL : Hid (((b.drop k).take wd).length = wd ∧ ∀ i, i < wd → ((b.drop k).take wd)[i]? = b[k + i]?) := ⟨by simp; omega, fun i hi => by rw [List.getElem?_take, if_pos hi, List.getElem?_drop]⟩
  have HRD : Hid (num ((b.drop k).take wd) = rd b k wd) := rfl
  generalize rd b k wd = RR at *
  generalize (b.drop k).take wd = seg at *
  have HK : Hid (k + wd ≤ b.length ∧ b.length ≤ 1073741824 ∧ wd ≤ 4) := ⟨hk, hl, hw⟩
  have wI : (wd : Int) ≤ 4 := by omega
  have kI : (k : Int) ≤ 1073741824 := by omega
  have nI : (b.length : Int) ≤ 1073741824 := by omega
  generalize hn : b.length = n at *
  have HN : Hid (b.length = n) := hn
  clear h hb hw hk hl hc0 hc1 hn
  go_enter Try.func72, Try.ntmps72
  go_wp2
  go_loopw [7, 8] (fun s7 s8 wr => ∃ i : Nat, s8 = .int .i64 (i : Int) ∧ i ≤ wd ∧ s7 = .int .i64 (num (seg.take i) : Int) ∧ wr = w) (fun _ s8 _ => wd - (intOf s8).toNat)
  case atStart => exact ⟨0, rfl, by omega, by simp [num], rfl⟩
  case round =>
    obtain ⟨i, rfl, hi, rfl, rfl⟩ := hrel
    by_cases e : i = wd
    · subst e
      have E0 : Hid (num (seg.take i) = RR) := by unfold Hid; rw [List.take_of_length_le (by have := HL.out.1; omega)]; exact HRD.out
      rw [E0.out]
      go_wp2
      go_ret
      exact ⟨rfl, rfl⟩
    · have iI : (i : Int) < (wd : Int) := by omega
      obtain ⟨x, hx⟩ : ∃ x, seg[i]? = some x := ⟨seg[i]'(by have := HL.out.1; omega), List.getElem?_eq_getElem _⟩
      have hx2 := (HL.out.2 i (by omega)).symm.trans hx
      obtain ⟨g, a, rfl, hcell⟩ := HP.out.get hx2
      have x8 : x < 256 := HB.out x (List.mem_of_getElem? hx)
      obtain ⟨y, hy⟩ : ∃ y : Nat, y = num (seg.take i) := ⟨_, rfl⟩
      obtain ⟨y2, hy2⟩ : ∃ y2 : Nat, y2 = 256 * y + x := ⟨_, rfl⟩
      obtain ⟨y1, hy1⟩ : ∃ y1 : Nat, y1 = 256 * y := ⟨_, rfl⟩
      obtain ⟨t, ht⟩ : ∃ t : Nat, t = k + i := ⟨_, rfl⟩
      rw [← ht] at hcell
      have HY : Hid (num (seg.take (i + 1)) = y2) := by unfold Hid; rw [take_snoc hx, num_snoc, hy2, hy]
      have hlt : y2 < 4294967296 := by
        have h1 := num_le_take seg (i + 1) HB.out
        have h2 : (256 : Nat) ^ (i + 1) ≤ 256 ^ 4 := Nat.pow_le_pow_right (by omega) (by have := HK.out; omega)
        have h3 : (256 : Nat) ^ 4 = 4294967296 := by decide
        have h4 := HY.out
        omega
      rw [← hy]
      have r1 : (256 : Int) * (y : Int) = (y1 : Int) := by omega
      have r2 : (y1 : Int) + (x : Int) = (y2 : Int) := by omega
      have r3 : (k : Int) + (i : Int) = (t : Int) := by omega
      have tn : (t : Int) < (n : Int) := by have := HK.out; omega
      have w1 : IntKind.i64.wrap (y1 : Int) = (y1 : Int) := by rw [IntKind.wrap_i64]; omega
      have w2 : IntKind.i64.wrap (y2 : Int) = (y2 : Int) := by rw [IntKind.wrap_i64]; omega
      have w3 : IntKind.i64.wrap (t : Int) = (t : Int) := by rw [IntKind.wrap_i64]; have := HK.out; omega
      have w4 : IntKind.i64.wrap (x : Int) = (x : Int) := by rw [IntKind.wrap_i64]; omega
      clear hy hx hy2 hy1 hlt e hx2 x8 ht
      go_wp2
      go_roundw
      case rel => exact ⟨i + 1, by first | rfl | go_num, by omega, by rw [HY.out], by first | rfl | trivial⟩
      case measure => simp [intOf]; omega
end Go.Proofs.Ytndhabhlajldeaa
/- The document's containers: number. -/
namespace Go.Proofs.Ytndhabhlajldeaa
open Go.RowKit
set_option maxHeartbeats 4000000 in
set_option maxRecDepth 100000 in
theorem numberR_is (w : World) (B : Nat) (hB : B ≤ w.heap.size) (v : Value) (l : List Nat) (hv : w.ownsRow B 5 1 v l.length (bV l)) (wd z : Nat) (hw : wd ≤ 8) (hz : z < 4611686018427387904) (hl : l.length ≤ 1099511627776) :
    Calls Try.prog 80 #[v, .int .i64 (z : Int), .int .i64 (wd : Int)] w fun e w' => ∃ v', e = .returned v' ∧ App B 5 1 w w' v v' (l ++ dig wd z).length (bV (l ++ dig wd z)) := by
  have HV : Hid (w.ownsRow B 5 1 v l.length (bV l)) := hv
  have HL : Hid (l.length ≤ 1099511627776 ∧ z < 4611686018427387904 ∧ wd ≤ 8 ∧ B ≤ w.heap.size) := ⟨hl, hz, hw, hB⟩
  obtain ⟨q0, hq0⟩ : ∃ q0 : Int, q0 = (wd : Int) - 1 := ⟨_, rfl⟩
  have r0 : (wd : Int) - 1 = q0 := hq0.symm
  have w0 : IntKind.i64.wrap q0 = q0 := by rw [IntKind.wrap_i64]; omega
  have HQ0 : Hid (q0 = (wd : Int) - 1) := hq0
  have zI : (z : Int) < 4611686018427387904 := by omega
  have wI : (wd : Int) ≤ 8 := by omega
  clear hv hl hB hw hz hq0
  go_enter Try.func80, Try.ntmps80
  go_wp2
  clear r0 w0
  go_loopw [0, 7] (fun s0 s7 wr => ∃ (i : Nat) (q : Int), s7 = .int .i64 q ∧ q = (wd : Int) - 1 - (i : Int) ∧ i ≤ wd ∧ App B 5 1 w wr v s0 (l ++ (dig wd z).take i).length (bV (l ++ (dig wd z).take i))) (fun _ s7 _ => (intOf s7 + 1).toNat)
  case atStart => exact ⟨0, q0, rfl, by have := HQ0.out; omega, by omega, by simpa using App.refl HV.out⟩
  case round =>
    obtain ⟨i, q, rfl, hq, hi, hA⟩ := hrel
    have HA : Hid (App B 5 1 w wr v u0 (l ++ (dig wd z).take i).length (bV (l ++ (dig wd z).take i))) := hA
    have HQ : Hid (q = (wd : Int) - 1 - (i : Int)) := hq
    clear hA hq
    by_cases e : i = wd
    · subst e
      have c0 : ¬ (0 : Int) ≤ q := by have := HQ.out; omega
      have E0 : Hid (App B 5 1 w wr v u0 (l ++ dig i z).length (bV (l ++ dig i z))) := by have := HA.out; rwa [List.take_of_length_le (by rw [dig_len]; omega)] at this
      go_wp2
      go_ret
      refine ⟨_, rfl, ?_⟩
      have h9 := E0.out
      rw [List.length_append] at h9
      exact h9
    · obtain ⟨c, hc⟩ : ∃ c : Nat, q = (c : Int) := ⟨q.toNat, by have := HQ.out; omega⟩
      subst hc
      have HC : Hid (c = wd - 1 - i ∧ i < wd) := by unfold Hid; have := HQ.out; omega
      have c0 : (0 : Int) ≤ (c : Int) := by omega
      have cI : (c : Int) ≤ 8 := by have := HC.out; omega
      clear HQ
      go_wp2
      go_loopw [8, 9] (fun s8 s9 wq => ∃ j : Nat, s9 = .int .i64 (j : Int) ∧ j ≤ c ∧ s8 = .int .i64 ((z / 256 ^ j : Nat) : Int) ∧ wq = wr) (fun _ s9 _ => c - (intOf s9).toNat)
      case atStart => exact ⟨0, rfl, by omega, by simp, rfl⟩
      case round =>
        rename_i wr0
        obtain ⟨j, rfl, hj, rfl, hwq⟩ := hrel
        subst hwq
        by_cases e2 : j = c
        · subst e2
          obtain ⟨y, hy⟩ : ∃ y : Nat, y = z / 256 ^ j := ⟨_, rfl⟩
          obtain ⟨x, hx⟩ : ∃ x : Nat, x = y % 256 := ⟨_, rfl⟩
          have HX : Hid ((dig wd z)[i]? = some x) := by unfold Hid; rw [dig_get wd z i HC.out.2, hx, hy, HC.out.1]
          rw [← hy]
          have t1 : Int.tmod (y : Int) 256 = (x : Int) := by rw [Int.tmod_eq_emod_of_nonneg (by omega)]; omega
          have t2 : (y : Int) % 256 = (x : Int) := by omega
          have w1 : IntKind.i64.wrap (x : Int) = (x : Int) := by rw [IntKind.wrap_i64]; omega
          have w2 : IntKind.u8.wrap (x : Int) = (x : Int) := by rw [IntKind.wrap_u8]; omega
          obtain ⟨q2, hq2⟩ : ∃ q2 : Int, q2 = (j : Int) - 1 := ⟨_, rfl⟩
          have r3 : (j : Int) - 1 = q2 := hq2.symm
          have w3 : IntKind.i64.wrap q2 = q2 := by rw [IntKind.wrap_i64]; omega
          have HQ2 : Hid (q2 = (wd : Int) - 1 - ((i + 1 : Nat) : Int)) := by unfold Hid; have := HC.out; omega
          have BX : Hid (BL (fun k => k = wr.heap.size) (wr.alloc (.cells #[.int .u8 (x : Int)] 5)) (.slice (some ⟨wr.heap.size, 0, none⟩) 1 1) [x]) := BL.new wr [x] (by simp)
          have PX : Hid (Below wr.heap.size wr (wr.alloc (.cells #[.int .u8 (x : Int)] 5))) := below_alloc _ _
          have HLe : Hid ((l ++ (dig wd z).take i).length + [x].length ≤ 2199023255552) := by unfold Hid; have := HL.out; rw [List.length_append, List.length_take, dig_len]; simp; omega
          clear hy hx hq2
          go_wp2_with (at_builtin; refine wpList_appB rfl _ _ rfl B (Nat.le_trans (Nat.le_trans HL.out.2.2.2 HA.out.but.size) PX.out.size) u0 (l ++ (dig wd z).take i) rfl (owns_past HA.out.row PX.out) (.slice (some ⟨wr.heap.size, 0, none⟩) 1 1) [x] rfl BX.out HLe.out ?_; intro v' w' hA2)
          have HR : Hid (App B 5 1 w w' v v' (l ++ (dig wd z).take (i + 1)).length (bV (l ++ (dig wd z).take (i + 1)))) := by
            have h9 := (HA.out.then PX.out).trans hA2
            rw [List.append_assoc, ← take_snoc HX.out] at h9
            exact h9
          have HI1 : Hid (i + 1 ≤ wd ∧ (q2 + 1).toNat < ((j : Int) + 1).toNat) := by unfold Hid; have h1 := HC.out; have h2 := HQ2.out; omega
          clear hA2 BX PX HA
          go_roundw
          case rel => exact ⟨i + 1, q2, by first | rfl | go_num, HQ2.out, HI1.out.1, HR.out⟩
          case measure => have := HI1.out.2; simpa [intOf] using this
        · have jc : (j : Int) < (c : Int) := by omega
          obtain ⟨y, hy⟩ : ∃ y : Nat, y = z / 256 ^ j := ⟨_, rfl⟩
          obtain ⟨y2, hy2⟩ : ∃ y2 : Nat, y2 = y / 256 := ⟨_, rfl⟩
          have HY : Hid (z / 256 ^ (j + 1) = y2) := by unfold Hid; rw [hy2, hy, Nat.div_div_eq_div_mul, Nat.pow_succ]
          have yl : y ≤ z := by rw [hy]; exact Nat.div_le_self _ _
          rw [← hy]
          have t1 : Int.tdiv (y : Int) 256 = (y2 : Int) := by rw [Int.tdiv_eq_ediv_of_nonneg (by omega)]; omega
          have t2 : (y : Int) / 256 = (y2 : Int) := by omega
          have w1 : IntKind.i64.wrap (y2 : Int) = (y2 : Int) := by rw [IntKind.wrap_i64]; omega
          clear hy hy2 yl e2
          go_wp2
          go_roundw
          case rel => exact ⟨j + 1, by first | rfl | go_num, by omega, by rw [HY.out], by first | rfl | trivial⟩
          case measure => simp [intOf]; omega
end Go.Proofs.Ytndhabhlajldeaa
/- The document's containers: Check. -/
namespace Go.Proofs.Ytndhabhlajldeaa
open Go.RowKit
set_option maxHeartbeats 4000000 in
set_option maxRecDepth 100000 in
theorem rcheck_is {P : Nat → Prop} (w : World) (v : Value) (c : Con) (h : CW P w v c) : Calls Try.prog 58 #[v] w fun e w' => e = .returned (.int .i64 (chk c)) ∧ Below w.heap.size w w' := by
  obtain ⟨tv, cv, sv, dv, rfl, hT, hC, hS, hD⟩ := h
  obtain ⟨ta, tc, rfl, _, ht1⟩ := hT.len
  obtain ⟨ca, cc, rfl, _, hc1⟩ := hC.len
  obtain ⟨sa, sc, rfl, _, hs1⟩ := hS.len
  obtain ⟨da, dc, rfl, _, hd1⟩ := hD.len
  have EK : Hid (chk c = if c.cs.length = 0 ∨ 1024 < c.cs.length then 55 else if c.ts.length ≠ c.cs.length then 54 else if chkP 65535 c.cs ≠ 0 then chkP 65535 c.cs else if 256 < c.ss.length then 57 else if chkP 4294967295 c.ss ≠ 0 then chkP 4294967295 c.ss else if 65535 < c.n then 2 else if c.n < (c.d.length : Int) then 1 else chkT 0 c.ts) := rfl
  have B0 : Hid (Below w.heap.size w (w.alloc (.cells #[.slice ta c.ts.length tc, .slice ca c.cs.length cc, .slice sa c.ss.length sc, .slice da c.d.length dc, .int .i64 c.n] 28)) ∧ CBox (w.alloc (.cells #[.slice ta c.ts.length tc, .slice ca c.cs.length cc, .slice sa c.ss.length sc, .slice da c.d.length dc, .int .i64 c.n] 28)) w.heap.size 28 [.slice ta c.ts.length tc, .slice ca c.cs.length cc, .slice sa c.ss.length sc, .slice da c.d.length dc, .int .i64 c.n]) := ⟨below_alloc _ _, CBox.new _ _ [_, _, _, _, _]⟩
  have HT0 : Hid (∀ W, Below w.heap.size w W → TL P W (.slice ta c.ts.length tc) c.ts) := fun W q => hT.past q
  have HC0 : Hid (∀ W, Below w.heap.size w W → PL P W (.slice ca c.cs.length cc) c.cs) := fun W q => hC.past q
  have HS0 : Hid (∀ W, Below w.heap.size w W → PL P W (.slice sa c.ss.length sc) c.ss) := fun W q => hS.past q
  clear hT hC hS hD
  generalize chk c = r at *
  generalize hnt : c.ts.length = nt at *
  generalize hnc : c.cs.length = nc at *
  generalize hns : c.ss.length = ns at *
  generalize c.d.length = nd at *
  generalize c.n = z at *
  generalize c.ts = TT at *
  generalize c.cs = CC at *
  generalize c.ss = SS at *
  have HN : Hid (TT.length = nt ∧ CC.length = nc ∧ SS.length = ns) := ⟨hnt, hnc, hns⟩
  have tI : (nt : Int) ≤ 1152921504606846976 := by omega
  have cI : (nc : Int) ≤ 1152921504606846976 := by omega
  have sI : (ns : Int) ≤ 1152921504606846976 := by omega
  have dI : (nd : Int) ≤ 1152921504606846976 := by omega
  clear ht1 hc1 hs1 hd1 hnt hnc hns
  go_enter Try.func58, Try.ntmps58
  go_upto_region 1 with fail
  generalize w.alloc _ = W0 at B0 ⊢
  generalize hbx : w.heap.size = bx at *
  have GB : Hid (bx = w.heap.size) := hbx.symm
  have B1 : Hid (Below bx w W0) := B0.out.1
  have c0 : W0.cell? ⟨bx, 0, none⟩ = some (.slice ta nt tc) := B0.out.2.cell 0
  have c1 : W0.cell? ⟨bx, 1, none⟩ = some (.slice ca nc cc) := B0.out.2.cell 1
  have c2 : W0.cell? ⟨bx, 2, none⟩ = some (.slice sa ns sc) := B0.out.2.cell 2
  have c3 : W0.cell? ⟨bx, 3, none⟩ = some (.slice da nd dc) := B0.out.2.cell 3
  have c4 : W0.cell? ⟨bx, 4, none⟩ = some (.int .i64 z) := B0.out.2.cell 4
  have CB : Hid (CBox W0 bx 28 [.slice ta nt tc, .slice ca nc cc, .slice sa ns sc, .slice da nd dc, .int .i64 z]) := B0.out.2
  have HT : Hid (TL P W0 (.slice ta nt tc) TT) := HT0.out W0 B1.out
  have HC : Hid (PL P W0 (.slice ca nc cc) CC) := HC0.out W0 B1.out
  have HS : Hid (PL P W0 (.slice sa ns sc) SS) := HS0.out W0 B1.out
  clear B0 hbx HT0 HC0 HS0
  by_cases e0 : nc = 0
  · have E0 : Hid (r = 55) := by unfold Hid; rw [EK.out, if_pos (Or.inl e0)]
    have q1 : (nc : Int) < 1 := by omega
    clear e0
    go_wp2
    go_ret
    exact ⟨by rw [E0.out]; rfl, GB.out ▸ B1.out⟩
  have q0 : ¬ (nc : Int) < 1 := by omega
  by_cases e1 : 1024 < nc
  · have E0 : Hid (r = 55) := by unfold Hid; rw [EK.out, if_pos (Or.inr e1)]
    have q1 : (1024 : Int) < (nc : Int) := by omega
    clear e0 e1
    go_wp2
    go_ret
    exact ⟨by rw [E0.out]; rfl, GB.out ▸ B1.out⟩
  have q1 : ¬ (1024 : Int) < (nc : Int) := by omega
  generalize hrt : chkT 0 TT = rt at *
  have HRT : Hid (chkT 0 TT = rt) := hrt
  clear hrt
  have EK : Hid (r = if nt ≠ nc then 54 else if chkP 65535 CC ≠ 0 then chkP 65535 CC else (if 256 < ns then 57 else if chkP 4294967295 SS ≠ 0 then chkP 4294967295 SS else if 65535 < z then 2 else if z < (nd : Int) then 1 else rt)) := by unfold Hid; rw [EK.out, if_neg (by omega)]
  clear e0 e1
  go_upto_region 3 with fail
  by_cases e2 : nt = nc
  rotate_left
  · have E0 : Hid (r = 54) := by unfold Hid; rw [EK.out, if_pos e2]
    have q2 : ((nt : Int) == (nc : Int)) = false := by simp; omega
    have q3 : ((nt : Int) != (nc : Int)) = true := by simp; omega
    clear e2
    go_wp2
    go_ret
    exact ⟨by rw [E0.out]; rfl, GB.out ▸ B1.out⟩
  subst e2
  have EK : Hid (r = if chkP 65535 CC ≠ 0 then chkP 65535 CC else (if 256 < ns then 57 else if chkP 4294967295 SS ≠ 0 then chkP 4294967295 SS else if 65535 < z then 2 else if z < (nd : Int) then 1 else rt)) := by unfold Hid; rw [EK.out, if_neg (by simp)]
  clear q0 q1
  go_wp2
  go_loopw [3] (fun s wr => ∃ k : Nat, s = .int .i64 (k : Int) ∧ k ≤ nt ∧ wr = W0 ∧ r = if chkP 65535 (CC.drop k) ≠ 0 then chkP 65535 (CC.drop k) else (if 256 < ns then 57 else if chkP 4294967295 SS ≠ 0 then chkP 4294967295 SS else if 65535 < z then 2 else if z < (nd : Int) then 1 else rt)) (fun s _ => nt - (intOf s).toNat)
  case atStart => exact ⟨0, rfl, by omega, rfl, by rw [List.drop_zero]; exact EK.out⟩
  case round =>
    obtain ⟨k, rfl, hk, hwr, hr⟩ := hrel
    have hwr2 := hwr.symm
    clear hwr
    subst hwr2
    have HR : Hid (r = if chkP 65535 (CC.drop k) ≠ 0 then chkP 65535 (CC.drop k) else (if 256 < ns then 57 else if chkP 4294967295 SS ≠ 0 then chkP 4294967295 SS else if 65535 < z then 2 else if z < (nd : Int) then 1 else rt)) := hr
    clear hr EK
    by_cases e : k = nt
    rotate_left
    · have kn : (k : Int) < (nt : Int) := by omega
      obtain ⟨l, hl⟩ : ∃ l, CC[k]? = some l := ⟨CC[k]'(by have := HN.out; omega), List.getElem?_eq_getElem _⟩
      obtain ⟨g, a, u, rfl, hcell, hb⟩ := HC.out.get hl
      obtain ⟨ad2, cap2, rfl, _, hl1⟩ := hb.len
      have mI : (l.length : Int) ≤ 1152921504606846976 := by omega
      have EL : Hid (chkP 65535 (CC.drop k) = if l.length = 0 then 56 else if 65535 < l.length then 2 else chkP 65535 (CC.drop (k + 1))) := by unfold Hid; rw [drop_at hl]; rfl
      clear hl hb hl1
      generalize l.length = q at *
      by_cases e0 : q = 0
      · subst e0
        have E0 : Hid (r = 56) := by unfold Hid; rw [HR.out, EL.out, if_pos rfl]; rfl
        go_wp2
        go_ret
        exact ⟨by rw [E0.out]; rfl, GB.out ▸ B1.out⟩
      have q0 : ((q : Int) == 0) = false := by simp; omega
      by_cases e1 : 65535 < q
      · have E0 : Hid (r = 2) := by unfold Hid; rw [HR.out, EL.out, if_neg e0, if_pos e1]; rfl
        have c1 : (65535 : Int) < (q : Int) := by omega
        clear e0
        go_wp2
        go_ret
        exact ⟨by rw [E0.out]; rfl, GB.out ▸ B1.out⟩
      have E0 : Hid (r = if chkP 65535 (CC.drop (k + 1)) ≠ 0 then chkP 65535 (CC.drop (k + 1)) else (if 256 < ns then 57 else if chkP 4294967295 SS ≠ 0 then chkP 4294967295 SS else if 65535 < z then 2 else if z < (nd : Int) then 1 else rt)) := by unfold Hid; rw [HR.out, EL.out, if_neg e0, if_neg e1]
      have c1 : ¬ (65535 : Int) < (q : Int) := by omega
      clear e0 e1
      go_wp2
      go_roundw
      case rel => exact ⟨k + 1, by first | rfl | go_num, by omega, by first | rfl | trivial, E0.out⟩
      case measure => simp [intOf]; omega
    have e9 := e.symm
    clear e
    subst e9
    have EK : Hid (r = (if 256 < ns then 57 else if chkP 4294967295 SS ≠ 0 then chkP 4294967295 SS else if 65535 < z then 2 else if z < (nd : Int) then 1 else rt)) := by unfold Hid; rw [HR.out, List.drop_eq_nil_of_le (by have := HN.out; omega)]; rfl
    clear HR
    go_upto_region 12 with fail
    by_cases e4 : 256 < ns
    · have E0 : Hid (r = 57) := by unfold Hid; rw [EK.out, if_pos e4]
      have q2 : (256 : Int) < (ns : Int) := by omega
      clear e4
      go_wp2
      go_ret
      exact ⟨by rw [E0.out]; rfl, GB.out ▸ B1.out⟩
    have q4 : ¬ (256 : Int) < (ns : Int) := by omega
    have EK : Hid (r = if chkP 4294967295 SS ≠ 0 then chkP 4294967295 SS else (if 65535 < z then 2 else if z < (nd : Int) then 1 else rt)) := by unfold Hid; rw [EK.out, if_neg e4]
    clear e4
    go_wp2
    go_loopw [4] (fun s wr => ∃ k : Nat, s = .int .i64 (k : Int) ∧ k ≤ ns ∧ wr = W0 ∧ r = if chkP 4294967295 (SS.drop k) ≠ 0 then chkP 4294967295 (SS.drop k) else (if 65535 < z then 2 else if z < (nd : Int) then 1 else rt)) (fun s _ => ns - (intOf s).toNat)
    case atStart => exact ⟨0, rfl, by omega, rfl, by rw [List.drop_zero]; exact EK.out⟩
    case round =>
      obtain ⟨k, rfl, hk, hwr, hr⟩ := hrel
      have hwr2 := hwr.symm
      clear hwr
      subst hwr2
      have HR : Hid (r = if chkP 4294967295 (SS.drop k) ≠ 0 then chkP 4294967295 (SS.drop k) else (if 65535 < z then 2 else if z < (nd : Int) then 1 else rt)) := hr
      clear hr EK
      by_cases e : k = ns
      rotate_left
      · have kn : (k : Int) < (ns : Int) := by omega
        obtain ⟨l, hl⟩ : ∃ l, SS[k]? = some l := ⟨SS[k]'(by have := HN.out; omega), List.getElem?_eq_getElem _⟩
        obtain ⟨g, a, u, rfl, hcell, hb⟩ := HS.out.get hl
        obtain ⟨ad2, cap2, rfl, _, hl1⟩ := hb.len
        have mI : (l.length : Int) ≤ 1152921504606846976 := by omega
        have EL : Hid (chkP 4294967295 (SS.drop k) = if l.length = 0 then 56 else if 4294967295 < l.length then 2 else chkP 4294967295 (SS.drop (k + 1))) := by unfold Hid; rw [drop_at hl]; rfl
        clear hl hb hl1
        generalize l.length = q at *
        by_cases e0 : q = 0
        · subst e0
          have E0 : Hid (r = 56) := by unfold Hid; rw [HR.out, EL.out, if_pos rfl]; rfl
          go_wp2
          go_ret
          exact ⟨by rw [E0.out]; rfl, GB.out ▸ B1.out⟩
        have q0 : ((q : Int) == 0) = false := by simp; omega
        by_cases e1 : 4294967295 < q
        · have E0 : Hid (r = 2) := by unfold Hid; rw [HR.out, EL.out, if_neg e0, if_pos e1]; rfl
          have c1 : (4294967295 : Int) < (q : Int) := by omega
          clear e0
          go_wp2
          go_ret
          exact ⟨by rw [E0.out]; rfl, GB.out ▸ B1.out⟩
        have E0 : Hid (r = if chkP 4294967295 (SS.drop (k + 1)) ≠ 0 then chkP 4294967295 (SS.drop (k + 1)) else (if 65535 < z then 2 else if z < (nd : Int) then 1 else rt)) := by unfold Hid; rw [HR.out, EL.out, if_neg e0, if_neg e1]
        have c1 : ¬ (4294967295 : Int) < (q : Int) := by omega
        clear e0 e1
        go_wp2
        go_roundw
        case rel => exact ⟨k + 1, by first | rfl | go_num, by omega, by first | rfl | trivial, E0.out⟩
        case measure => simp [intOf]; omega
      have e9 := e.symm
      clear e
      subst e9
      have EK : Hid (r = (if 65535 < z then 2 else if z < (nd : Int) then 1 else rt)) := by unfold Hid; rw [HR.out, List.drop_eq_nil_of_le (by have := HN.out; omega)]; rfl
      clear HR
      go_upto_region 21 with fail
      by_cases e6 : 65535 < z
      · have E0 : Hid (r = 2) := by unfold Hid; rw [EK.out, if_pos e6]
        go_wp2
        go_ret
        exact ⟨by rw [E0.out]; rfl, GB.out ▸ B1.out⟩
      by_cases e7 : z < (nd : Int)
      · have E0 : Hid (r = 1) := by unfold Hid; rw [EK.out, if_neg e6, if_pos e7]
        go_wp2
        go_ret
        exact ⟨by rw [E0.out]; rfl, GB.out ▸ B1.out⟩
      have EK : Hid (r = rt) := by unfold Hid; rw [EK.out, if_neg e6, if_neg e7]
      have EK : Hid (r = chkT 0 (TT.drop 0)) := by unfold Hid; rw [List.drop_zero, HRT.out]; exact EK.out
      go_wp2
      clear e6 e7
      go_loopw [5] (fun s wr => ∃ k : Nat, s = .int .i64 (k : Int) ∧ k ≤ nt ∧ Below bx w wr ∧ CBox wr bx 28 [.slice ta nt tc, .slice ca nt cc, .slice sa ns sc, .slice da nd dc, .int .i64 z] ∧ TL P wr (.slice ta nt tc) TT ∧ r = chkT k (TT.drop k)) (fun s _ => nt - (intOf s).toNat)
      case atStart => exact ⟨0, rfl, by omega, B1.out, CB.out, HT.out, EK.out⟩
      case round =>
        obtain ⟨k, rfl, hk, hB, hC, hT, hr⟩ := hrel
        have HM : Hid (Below bx w wr ∧ CBox wr bx 28 [.slice ta nt tc, .slice ca nt cc, .slice sa ns sc, .slice da nd dc, .int .i64 z] ∧ TL P wr (.slice ta nt tc) TT) := ⟨hB, hC, hT⟩
        have HR : Hid (r = chkT k (TT.drop k)) := hr
        clear hB hC hT hr EK c0 c1 c2 c3 c4
        have c0 : wr.cell? ⟨bx, 0, none⟩ = some (.slice ta nt tc) := HM.out.2.1.cell 0
        by_cases e : k = nt
        · subst e
          have E0 : Hid (r = 0) := by unfold Hid; rw [HR.out, List.drop_eq_nil_of_le (by have := HN.out; omega)]; rfl
          go_wp2
          go_ret
          exact ⟨by rw [E0.out]; rfl, GB.out ▸ HM.out.1⟩
        · have kn : (k : Int) < (nt : Int) := by omega
          obtain ⟨⟨y1, y2, y3⟩, hl⟩ : ∃ t, TT[k]? = some t := ⟨TT[k]'(by have := HN.out; omega), List.getElem?_eq_getElem _⟩
          obtain ⟨g, a, rfl, f0, f1, f2⟩ := HM.out.2.2.get hl
          have EL : Hid (chkT k (TT.drop k) = if tyBad k (y1, y2, y3) < 3 then 59 else chkT (k + 1) (TT.drop (k + 1))) := by unfold Hid; rw [drop_at hl]; rfl
          have TW : Hid (Calls Try.prog 73 #[.int .i64 (k : Int), .agg #[.int .i64 y1, .int .i64 y2, .int .i64 y3]] wr fun e w' => e = .returned (.int .i64 (tyBad k (y1, y2, y3) : Int)) ∧ Below wr.heap.size wr w') := typeWrong_is wr k y1 y2 y3
          generalize tyBad k (y1, y2, y3) = tb at *
          clear hl
          by_cases e3 : tb < 3
          · have E0 : Hid (r = 59) := by unfold Hid; rw [HR.out, EL.out, if_pos e3]
            have q3 : (tb : Int) < 3 := by omega
            clear e3
            go_wp2_with (go_at_call 73; refine TW.out.mono ?_; rintro e w' ⟨rfl, hB⟩)
            go_ret
            exact ⟨by rw [E0.out]; rfl, GB.out ▸ HM.out.1.trans (hB.mono (Nat.le_trans (by rw [GB.out]; exact Nat.le_refl _) HM.out.1.size))⟩
          · have E0 : Hid (r = chkT (k + 1) (TT.drop (k + 1))) := by unfold Hid; rw [HR.out, EL.out, if_neg e3]
            have q3 : ¬ (tb : Int) < 3 := by omega
            clear e3
            go_wp2_with (go_at_call 73; refine TW.out.mono ?_; rintro e w' ⟨rfl, hB⟩)
            have HM2 : Hid (Below bx w w' ∧ CBox w' bx 28 [.slice (some ⟨g, a, none⟩) nt tc, .slice ca nt cc, .slice sa ns sc, .slice da nd dc, .int .i64 z] ∧ TL P w' (.slice (some ⟨g, a, none⟩) nt tc) TT) := ⟨HM.out.1.trans (hB.mono (Nat.le_trans (by rw [GB.out]; exact Nat.le_refl _) HM.out.1.size)), HM.out.2.1.past hB, HM.out.2.2.past hB⟩
            clear hB HM f0 f1 f2 c0 TW
            go_roundw
            case rel => exact ⟨k + 1, by first | rfl | go_num, by omega, HM2.out.1, HM2.out.2.1, HM2.out.2.2, E0.out⟩
            case measure => simp [intOf]; omega
theorem chkT_small : ∀ (l : List Ty) (i : Nat), chkT i l = 0 ∨ chkT i l = 59
  | [], _ => Or.inl rfl
  | t :: r, i => by
    unfold chkT
    split
    · exact Or.inr rfl
    · exact chkT_small r (i + 1)
theorem chk_small (c : Con) : chk c < 1000 ∧ -1000 < chk c := by
  have h1 := chkP_cases 65535 c.cs
  have h2 := chkP_cases 4294967295 c.ss
  have h3 := chkT_small c.ts 0
  unfold chk
  repeat' split
  all_goals omega
set_option maxHeartbeats 4000000 in
set_option maxRecDepth 100000 in
theorem rCheck_is {P : Nat → Prop} (w : World) (v : Value) (c : Con) (h : CW P w v c) : Calls Try.prog 21 #[v] w fun e w' => e = .returned (.int .i64 (chk c)) ∧ Below w.heap.size w w' := by
  obtain ⟨tv, cv, sv, dv, rfl, hT, hC, hS, hD⟩ := id h
  obtain ⟨ta, tc, rfl, _⟩ := hT.len
  obtain ⟨ca, cc, rfl, _⟩ := hC.len
  obtain ⟨sa, sc, rfl, _⟩ := hS.len
  obtain ⟨da, dc, rfl, _⟩ := hD.len
  have CK : Hid (∀ W, Below w.heap.size w W → Calls Try.prog 58 #[.agg #[.slice ta c.ts.length tc, .slice ca c.cs.length cc, .slice sa c.ss.length sc, .slice da c.d.length dc, .int .i64 c.n]] W fun e w' => e = .returned (.int .i64 (chk c)) ∧ Below W.heap.size W w') := fun W hW => rcheck_is W _ c (h.past hW)
  have B0 : Hid (Below w.heap.size w (w.alloc (.cells #[.slice ta c.ts.length tc, .slice ca c.cs.length cc, .slice sa c.ss.length sc, .slice da c.d.length dc, .int .i64 c.n] 28)) ∧ CBox (w.alloc (.cells #[.slice ta c.ts.length tc, .slice ca c.cs.length cc, .slice sa c.ss.length sc, .slice da c.d.length dc, .int .i64 c.n] 28)) w.heap.size 28 [.slice ta c.ts.length tc, .slice ca c.cs.length cc, .slice sa c.ss.length sc, .slice da c.d.length dc, .int .i64 c.n]) := ⟨below_alloc _ _, CBox.new _ _ [_, _, _, _, _]⟩
  have WR : Hid (chk c < 1000 ∧ -1000 < chk c) := chk_small c
  clear h hT hC hS hD
  generalize chk c = r at *
  generalize c.ts.length = nt at *
  generalize c.cs.length = nc at *
  generalize c.ss.length = ns at *
  generalize c.d.length = nd at *
  generalize c.n = z at *
  have wr : IntKind.i64.wrap r = r := by rw [IntKind.wrap_i64]; have := WR.out; omega
  generalize hbx : w.heap.size = bx at *
  have GE : Hid (bx ≤ w.heap.size) := by unfold Hid; omega
  go_enter Try.func21, Try.ntmps21
  go_upto_region 1 with fail
  generalize w.alloc _ = W0 at B0 ⊢
  have c0 : W0.cell? ⟨bx, 0, none⟩ = some (.slice ta nt tc) := B0.out.2.cell 0
  have c1 : W0.cell? ⟨bx, 1, none⟩ = some (.slice ca nc cc) := B0.out.2.cell 1
  have c2 : W0.cell? ⟨bx, 2, none⟩ = some (.slice sa ns sc) := B0.out.2.cell 2
  have c3 : W0.cell? ⟨bx, 3, none⟩ = some (.slice da nd dc) := B0.out.2.cell 3
  have c4 : W0.cell? ⟨bx, 4, none⟩ = some (.int .i64 z) := B0.out.2.cell 4
  clear hbx
  go_wp2_with (go_at_call 58; refine (CK.out _ B0.out.1).mono ?_; rintro e w1 ⟨rfl, hB⟩)
  go_ret
  exact ⟨rfl, B0.out.1.trans (hB.mono (Nat.le_trans GE.out B0.out.1.size))⟩
end Go.Proofs.Ytndhabhlajldeaa
/- The document's containers: Head. -/
namespace Go.Proofs.Ytndhabhlajldeaa
open Go.RowKit
theorem InO.app {B C s n n' : Nat} {W W' : World} {u v v' : Value} {l : List Nat} {cs cs' : List Value} (h : InO C W u l) (k : App B 5 s W W' v v' n cs) (hv : W.ownsRow B 5 s v n' cs') : InO C W' u l :=
  owns_row_blockB h fun g hg => k.but.block g (World.ownsRow.lt h g hg).2 fun e => by
    rcases hv.2 with ⟨rfl, _⟩ | ⟨g', c, cur, rfl, _, hh, _⟩
    · cases e
    · injection e with e
      subst e
      rcases id h.2 with ⟨rfl, _⟩ | ⟨g2, c2, cur2, rfl, _, hh2, _⟩
      · cases hg
      · injection hg with hg
        subst hg
        rw [hh] at hh2
        cases hh2
theorem InO.sl {C : Nat} {W : World} {v : Value} {l : List Nat} (h : InO C W v l) : ∃ ad cap, v = .slice ad l.length cap := owns_sl h
/-- a header that the document writes -/
structure HdI (B : Nat) (w W : World) (cv sv : Value) (cs ss : List Nat) (v0 v : Value) (l : List Nat) : Prop where
  app : App B 5 1 w W v0 v l.length (bV l)
  uc : InO 0 W cv cs
  us : InO 0 W sv ss
  hB : B ≤ w.heap.size
section
variable {B : Nat} {w W W' : World} {cv sv v0 v v' : Value} {cs ss l l' : List Nat}
theorem HdI.le (h : HdI B w W cv sv cs ss v0 v l) : B ≤ W.heap.size := Nat.le_trans h.hB h.app.but.size
theorem HdI.past (h : HdI B w W cv sv cs ss v0 v l) (k : Below W.heap.size W W') : HdI B w W' cv sv cs ss v0 v l := ⟨h.app.then k, h.uc.past k, h.us.past k, h.hB⟩
theorem HdI.step (h : HdI B w W cv sv cs ss v0 v l) (k : App B 5 1 W W' v v' l'.length (bV l')) : HdI B w W' cv sv cs ss v0 v' l' := ⟨h.app.trans k, h.uc.app k h.app.row, h.us.app k h.app.row, h.hB⟩
end
set_option maxHeartbeats 4000000 in
set_option maxRecDepth 100000 in
theorem headR_is (w : World) (cv sv : Value) (cs ss : List Nat) (z : Nat) (hc : InO 0 w cv cs) (hs : InO 0 w sv ss) (hx : ∀ x ∈ cs, x < 4611686018427387904) (hy : ∀ x ∈ ss, x < 4611686018427387904) (hn : cs.length ≤ 16777216) (hm : ss.length ≤ 16777216) (hz : z < 4611686018427387904) :
    Calls Try.prog 78 #[cv, sv, .int .i64 (z : Int)] w fun e w' => ∃ v', e = .returned v' ∧ w'.ownsRow w.heap.size 5 1 v' (hd cs ss z).length (bV (hd cs ss z)) ∧ Below w.heap.size w w' := by
  obtain ⟨ca, cc, rfl⟩ := hc.sl
  obtain ⟨sa, sc, rfl⟩ := hs.sl
  obtain ⟨F, hF⟩ : ∃ F, F = hd cs ss z := ⟨_, rfl⟩
  rw [← hF]
  unfold hd at hF
  have HW : Hid (cs.length ≤ 16777216 ∧ ss.length ≤ 16777216 ∧ z < 4611686018427387904) := ⟨hn, hm, hz⟩
  have HXX : Hid ((∀ x ∈ cs, x < 4611686018427387904) ∧ ∀ x ∈ ss, x < 4611686018427387904) := ⟨hx, hy⟩
  generalize hN : cs.length = n at *
  generalize hM : ss.length = m at *
  have EN : Hid (cs.length = n ∧ ss.length = m) := ⟨hN, hM⟩
  have nI : (n : Int) ≤ 16777216 := by omega
  have mI : (m : Int) ≤ 16777216 := by omega
  have HF : Hid (F = [239, 0, 1] ++ ([1] ++ dig 2 (4 * n)) ++ ([2] ++ dig 2 n ++ cs.flatMap (dig 2)) ++ (if m = 0 then [] else [3] ++ dig 2 m ++ ss.flatMap (dig 4)) ++ ([255] ++ dig 2 z) ++ [0]) := hF
  obtain ⟨q, hq⟩ : ∃ q : Nat, q = 4 * n := ⟨_, rfl⟩
  have r1 : (4 : Int) * (n : Int) = (q : Int) := by omega
  have wq : IntKind.i64.wrap (q : Int) = (q : Int) := by rw [IntKind.wrap_i64]; omega
  have HQ : Hid (q = 4 * n) := hq
  have HX : Hid (q ≤ 67108864) := by unfold Hid; omega
  have HLN : Hid ((dig 2 q).length = 2 ∧ (dig 2 n).length = 2 ∧ (cs.flatMap (dig 2)).length = 2 * n ∧ (dig 2 m).length = 2 ∧ (ss.flatMap (dig 4)).length = 4 * m ∧ (dig 2 z).length = 2) := ⟨dig_len _ _, dig_len _ _, by rw [flat_len, hN], dig_len _ _, by rw [flat_len, hM], dig_len _ _⟩
  have BW : Hid (Below w.heap.size w (w.alloc (.cells #[.int .u8 239, .int .u8 0, .int .u8 1, .int .u8 1] 5))) := below_alloc _ _
  have R0 : Hid ((w.alloc (.cells #[.int .u8 239, .int .u8 0, .int .u8 1, .int .u8 1] 5)).ownsRow w.heap.size 5 1 (.slice (some ⟨w.heap.size, 0, none⟩) 4 4) [239, 0, 1, 1].length (bV [239, 0, 1, 1])) := ⟨rfl, Or.inr ⟨w.heap.size, 4, _, rfl, Nat.le_refl _, heap_alloc_new w _, by decide, by unfold maxLen; omega, rfl, by simp [bV]⟩⟩
  have M : Hid (HdI w.heap.size (w.alloc (.cells #[.int .u8 239, .int .u8 0, .int .u8 1, .int .u8 1] 5)) (w.alloc (.cells #[.int .u8 239, .int .u8 0, .int .u8 1, .int .u8 1] 5)) (.slice ca n cc) (.slice sa m sc) cs ss (.slice (some ⟨w.heap.size, 0, none⟩) 4 4) (.slice (some ⟨w.heap.size, 0, none⟩) 4 4) [239, 0, 1, 1]) := ⟨App.refl R0.out, hc.past BW.out, hs.past BW.out, BW.out.size⟩
  clear hc hs hx hy hn hm hN hM hF hq hz
  go_enter Try.func78, Try.ntmps78
  go_upto_region 2 with fail
  generalize w.alloc _ = W0 at M BW R0 ⊢
  generalize hbw : w.heap.size = bw at *
  have GB : Hid (bw = w.heap.size) := hbw.symm
  clear hbw
  generalize Value.slice (some ⟨bw, 0, none⟩) 4 4 = v0 at *
  have NC : Hid (Calls Try.prog 80 #[v0, .int .i64 (q : Int), .int .i64 2] W0 fun e w' => ∃ v', e = .returned v' ∧ App bw 5 1 W0 w' v0 v' (([239, 0, 1, 1]) ++ dig 2 q).length (bV (([239, 0, 1, 1]) ++ dig 2 q))) := numberR_is W0 bw M.out.le v0 ([239, 0, 1, 1]) M.out.app.row 2 q (by omega) (by have := HW.out; have := HX.out; omega) (by have := HW.out; have := HLN.out; simp only [List.length_cons, List.length_nil]; omega)
  go_upto_region 3 with (go_at_call 80; refine NC.out.mono ?_; rintro e W2 ⟨v2, rfl, hA⟩)
  have M2 : Hid (HdI bw W0 W2 (.slice ca n cc) (.slice sa m sc) cs ss v0 v2 (([239, 0, 1, 1]) ++ dig 2 q)) := M.out.step hA
  clear NC hA M
  have M := M2
  clear M2
  go_upto_region 4 with (at_builtin; refine wpList_appB (P := fun k => k = W2.heap.size) rfl _ _ rfl bw (M.out.past (below_alloc _ _)).le v2 (([239, 0, 1, 1]) ++ dig 2 q) rfl (M.out.past (below_alloc _ _)).app.row (.slice (some ⟨W2.heap.size, 0, none⟩) 1 1) [2] rfl (BL.new W2 [2] (by simp)) (by have := HW.out; have := HLN.out; simp only [List.length_append, List.length_cons, List.length_nil]; omega) ?_; intro v3 W3 hA)
  have M2 : Hid (HdI bw W0 W3 (.slice ca n cc) (.slice sa m sc) cs ss v0 v3 ((([239, 0, 1, 1]) ++ dig 2 q) ++ [2])) := (M.out.past (below_alloc _ _)).step hA
  clear hA M
  have M := M2
  clear M2
  have NC : Hid (Calls Try.prog 80 #[v3, .int .i64 (n : Int), .int .i64 2] W3 fun e w' => ∃ v', e = .returned v' ∧ App bw 5 1 W3 w' v3 v' (((([239, 0, 1, 1]) ++ dig 2 q) ++ [2]) ++ dig 2 n).length (bV (((([239, 0, 1, 1]) ++ dig 2 q) ++ [2]) ++ dig 2 n))) := numberR_is W3 bw M.out.le v3 ((([239, 0, 1, 1]) ++ dig 2 q) ++ [2]) M.out.app.row 2 n (by omega) (by have := HW.out; have := HX.out; omega) (by have := HW.out; have := HLN.out; simp only [List.length_append, List.length_cons, List.length_nil]; omega)
  go_upto_region 5 with (go_at_call 80; refine NC.out.mono ?_; rintro e W4 ⟨v4, rfl, hA⟩)
  have M2 : Hid (HdI bw W0 W4 (.slice ca n cc) (.slice sa m sc) cs ss v0 v4 (((([239, 0, 1, 1]) ++ dig 2 q) ++ [2]) ++ dig 2 n)) := M.out.step hA
  clear NC hA M
  have M := M2
  clear M2
  go_wp2
  go_loopw [7, 8] (fun s7 s8 wr => ∃ k : Nat, s8 = .int .i64 (k : Int) ∧ k ≤ n ∧ HdI bw W0 wr (.slice ca n cc) (.slice sa m sc) cs ss v0 s7 ((((([239, 0, 1, 1]) ++ dig 2 q) ++ [2]) ++ dig 2 n) ++ (cs.take k).flatMap (dig 2))) (fun _ s8 _ => n - (intOf s8).toNat)
  case atStart => exact ⟨0, rfl, by omega, by simpa using M.out⟩
  case round =>
    obtain ⟨k, rfl, hk, hM⟩ := hrel
    have M : Hid (HdI bw W0 wr (.slice ca n cc) (.slice sa m sc) cs ss v0 u7 ((((([239, 0, 1, 1]) ++ dig 2 q) ++ [2]) ++ dig 2 n) ++ (cs.take k).flatMap (dig 2))) := hM
    clear hM
    by_cases e : k = n
    rotate_left
    · have kn : (k : Int) < (n : Int) := by omega
      obtain ⟨x, hx⟩ : ∃ x, cs[k]? = some x := ⟨cs[k]'(by have := EN.out; omega), List.getElem?_eq_getElem _⟩
      obtain ⟨g, rfl, hcell⟩ := M.out.uc.get hx
      have xl : x < 4611686018427387904 := HXX.out.1 x (List.mem_of_getElem? hx)
      have FL : Hid (((cs.take k).flatMap (dig 2)).length = 2 * k) := by unfold Hid; rw [flat_len, List.length_take]; have := EN.out; (congr 1); omega
      have NC : Hid (Calls Try.prog 80 #[u7, .int .i64 (x : Int), .int .i64 2] wr fun e w' => ∃ v', e = .returned v' ∧ App bw 5 1 wr w' u7 v' (((((([239, 0, 1, 1]) ++ dig 2 q) ++ [2]) ++ dig 2 n) ++ (cs.take k).flatMap (dig 2)) ++ dig 2 x).length (bV (((((([239, 0, 1, 1]) ++ dig 2 q) ++ [2]) ++ dig 2 n) ++ (cs.take k).flatMap (dig 2)) ++ dig 2 x))) := numberR_is wr bw M.out.le u7 _ M.out.app.row 2 x (by omega) xl (by have := HW.out; have := HLN.out; have := FL.out; simp only [List.length_append, List.length_cons, List.length_nil]; omega)
      have HK : Hid (cs[k]? = some x) := hx
      clear hx xl e
      go_wp2_with (go_at_call 80; refine NC.out.mono ?_; rintro e w' ⟨v', rfl, hA⟩)
      have HR : Hid (HdI bw W0 w' (.slice (some ⟨g, 0, none⟩) n cc) (.slice sa m sc) cs ss v0 v' ((((([239, 0, 1, 1]) ++ dig 2 q) ++ [2]) ++ dig 2 n) ++ (cs.take (k + 1)).flatMap (dig 2))) := by
        have h9 := M.out.step hA
        rw [List.append_assoc (((([239, 0, 1, 1]) ++ dig 2 q) ++ [2]) ++ dig 2 n), ← flat_snoc HK.out] at h9
        exact h9
      clear hA NC M
      go_roundw
      case rel => exact ⟨k + 1, by first | rfl | go_num, by omega, HR.out⟩
      case measure => simp [intOf]; omega
    have e9 := e.symm
    clear e
    subst e9
    have M2 : Hid (HdI bw W0 wr (.slice ca n cc) (.slice sa m sc) cs ss v0 u7 ((((([239, 0, 1, 1]) ++ dig 2 q) ++ [2]) ++ dig 2 n) ++ cs.flatMap (dig 2))) := by have := M.out; rwa [List.take_of_length_le (by have := EN.out; omega)] at this
    clear M
    have M := M2
    clear M2
    by_cases em : m = 0
    · have EM : Hid (m = 0) := em
      have m0 : ¬ (0 : Int) < (m : Int) := by omega
      clear em
      go_upto_region 16 with fail
      go_upto_region 17 with (at_builtin; refine wpList_appB (P := fun k => k = wr.heap.size) rfl _ _ rfl bw (M.out.past (below_alloc _ _)).le u7 ((((([239, 0, 1, 1]) ++ dig 2 q) ++ [2]) ++ dig 2 n) ++ cs.flatMap (dig 2)) rfl (M.out.past (below_alloc _ _)).app.row (.slice (some ⟨wr.heap.size, 0, none⟩) 1 1) [255] rfl (BL.new wr [255] (by simp)) (by have := HW.out; have := HLN.out; simp only [List.length_append, List.length_cons, List.length_nil]; omega) ?_; intro x1 X1 hA)
      have M2 : Hid (HdI bw W0 X1 (.slice ca n cc) (.slice sa m sc) cs ss v0 x1 (((((([239, 0, 1, 1]) ++ dig 2 q) ++ [2]) ++ dig 2 n) ++ cs.flatMap (dig 2)) ++ [255])) := (M.out.past (below_alloc _ _)).step hA
      clear hA M
      have M := M2
      clear M2
      have NC : Hid (Calls Try.prog 80 #[x1, .int .i64 (z : Int), .int .i64 2] X1 fun e w' => ∃ v', e = .returned v' ∧ App bw 5 1 X1 w' x1 v' ((((((([239, 0, 1, 1]) ++ dig 2 q) ++ [2]) ++ dig 2 n) ++ cs.flatMap (dig 2)) ++ [255]) ++ dig 2 z).length (bV ((((((([239, 0, 1, 1]) ++ dig 2 q) ++ [2]) ++ dig 2 n) ++ cs.flatMap (dig 2)) ++ [255]) ++ dig 2 z))) := numberR_is X1 bw M.out.le x1 (((((([239, 0, 1, 1]) ++ dig 2 q) ++ [2]) ++ dig 2 n) ++ cs.flatMap (dig 2)) ++ [255]) M.out.app.row 2 z (by omega) (by have := HW.out; have := HX.out; omega) (by have := HW.out; have := HLN.out; simp only [List.length_append, List.length_cons, List.length_nil]; omega)
      go_upto_region 18 with (go_at_call 80; refine NC.out.mono ?_; rintro e X2 ⟨x2, rfl, hA⟩)
      have M2 : Hid (HdI bw W0 X2 (.slice ca n cc) (.slice sa m sc) cs ss v0 x2 ((((((([239, 0, 1, 1]) ++ dig 2 q) ++ [2]) ++ dig 2 n) ++ cs.flatMap (dig 2)) ++ [255]) ++ dig 2 z)) := M.out.step hA
      clear NC hA M
      have M := M2
      clear M2
      go_wp2_with (at_builtin; refine wpList_appB (P := fun k => k = X2.heap.size) rfl _ _ rfl bw (M.out.past (below_alloc _ _)).le x2 ((((((([239, 0, 1, 1]) ++ dig 2 q) ++ [2]) ++ dig 2 n) ++ cs.flatMap (dig 2)) ++ [255]) ++ dig 2 z) rfl (M.out.past (below_alloc _ _)).app.row (.slice (some ⟨X2.heap.size, 0, none⟩) 1 1) [0] rfl (BL.new X2 [0] (by simp)) (by have := HW.out; have := HLN.out; simp only [List.length_append, List.length_cons, List.length_nil]; omega) ?_; intro x3 X3 hA)
      have M2 : Hid (HdI bw W0 X3 (.slice ca n cc) (.slice sa m sc) cs ss v0 x3 (((((((([239, 0, 1, 1]) ++ dig 2 q) ++ [2]) ++ dig 2 n) ++ cs.flatMap (dig 2)) ++ [255]) ++ dig 2 z) ++ [0])) := (M.out.past (below_alloc _ _)).step hA
      clear hA M
      have M := M2
      clear M2
      go_ret
      have EF : ((((((([239, 0, 1, 1]) ++ dig 2 q) ++ [2]) ++ dig 2 n) ++ cs.flatMap (dig 2)) ++ [255]) ++ dig 2 z) ++ [0] = F := by rw [HF.out, HQ.out]; rw [if_pos EM.out]; simp only [List.append_assoc, List.nil_append, List.cons_append]
      refine ⟨_, rfl, ?_, ?_⟩
      · rw [← EF, GB.out.symm]; exact M.out.app.row
      · rw [← GB.out]; exact BW.out.trans (M.out.app.below R0.out (Nat.le_trans (Nat.le_of_eq GB.out) BW.out.size))
    have EM : Hid (¬ m = 0) := em
    have m0 : (0 : Int) < (m : Int) := by omega
    clear em
    go_upto_region 10 with fail
    go_upto_region 11 with (at_builtin; refine wpList_appB (P := fun k => k = wr.heap.size) rfl _ _ rfl bw (M.out.past (below_alloc _ _)).le u7 ((((([239, 0, 1, 1]) ++ dig 2 q) ++ [2]) ++ dig 2 n) ++ cs.flatMap (dig 2)) rfl (M.out.past (below_alloc _ _)).app.row (.slice (some ⟨wr.heap.size, 0, none⟩) 1 1) [3] rfl (BL.new wr [3] (by simp)) (by have := HW.out; have := HLN.out; simp only [List.length_append, List.length_cons, List.length_nil]; omega) ?_; intro y1 Y1 hA)
    have M2 : Hid (HdI bw W0 Y1 (.slice ca n cc) (.slice sa m sc) cs ss v0 y1 (((((([239, 0, 1, 1]) ++ dig 2 q) ++ [2]) ++ dig 2 n) ++ cs.flatMap (dig 2)) ++ [3])) := (M.out.past (below_alloc _ _)).step hA
    clear hA M
    have M := M2
    clear M2
    have NC : Hid (Calls Try.prog 80 #[y1, .int .i64 (m : Int), .int .i64 2] Y1 fun e w' => ∃ v', e = .returned v' ∧ App bw 5 1 Y1 w' y1 v' ((((((([239, 0, 1, 1]) ++ dig 2 q) ++ [2]) ++ dig 2 n) ++ cs.flatMap (dig 2)) ++ [3]) ++ dig 2 m).length (bV ((((((([239, 0, 1, 1]) ++ dig 2 q) ++ [2]) ++ dig 2 n) ++ cs.flatMap (dig 2)) ++ [3]) ++ dig 2 m))) := numberR_is Y1 bw M.out.le y1 (((((([239, 0, 1, 1]) ++ dig 2 q) ++ [2]) ++ dig 2 n) ++ cs.flatMap (dig 2)) ++ [3]) M.out.app.row 2 m (by omega) (by have := HW.out; have := HX.out; omega) (by have := HW.out; have := HLN.out; simp only [List.length_append, List.length_cons, List.length_nil]; omega)
    go_upto_region 12 with (go_at_call 80; refine NC.out.mono ?_; rintro e Y2 ⟨y2, rfl, hA⟩)
    have M2 : Hid (HdI bw W0 Y2 (.slice ca n cc) (.slice sa m sc) cs ss v0 y2 ((((((([239, 0, 1, 1]) ++ dig 2 q) ++ [2]) ++ dig 2 n) ++ cs.flatMap (dig 2)) ++ [3]) ++ dig 2 m)) := M.out.step hA
    clear NC hA M
    have M := M2
    clear M2
    go_wp2
    go_loopw [7, 9] (fun s7 s8 wr => ∃ k : Nat, s8 = .int .i64 (k : Int) ∧ k ≤ m ∧ HdI bw W0 wr (.slice ca n cc) (.slice sa m sc) cs ss v0 s7 (((((((([239, 0, 1, 1]) ++ dig 2 q) ++ [2]) ++ dig 2 n) ++ cs.flatMap (dig 2)) ++ [3]) ++ dig 2 m) ++ (ss.take k).flatMap (dig 4))) (fun _ s8 _ => m - (intOf s8).toNat)
    case atStart => exact ⟨0, rfl, by omega, by simpa using M.out⟩
    case round =>
      obtain ⟨k, rfl, hk, hM⟩ := hrel
      have M : Hid (HdI bw W0 wr (.slice ca n cc) (.slice sa m sc) cs ss v0 u7 (((((((([239, 0, 1, 1]) ++ dig 2 q) ++ [2]) ++ dig 2 n) ++ cs.flatMap (dig 2)) ++ [3]) ++ dig 2 m) ++ (ss.take k).flatMap (dig 4))) := hM
      clear hM
      by_cases e : k = m
      rotate_left
      · have kn : (k : Int) < (m : Int) := by omega
        obtain ⟨x, hx⟩ : ∃ x, ss[k]? = some x := ⟨ss[k]'(by have := EN.out; omega), List.getElem?_eq_getElem _⟩
        obtain ⟨g, rfl, hcell⟩ := M.out.us.get hx
        have xl : x < 4611686018427387904 := HXX.out.2 x (List.mem_of_getElem? hx)
        have FL : Hid (((ss.take k).flatMap (dig 4)).length = 4 * k) := by unfold Hid; rw [flat_len, List.length_take]; have := EN.out; (congr 1); omega
        have NC : Hid (Calls Try.prog 80 #[u7, .int .i64 (x : Int), .int .i64 4] wr fun e w' => ∃ v', e = .returned v' ∧ App bw 5 1 wr w' u7 v' ((((((((([239, 0, 1, 1]) ++ dig 2 q) ++ [2]) ++ dig 2 n) ++ cs.flatMap (dig 2)) ++ [3]) ++ dig 2 m) ++ (ss.take k).flatMap (dig 4)) ++ dig 4 x).length (bV ((((((((([239, 0, 1, 1]) ++ dig 2 q) ++ [2]) ++ dig 2 n) ++ cs.flatMap (dig 2)) ++ [3]) ++ dig 2 m) ++ (ss.take k).flatMap (dig 4)) ++ dig 4 x))) := numberR_is wr bw M.out.le u7 _ M.out.app.row 4 x (by omega) xl (by have := HW.out; have := HLN.out; have := FL.out; simp only [List.length_append, List.length_cons, List.length_nil]; omega)
        have HK : Hid (ss[k]? = some x) := hx
        clear hx xl e
        go_wp2_with (go_at_call 80; refine NC.out.mono ?_; rintro e w' ⟨v', rfl, hA⟩)
        have HR : Hid (HdI bw W0 w' (.slice ca n cc) (.slice (some ⟨g, 0, none⟩) m sc) cs ss v0 v' (((((((([239, 0, 1, 1]) ++ dig 2 q) ++ [2]) ++ dig 2 n) ++ cs.flatMap (dig 2)) ++ [3]) ++ dig 2 m) ++ (ss.take (k + 1)).flatMap (dig 4))) := by
          have h9 := M.out.step hA
          rw [List.append_assoc ((((((([239, 0, 1, 1]) ++ dig 2 q) ++ [2]) ++ dig 2 n) ++ cs.flatMap (dig 2)) ++ [3]) ++ dig 2 m), ← flat_snoc HK.out] at h9
          exact h9
        clear hA NC M
        go_roundw
        case rel => exact ⟨k + 1, by first | rfl | go_num, by omega, HR.out⟩
        case measure => simp [intOf]; omega
      have e9 := e.symm
      clear e
      subst e9
      have M2 : Hid (HdI bw W0 wr (.slice ca n cc) (.slice sa m sc) cs ss v0 u7 (((((((([239, 0, 1, 1]) ++ dig 2 q) ++ [2]) ++ dig 2 n) ++ cs.flatMap (dig 2)) ++ [3]) ++ dig 2 m) ++ ss.flatMap (dig 4))) := by have := M.out; rwa [List.take_of_length_le (by have := EN.out; omega)] at this
      clear M
      have M := M2
      clear M2
      go_upto_region 17 with (at_builtin; refine wpList_appB (P := fun k => k = wr.heap.size) rfl _ _ rfl bw (M.out.past (below_alloc _ _)).le u7 (((((((([239, 0, 1, 1]) ++ dig 2 q) ++ [2]) ++ dig 2 n) ++ cs.flatMap (dig 2)) ++ [3]) ++ dig 2 m) ++ ss.flatMap (dig 4)) rfl (M.out.past (below_alloc _ _)).app.row (.slice (some ⟨wr.heap.size, 0, none⟩) 1 1) [255] rfl (BL.new wr [255] (by simp)) (by have := HW.out; have := HLN.out; simp only [List.length_append, List.length_cons, List.length_nil]; omega) ?_; intro x1 X1 hA)
      have M2 : Hid (HdI bw W0 X1 (.slice ca n cc) (.slice sa m sc) cs ss v0 x1 ((((((((([239, 0, 1, 1]) ++ dig 2 q) ++ [2]) ++ dig 2 n) ++ cs.flatMap (dig 2)) ++ [3]) ++ dig 2 m) ++ ss.flatMap (dig 4)) ++ [255])) := (M.out.past (below_alloc _ _)).step hA
      clear hA M
      have M := M2
      clear M2
      have NC : Hid (Calls Try.prog 80 #[x1, .int .i64 (z : Int), .int .i64 2] X1 fun e w' => ∃ v', e = .returned v' ∧ App bw 5 1 X1 w' x1 v' (((((((((([239, 0, 1, 1]) ++ dig 2 q) ++ [2]) ++ dig 2 n) ++ cs.flatMap (dig 2)) ++ [3]) ++ dig 2 m) ++ ss.flatMap (dig 4)) ++ [255]) ++ dig 2 z).length (bV (((((((((([239, 0, 1, 1]) ++ dig 2 q) ++ [2]) ++ dig 2 n) ++ cs.flatMap (dig 2)) ++ [3]) ++ dig 2 m) ++ ss.flatMap (dig 4)) ++ [255]) ++ dig 2 z))) := numberR_is X1 bw M.out.le x1 ((((((((([239, 0, 1, 1]) ++ dig 2 q) ++ [2]) ++ dig 2 n) ++ cs.flatMap (dig 2)) ++ [3]) ++ dig 2 m) ++ ss.flatMap (dig 4)) ++ [255]) M.out.app.row 2 z (by omega) (by have := HW.out; have := HX.out; omega) (by have := HW.out; have := HLN.out; simp only [List.length_append, List.length_cons, List.length_nil]; omega)
      go_upto_region 18 with (go_at_call 80; refine NC.out.mono ?_; rintro e X2 ⟨x2, rfl, hA⟩)
      have M2 : Hid (HdI bw W0 X2 (.slice ca n cc) (.slice sa m sc) cs ss v0 x2 (((((((((([239, 0, 1, 1]) ++ dig 2 q) ++ [2]) ++ dig 2 n) ++ cs.flatMap (dig 2)) ++ [3]) ++ dig 2 m) ++ ss.flatMap (dig 4)) ++ [255]) ++ dig 2 z)) := M.out.step hA
      clear NC hA M
      have M := M2
      clear M2
      go_wp2_with (at_builtin; refine wpList_appB (P := fun k => k = X2.heap.size) rfl _ _ rfl bw (M.out.past (below_alloc _ _)).le x2 (((((((((([239, 0, 1, 1]) ++ dig 2 q) ++ [2]) ++ dig 2 n) ++ cs.flatMap (dig 2)) ++ [3]) ++ dig 2 m) ++ ss.flatMap (dig 4)) ++ [255]) ++ dig 2 z) rfl (M.out.past (below_alloc _ _)).app.row (.slice (some ⟨X2.heap.size, 0, none⟩) 1 1) [0] rfl (BL.new X2 [0] (by simp)) (by have := HW.out; have := HLN.out; simp only [List.length_append, List.length_cons, List.length_nil]; omega) ?_; intro x3 X3 hA)
      have M2 : Hid (HdI bw W0 X3 (.slice ca n cc) (.slice sa m sc) cs ss v0 x3 ((((((((((([239, 0, 1, 1]) ++ dig 2 q) ++ [2]) ++ dig 2 n) ++ cs.flatMap (dig 2)) ++ [3]) ++ dig 2 m) ++ ss.flatMap (dig 4)) ++ [255]) ++ dig 2 z) ++ [0])) := (M.out.past (below_alloc _ _)).step hA
      clear hA M
      have M := M2
      clear M2
      go_ret
      have EF : (((((((((([239, 0, 1, 1]) ++ dig 2 q) ++ [2]) ++ dig 2 n) ++ cs.flatMap (dig 2)) ++ [3]) ++ dig 2 m) ++ ss.flatMap (dig 4)) ++ [255]) ++ dig 2 z) ++ [0] = F := by rw [HF.out, HQ.out]; rw [if_neg EM.out]; simp only [List.append_assoc, List.nil_append, List.cons_append]
      refine ⟨_, rfl, ?_, ?_⟩
      · rw [← EF, GB.out.symm]; exact M.out.app.row
      · rw [← GB.out]; exact BW.out.trans (M.out.app.below R0.out (Nat.le_trans (Nat.le_of_eq GB.out) BW.out.size))
end Go.Proofs.Ytndhabhlajldeaa
