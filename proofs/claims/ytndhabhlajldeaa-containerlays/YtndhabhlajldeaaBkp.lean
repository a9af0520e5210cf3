/- Package container: the reader's number and field. -/
import Derived.Test.YtndhabhlajldeaaBko
namespace Go.Proofs.Ytndhabhlajldeaa
open Go.RowKit
theorem or8 (n x : Nat) (hx : x < 256) (hn : 256 * n + x < 18446744073709551616) : bits .or .u64 ((n * 256 : Nat) : Int) (x : Int) = ((256 * n + x : Nat) : Int) := by
  have e : (BitVec.ofInt 64 ((n * 256 : Nat) : Int) ||| BitVec.ofInt 64 (x : Int)).toNat = 256 * n + x := by
    have e64 : (2 : Nat) ^ 64 = 18446744073709551616 := by decide
    have e8 : (2 : Nat) ^ 8 = 256 := by decide
    have h := Nat.shiftLeft_add_eq_or_of_lt (i := 8) (b := x) (by rw [e8]; exact hx) n
    rw [Nat.shiftLeft_eq, e8] at h
    rw [BitVec.toNat_or, BitVec.ofInt_natCast, BitVec.ofInt_natCast, BitVec.toNat_ofNat, BitVec.toNat_ofNat, e64, Nat.mod_eq_of_lt (by omega), Nat.mod_eq_of_lt (by omega), ← h]
    omega
  show IntKind.u64.wrap (((BitVec.ofInt 64 ((n * 256 : Nat) : Int) ||| BitVec.ofInt 64 (x : Int)).toNat : Nat) : Int) = _
  rw [e, IntKind.wrap_u64]
  omega
theorem num_le_take (l : List Nat) (i : Nat) (hb : Byt l) : num (l.take i) < 256 ^ i := by
  have h := num_lt (l.take i) (fun x hx => hb x (List.mem_of_mem_take hx))
  exact Nat.lt_of_lt_of_le h (Nat.pow_le_pow_right (by omega) (by simp; omega))
set_option maxHeartbeats 4000000 in
set_option maxRecDepth 100000 in
theorem number_cut (w : World) (rb : Nat) (bs : Value) (b : List Nat) (k wd : Nat) (h : Rdr w rb bs b k) (hk : k ≤ b.length) (hw : wd ≤ 8) (hc : b.length < k + wd) :
    Calls Try.prog 97 #[.pointer (some ⟨rb, 0, none⟩), .int .i64 (wd : Int)] w fun e w' => e = thrown 50 (b.length : Int) ∧ Below w.heap.size w w' := by
  obtain ⟨ad, cap, rfl, hc0, _⟩ := h.by'.len
  have HR : Hid (Rdr w rb (.slice ad b.length cap) b k) := h
  have n0 : Hid (b.length ≤ 16777216) := h.len
  generalize hn : b.length = n at *
  obtain ⟨m, hm⟩ : ∃ m : Nat, m = n - k := ⟨_, rfl⟩
  have r1 : (n : Int) - (k : Int) = (m : Int) := by omega
  have w1 : IntKind.i64.wrap (m : Int) = (m : Int) := by rw [IntKind.wrap_i64]; have := n0.out; omega
  have c1 : (m : Int) < (wd : Int) := by omega
  have dc : decide ((m : Int) < (wd : Int)) = true := by simp [c1]
  have nI : (n : Int) ≤ 16777216 := by have := n0.out; omega
  clear h hk hc hm hn hc0 hw
  go_enter Try.func97, Try.ntmps97
  go_upto_region 1 with fail
  refine wp_region_held_drew (S := fun V' => CBox V' rb 81 [.slice ad n cap, .int .i64 (k : Int)]) (by kernel_rfl) (HR.out.box.past below_drew) (fun hHeld => ?_)
  have B0 : Hid (Below w.heap.size w w.drew) := below_drew
  generalize w.drew = z0 at hHeld B0 ⊢
  refine wpAnyH_take (i := 0) (v := .pointer (some ⟨rb, 0, none⟩)) ov0 (by kernel_rfl) (by kernel_rfl) (by kernel_rfl) (fun _ _ _ h => h) (Or.inl ⟨by rfl, fun V' hS => ?_⟩) hHeld ?_
  · go_simp
  simp only [Act.put, List.setIfInBounds_toArray, List.set_cons_zero, List.set_cons_succ]
  refine wpAnyH_take (i := 1) (v := .pointer (some ⟨rb, 0, none⟩)) ov1 (by kernel_rfl) (by kernel_rfl) (by kernel_rfl) (fun _ _ _ h => h) (Or.inl ⟨by rfl, fun V' hS => ?_⟩) hHeld ?_
  · go_simp
  simp only [Act.put, List.setIfInBounds_toArray, List.set_cons_zero, List.set_cons_succ]
  refine wpAnyH_take (i := 2) (v := .pointer (some ⟨rb, 0, none⟩)) ov2 (by kernel_rfl) (by kernel_rfl) (by kernel_rfl) (fun _ _ _ h => h) (Or.inl ⟨by rfl, fun V' hS => ?_⟩) hHeld ?_
  · go_simp
  simp only [Act.put, List.setIfInBounds_toArray, List.set_cons_zero, List.set_cons_succ]
  refine wpAnyH_take (i := 3) (v := .slice ad n cap) ov3 (by kernel_rfl) (by kernel_rfl) (by kernel_rfl) (fun _ _ _ h => h) (Or.inl ⟨by rfl, fun V' hS => ?_⟩) hHeld ?_
  · have c0 : V'.cell? ⟨rb, 0, none⟩ = some (.slice ad n cap) := hS.cell 0
    go_simp
  simp only [Act.put, List.setIfInBounds_toArray, List.set_cons_zero, List.set_cons_succ]
  refine wpAnyH_take (i := 4) (v := .int .i64 (n : Int)) ov4 (by kernel_rfl) (by kernel_rfl) (by kernel_rfl) (fun _ _ _ h => h) (Or.inl ⟨by rfl, fun V' hS => ?_⟩) hHeld ?_
  · go_simp
  simp only [Act.put, List.setIfInBounds_toArray, List.set_cons_zero, List.set_cons_succ]
  refine wpAnyH_take (i := 5) (v := .pointer (some ⟨rb, 0, none⟩)) ov5 (by kernel_rfl) (by kernel_rfl) (by kernel_rfl) (fun _ _ _ h => h) (Or.inl ⟨by rfl, fun V' hS => ?_⟩) hHeld ?_
  · go_simp
  simp only [Act.put, List.setIfInBounds_toArray, List.set_cons_zero, List.set_cons_succ]
  refine wpAnyH_take (i := 6) (v := .pointer (some ⟨rb, 0, none⟩)) ov6 (by kernel_rfl) (by kernel_rfl) (by kernel_rfl) (fun _ _ _ h => h) (Or.inl ⟨by rfl, fun V' hS => ?_⟩) hHeld ?_
  · go_simp
  simp only [Act.put, List.setIfInBounds_toArray, List.set_cons_zero, List.set_cons_succ]
  refine wpAnyH_take (i := 7) (v := .pointer (some ⟨rb, 1, none⟩)) ov7 (by kernel_rfl) (by kernel_rfl) (by kernel_rfl) (fun _ _ _ h => h) (Or.inl ⟨by rfl, fun V' hS => ?_⟩) hHeld ?_
  · go_simp
  simp only [Act.put, List.setIfInBounds_toArray, List.set_cons_zero, List.set_cons_succ]
  refine wpAnyH_take (i := 8) (v := .int .i64 (k : Int)) ov8 (by kernel_rfl) (by kernel_rfl) (by kernel_rfl) (fun _ _ _ h => h) (Or.inl ⟨by rfl, fun V' hS => ?_⟩) hHeld ?_
  · have c0 : V'.cell? ⟨rb, 1, none⟩ = some (.int .i64 (k : Int)) := hS.cell 1
    go_simp
  simp only [Act.put, List.setIfInBounds_toArray, List.set_cons_zero, List.set_cons_succ]
  refine wpAnyH_take (i := 9) (v := .int .i64 (m : Int)) ov9 (by kernel_rfl) (by kernel_rfl) (by kernel_rfl) (fun _ _ _ h => h) (Or.inl ⟨by rfl, fun V' hS => ?_⟩) hHeld ?_
  · go_simp
  simp only [Act.put, List.setIfInBounds_toArray, List.set_cons_zero, List.set_cons_succ]
  refine wpAnyH_take (i := 10) (v := .int .i64 (wd : Int)) ov10 (by kernel_rfl) (by kernel_rfl) (by kernel_rfl) (fun _ _ _ h => h) (Or.inl ⟨by rfl, fun V' hS => ?_⟩) hHeld ?_
  · go_simp
  simp only [Act.put, List.setIfInBounds_toArray, List.set_cons_zero, List.set_cons_succ]
  refine wpAnyH_take (i := 11) (v := .bool true) ov11 (by kernel_rfl) (by kernel_rfl) (by kernel_rfl) (fun _ _ _ h => h) (Or.inl ⟨by rfl, fun V' hS => ?_⟩) hHeld ?_
  · go_simp
  simp only [Act.put, List.setIfInBounds_toArray, List.set_cons_zero, List.set_cons_succ]
  refine wpAnyH_done (by kernel_rfl) ?_ _
  have c0 : z0.cell? ⟨rb, 0, none⟩ = some (.slice ad n cap) := hHeld.cell 0
  clear hHeld
  go_wp2_with (go_at_call 98; refine (giveUp_is _ 50 (n : Int)).mono ?_; rintro e w' ⟨rfl, hw⟩; (have hw2 := hw.symm); clear hw; subst hw2; unfold thrown rejV)
  exact ⟨rfl, rfl, B0.out⟩
set_option maxHeartbeats 4000000 in
set_option maxRecDepth 100000 in
theorem number_ok (w : World) (rb : Nat) (bs : Value) (b : List Nat) (k wd : Nat) (h : Rdr w rb bs b k) (hw : wd ≤ 8) (hc : k + wd ≤ b.length) :
    Calls Try.prog 97 #[.pointer (some ⟨rb, 0, none⟩), .int .i64 (wd : Int)] w fun e w' => e = .returned (.int .u64 (rd b k wd : Int)) ∧ Rdr w' rb bs b (k + wd) ∧ RB rb w w' := by
  obtain ⟨ad, cap, rfl, hc0, _⟩ := h.by'.len
  have HR : Hid (Rdr w rb (.slice ad b.length cap) b k) := h
  have n0 : Hid (b.length ≤ 16777216) := h.len
  have SLc : Hid (∀ W, BL (fun g => g < rb) W (.slice ad b.length cap) b → BL (fun g => g < rb) W (.slice (if cap = k then ad else ad.map (·.add k)) (k + wd - k) (cap - k)) ((b.drop k).take (k + wd - k))) := fun W q => q.mid k (k + wd) (by omega) hc
  have hsl := slice_ij ad b.length cap k (k + wd) (by omega) (by omega)
  have HB : Hid (Byt ((b.drop k).take wd)) := fun x hx => h.byt x (List.mem_of_mem_drop (List.mem_of_mem_take hx))
  have HL : Hid (((b.drop k).take wd).length = wd) := by unfold Hid; simp; omega
  rw [show k + wd - k = wd by omega] at SLc hsl
  generalize (if cap = k then ad else ad.map (·.add k)) = ad2 at SLc hsl
  generalize cap - k = cap2 at SLc hsl
  have HRD : Hid (num ((b.drop k).take wd) = rd b k wd) := rfl
  have RL : Hid (rd b k wd < 18446744073709551616) := rd_lt h.byt k wd hw
  generalize rd b k wd = RR at *
  generalize hseg : (b.drop k).take wd = seg at *
  clear hseg
  generalize hn : b.length = n at *
  obtain ⟨m, hm⟩ : ∃ m : Nat, m = n - k := ⟨_, rfl⟩
  obtain ⟨t, ht⟩ : ∃ t : Nat, t = k + wd := ⟨_, rfl⟩
  rw [← ht] at hsl
  rw [← ht]
  have r1 : (n : Int) - (k : Int) = (m : Int) := by omega
  have r2 : (k : Int) + (wd : Int) = (t : Int) := by omega
  have w1 : IntKind.i64.wrap (m : Int) = (m : Int) := by rw [IntKind.wrap_i64]; have := n0.out; omega
  have w2 : IntKind.i64.wrap (t : Int) = (t : Int) := by rw [IntKind.wrap_i64]; have := n0.out; omega
  have dc : ¬ (m : Int) < (wd : Int) := by omega
  have nI : (n : Int) ≤ 16777216 := by have := n0.out; omega
  have wI : (wd : Int) ≤ 8 := by omega
  have W8 : Hid (wd ≤ 8) := hw
  clear h hc hm hn hc0 hw ht
  go_enter Try.func97, Try.ntmps97
  go_upto_region 1 with fail
  refine wp_region_held_drew (S := fun V' => CBox V' rb 81 [.slice ad n cap, .int .i64 (k : Int)]) (by kernel_rfl) (HR.out.box.past below_drew) (fun hHeld => ?_)
  have B0 : Hid (Below w.heap.size w w.drew ∧ Rdr w.drew rb (.slice ad n cap) b k) := ⟨below_drew, HR.out.past below_drew⟩
  generalize w.drew = z0 at hHeld B0 ⊢
  refine wpAnyH_take (i := 0) (v := .pointer (some ⟨rb, 0, none⟩)) ov0 (by kernel_rfl) (by kernel_rfl) (by kernel_rfl) (fun _ _ _ h => h) (Or.inl ⟨by rfl, fun V' hS => ?_⟩) hHeld ?_
  · go_simp
  simp only [Act.put, List.setIfInBounds_toArray, List.set_cons_zero, List.set_cons_succ]
  refine wpAnyH_take (i := 1) (v := .pointer (some ⟨rb, 0, none⟩)) ov1 (by kernel_rfl) (by kernel_rfl) (by kernel_rfl) (fun _ _ _ h => h) (Or.inl ⟨by rfl, fun V' hS => ?_⟩) hHeld ?_
  · go_simp
  simp only [Act.put, List.setIfInBounds_toArray, List.set_cons_zero, List.set_cons_succ]
  refine wpAnyH_take (i := 2) (v := .pointer (some ⟨rb, 0, none⟩)) ov2 (by kernel_rfl) (by kernel_rfl) (by kernel_rfl) (fun _ _ _ h => h) (Or.inl ⟨by rfl, fun V' hS => ?_⟩) hHeld ?_
  · go_simp
  simp only [Act.put, List.setIfInBounds_toArray, List.set_cons_zero, List.set_cons_succ]
  refine wpAnyH_take (i := 3) (v := .slice ad n cap) ov3 (by kernel_rfl) (by kernel_rfl) (by kernel_rfl) (fun _ _ _ h => h) (Or.inl ⟨by rfl, fun V' hS => ?_⟩) hHeld ?_
  · have c0 : V'.cell? ⟨rb, 0, none⟩ = some (.slice ad n cap) := hS.cell 0
    go_simp
  simp only [Act.put, List.setIfInBounds_toArray, List.set_cons_zero, List.set_cons_succ]
  refine wpAnyH_take (i := 4) (v := .int .i64 (n : Int)) ov4 (by kernel_rfl) (by kernel_rfl) (by kernel_rfl) (fun _ _ _ h => h) (Or.inl ⟨by rfl, fun V' hS => ?_⟩) hHeld ?_
  · go_simp
  simp only [Act.put, List.setIfInBounds_toArray, List.set_cons_zero, List.set_cons_succ]
  refine wpAnyH_take (i := 5) (v := .pointer (some ⟨rb, 0, none⟩)) ov5 (by kernel_rfl) (by kernel_rfl) (by kernel_rfl) (fun _ _ _ h => h) (Or.inl ⟨by rfl, fun V' hS => ?_⟩) hHeld ?_
  · go_simp
  simp only [Act.put, List.setIfInBounds_toArray, List.set_cons_zero, List.set_cons_succ]
  refine wpAnyH_take (i := 6) (v := .pointer (some ⟨rb, 0, none⟩)) ov6 (by kernel_rfl) (by kernel_rfl) (by kernel_rfl) (fun _ _ _ h => h) (Or.inl ⟨by rfl, fun V' hS => ?_⟩) hHeld ?_
  · go_simp
  simp only [Act.put, List.setIfInBounds_toArray, List.set_cons_zero, List.set_cons_succ]
  refine wpAnyH_take (i := 7) (v := .pointer (some ⟨rb, 1, none⟩)) ov7 (by kernel_rfl) (by kernel_rfl) (by kernel_rfl) (fun _ _ _ h => h) (Or.inl ⟨by rfl, fun V' hS => ?_⟩) hHeld ?_
  · go_simp
  simp only [Act.put, List.setIfInBounds_toArray, List.set_cons_zero, List.set_cons_succ]
  refine wpAnyH_take (i := 8) (v := .int .i64 (k : Int)) ov8 (by kernel_rfl) (by kernel_rfl) (by kernel_rfl) (fun _ _ _ h => h) (Or.inl ⟨by rfl, fun V' hS => ?_⟩) hHeld ?_
  · have c0 : V'.cell? ⟨rb, 1, none⟩ = some (.int .i64 (k : Int)) := hS.cell 1
    go_simp
  simp only [Act.put, List.setIfInBounds_toArray, List.set_cons_zero, List.set_cons_succ]
  refine wpAnyH_take (i := 9) (v := .int .i64 (m : Int)) ov9 (by kernel_rfl) (by kernel_rfl) (by kernel_rfl) (fun _ _ _ h => h) (Or.inl ⟨by rfl, fun V' hS => ?_⟩) hHeld ?_
  · go_simp
  simp only [Act.put, List.setIfInBounds_toArray, List.set_cons_zero, List.set_cons_succ]
  refine wpAnyH_take (i := 10) (v := .int .i64 (wd : Int)) ov10 (by kernel_rfl) (by kernel_rfl) (by kernel_rfl) (fun _ _ _ h => h) (Or.inl ⟨by rfl, fun V' hS => ?_⟩) hHeld ?_
  · go_simp
  simp only [Act.put, List.setIfInBounds_toArray, List.set_cons_zero, List.set_cons_succ]
  refine wpAnyH_take (i := 11) (v := .bool false) ov11 (by kernel_rfl) (by kernel_rfl) (by kernel_rfl) (fun _ _ _ h => h) (Or.inl ⟨by rfl, fun V' hS => ?_⟩) hHeld ?_
  · go_simp
  simp only [Act.put, List.setIfInBounds_toArray, List.set_cons_zero, List.set_cons_succ]
  refine wpAnyH_done (by kernel_rfl) ?_ _
  clear hHeld HR
  go_upto_region 4 with fail
  refine wp_region_held_drew (S := fun V' => CBox V' rb 81 [.slice ad n cap, .int .i64 (k : Int)]) (by kernel_rfl) (B0.out.2.box.past below_drew) (fun hHeld => ?_)
  have B1 : Hid (Below w.heap.size w z0.drew ∧ Rdr z0.drew rb (.slice ad n cap) b k) := ⟨B0.out.1.trans (below_drew.mono B0.out.1.size), B0.out.2.past below_drew⟩
  clear B0
  generalize z0.drew = z1 at hHeld B1 ⊢
  refine wpAnyH_take (i := 0) (v := .pointer (some ⟨rb, 0, none⟩)) ov0 (by kernel_rfl) (by kernel_rfl) (by kernel_rfl) (fun _ _ _ h => h) (Or.inl ⟨by rfl, fun V' hS => ?_⟩) hHeld ?_
  · go_simp
  simp only [Act.put, List.setIfInBounds_toArray, List.set_cons_zero, List.set_cons_succ]
  refine wpAnyH_take (i := 1) (v := .pointer (some ⟨rb, 0, none⟩)) ov1 (by kernel_rfl) (by kernel_rfl) (by kernel_rfl) (fun _ _ _ h => h) (Or.inl ⟨by rfl, fun V' hS => ?_⟩) hHeld ?_
  · go_simp
  simp only [Act.put, List.setIfInBounds_toArray, List.set_cons_zero, List.set_cons_succ]
  refine wpAnyH_take (i := 2) (v := .pointer (some ⟨rb, 0, none⟩)) ov2 (by kernel_rfl) (by kernel_rfl) (by kernel_rfl) (fun _ _ _ h => h) (Or.inl ⟨by rfl, fun V' hS => ?_⟩) hHeld ?_
  · go_simp
  simp only [Act.put, List.setIfInBounds_toArray, List.set_cons_zero, List.set_cons_succ]
  refine wpAnyH_take (i := 3) (v := .slice ad n cap) ov3 (by kernel_rfl) (by kernel_rfl) (by kernel_rfl) (fun _ _ _ h => h) (Or.inl ⟨by rfl, fun V' hS => ?_⟩) hHeld ?_
  · have c0 : V'.cell? ⟨rb, 0, none⟩ = some (.slice ad n cap) := hS.cell 0
    go_simp
  simp only [Act.put, List.setIfInBounds_toArray, List.set_cons_zero, List.set_cons_succ]
  refine wpAnyH_take (i := 4) (v := .pointer (some ⟨rb, 0, none⟩)) ov4 (by kernel_rfl) (by kernel_rfl) (by kernel_rfl) (fun _ _ _ h => h) (Or.inl ⟨by rfl, fun V' hS => ?_⟩) hHeld ?_
  · go_simp
  simp only [Act.put, List.setIfInBounds_toArray, List.set_cons_zero, List.set_cons_succ]
  refine wpAnyH_take (i := 5) (v := .pointer (some ⟨rb, 0, none⟩)) ov5 (by kernel_rfl) (by kernel_rfl) (by kernel_rfl) (fun _ _ _ h => h) (Or.inl ⟨by rfl, fun V' hS => ?_⟩) hHeld ?_
  · go_simp
  simp only [Act.put, List.setIfInBounds_toArray, List.set_cons_zero, List.set_cons_succ]
  refine wpAnyH_take (i := 6) (v := .pointer (some ⟨rb, 1, none⟩)) ov6 (by kernel_rfl) (by kernel_rfl) (by kernel_rfl) (fun _ _ _ h => h) (Or.inl ⟨by rfl, fun V' hS => ?_⟩) hHeld ?_
  · go_simp
  simp only [Act.put, List.setIfInBounds_toArray, List.set_cons_zero, List.set_cons_succ]
  refine wpAnyH_take (i := 7) (v := .int .i64 (k : Int)) ov7 (by kernel_rfl) (by kernel_rfl) (by kernel_rfl) (fun _ _ _ h => h) (Or.inl ⟨by rfl, fun V' hS => ?_⟩) hHeld ?_
  · have c0 : V'.cell? ⟨rb, 1, none⟩ = some (.int .i64 (k : Int)) := hS.cell 1
    go_simp
  simp only [Act.put, List.setIfInBounds_toArray, List.set_cons_zero, List.set_cons_succ]
  refine wpAnyH_take (i := 8) (v := .pointer (some ⟨rb, 0, none⟩)) ov8 (by kernel_rfl) (by kernel_rfl) (by kernel_rfl) (fun _ _ _ h => h) (Or.inl ⟨by rfl, fun V' hS => ?_⟩) hHeld ?_
  · go_simp
  simp only [Act.put, List.setIfInBounds_toArray, List.set_cons_zero, List.set_cons_succ]
  refine wpAnyH_take (i := 9) (v := .pointer (some ⟨rb, 0, none⟩)) ov9 (by kernel_rfl) (by kernel_rfl) (by kernel_rfl) (fun _ _ _ h => h) (Or.inl ⟨by rfl, fun V' hS => ?_⟩) hHeld ?_
  · go_simp
  simp only [Act.put, List.setIfInBounds_toArray, List.set_cons_zero, List.set_cons_succ]
  refine wpAnyH_take (i := 10) (v := .pointer (some ⟨rb, 1, none⟩)) ov10 (by kernel_rfl) (by kernel_rfl) (by kernel_rfl) (fun _ _ _ h => h) (Or.inl ⟨by rfl, fun V' hS => ?_⟩) hHeld ?_
  · go_simp
  simp only [Act.put, List.setIfInBounds_toArray, List.set_cons_zero, List.set_cons_succ]
  refine wpAnyH_take (i := 11) (v := .int .i64 (k : Int)) ov11 (by kernel_rfl) (by kernel_rfl) (by kernel_rfl) (fun _ _ _ h => h) (Or.inl ⟨by rfl, fun V' hS => ?_⟩) hHeld ?_
  · have c0 : V'.cell? ⟨rb, 1, none⟩ = some (.int .i64 (k : Int)) := hS.cell 1
    go_simp
  simp only [Act.put, List.setIfInBounds_toArray, List.set_cons_zero, List.set_cons_succ]
  refine wpAnyH_take (i := 12) (v := .int .i64 (wd : Int)) ov12 (by kernel_rfl) (by kernel_rfl) (by kernel_rfl) (fun _ _ _ h => h) (Or.inl ⟨by rfl, fun V' hS => ?_⟩) hHeld ?_
  · go_simp
  simp only [Act.put, List.setIfInBounds_toArray, List.set_cons_zero, List.set_cons_succ]
  refine wpAnyH_take (i := 13) (v := .int .i64 (t : Int)) ov13 (by kernel_rfl) (by kernel_rfl) (by kernel_rfl) (fun _ _ _ h => h) (Or.inl ⟨by rfl, fun V' hS => ?_⟩) hHeld ?_
  · go_simp
  simp only [Act.put, List.setIfInBounds_toArray, List.set_cons_zero, List.set_cons_succ]
  refine wpAnyH_take (i := 14) (v := .slice ad2 wd cap2) ov14 (by kernel_rfl) (by kernel_rfl) (by kernel_rfl) (fun _ _ _ h => h) (Or.inl ⟨by rfl, fun V' hS => ?_⟩) hHeld ?_
  · go_simp
  simp only [Act.put, List.setIfInBounds_toArray, List.set_cons_zero, List.set_cons_succ]
  refine wpAnyH_take (i := 15) (v := .int .i64 (wd : Int)) ov15 (by kernel_rfl) (by kernel_rfl) (by kernel_rfl) (fun _ _ _ h => h) (Or.inl ⟨by rfl, fun V' hS => ?_⟩) hHeld ?_
  · go_simp
  simp only [Act.put, List.setIfInBounds_toArray, List.set_cons_zero, List.set_cons_succ]
  refine wpAnyH_take (i := 16) (v := .int .i64 0) ov16 (by kernel_rfl) (by kernel_rfl) (by kernel_rfl) (fun _ _ _ h => h) (Or.inl ⟨by rfl, fun V' hS => ?_⟩) hHeld ?_
  · go_simp
  simp only [Act.put, List.setIfInBounds_toArray, List.set_cons_zero, List.set_cons_succ]
  refine wpAnyH_done (by kernel_rfl) ?_ _
  clear hHeld hsl dc w1 r1
  have SG : Hid (BL (fun g => g < rb) z1 (.slice ad2 wd cap2) seg) := SLc.out z1 B1.out.2.by'
  clear SLc
  go_wp2
  go_loopw [5, 42] (fun s5 s42 wr => ∃ i : Nat, s42 = .int .i64 (i : Int) ∧ i ≤ wd ∧ s5 = .int .u64 (num (seg.take i) : Int) ∧ wr = z1) (fun _ s42 _ => wd - (intOf s42).toNat)
  case atStart => exact ⟨0, rfl, by omega, by simp [num], rfl⟩
  case round =>
    obtain ⟨i, rfl, hi, rfl, rfl⟩ := hrel
    by_cases e : i = wd
    · subst e
      have EV : Hid (num (seg.take i) = RR) := by unfold Hid; rw [List.take_of_length_le (by have := HL.out; omega)]; exact HRD.out
      rw [EV.out]
      have c1 : wr.cell? ⟨rb, 1, none⟩ = some (.int .i64 (k : Int)) := B1.out.2.box.cell 1
      have f1 := B1.out.2.box.frozen 1
      have HG : Hid (Rdr (wr.setCell ⟨rb, 1, none⟩ (.int .i64 (t : Int))) rb (.slice ad n cap) b t ∧ RB rb w (wr.setCell ⟨rb, 1, none⟩ (.int .i64 (t : Int)))) := ⟨(B1.out.2.go t).1, (below_but (S := fun g => g = rb) B1.out.1).trans (B1.out.2.go t).2⟩
      clear B1 SG
      go_wp2
      go_ret
      exact ⟨rfl, HG.out⟩
    · have iI : (i : Int) < (wd : Int) := by omega
      obtain ⟨x, hx⟩ : ∃ x, seg[i]? = some x := ⟨seg[i]'(by have := HL.out; omega), List.getElem?_eq_getElem _⟩
      obtain ⟨g, a, rfl, hcell⟩ := SG.out.get hx
      have x8 : x < 256 := HB.out x (List.mem_of_getElem? hx)
      obtain ⟨y, hy⟩ : ∃ y : Nat, y = num (seg.take i) := ⟨_, rfl⟩
      have hy2 : num (seg.take (i + 1)) = 256 * y + x := by rw [take_snoc hx, num_snoc, hy]
      have hlt : 256 * y + x < 18446744073709551616 := by
        have h1 := num_le_take seg (i + 1) HB.out
        have h2 : (256 : Nat) ^ (i + 1) ≤ 256 ^ 8 := Nat.pow_le_pow_right (by omega) (by have := W8.out; omega)
        have h3 : (256 : Nat) ^ 8 = 18446744073709551616 := by decide
        omega
      rw [← hy]
      obtain ⟨y2, ey2⟩ : ∃ y2 : Nat, y2 = 256 * y + x := ⟨_, rfl⟩
      have r3 : (y : Int) * 256 = ((y * 256 : Nat) : Int) := by rw [Int.natCast_mul]; rfl
      have r4 : IntKind.u64.wrap ((y * 256 : Nat) : Int) = ((y * 256 : Nat) : Int) := by rw [IntKind.wrap_u64]; omega
      have r5 : bits .or .u64 ((y * 256 : Nat) : Int) (x : Int) = (y2 : Int) := by rw [or8 y x x8 hlt, ey2]
      have r6 : IntKind.u64.wrap (x : Int) = (x : Int) := by rw [IntKind.wrap_u64]; omega
      have HY : Hid (num (seg.take (i + 1)) = y2) := by unfold Hid; rw [hy2, ey2]
      generalize y * 256 = y256 at *
      clear hy hy2 hlt ey2 hx x8 e
      go_wp2
      go_roundw
      case rel => exact ⟨i + 1, by first | rfl | go_num, by omega, by rw [HY.out], by first | rfl | trivial⟩
      case measure => simp [intOf]; omega
end Go.Proofs.Ytndhabhlajldeaa
