/- A memory of package mach: Write, Store8, Read. -/
import Derived.Test.YtlemnjhdnciddaaGna
namespace Go.Proofs.Ytlemnjhdnciddaa
open Go.RowKit
/-- t laid over u from off on -/
def ins (u : Nat → Nat) (off : Nat) (t : Nat → Nat) (m i : Nat) : Nat := if off ≤ i ∧ i < off + m then t (i - off) else u i
theorem bD_cons (t : Nat → Nat) (m : Nat) : bD t (m + 1) = .int .u8 (t 0 : Int) :: bD (fun i => t (i + 1)) m := by
  simp [bD, List.range_succ_eq_map]
theorem Mem.ext {W : World} {b B : Nat} {ad : Option Addr} {n cap : Nat} {u t : Nat → Nat} (h : Mem W b B ad n cap u) (e : ∀ i, i < n → u i = t i) : Mem W b B ad n cap t := ⟨h.c, h.f, by rw [← bD_ext e]; exact h.own, h.bb, h.sz, h.le⟩
theorem Mem.set1 {W : World} {b B g : Nat} {n cap : Nat} {u : Nat → Nat} (h : Mem W b B (some ⟨g, 0, none⟩) n cap u) (j x : Nat) (hj : j < n) : Mem (W.setCell ⟨g, j, none⟩ (.int .u8 (x : Int))) b B (some ⟨g, 0, none⟩) n cap (fun i => if i = j then x else u i) := by
  have hg := (h.own.lt g rfl).1
  have hb := h.bb
  refine ⟨?_, by rw [World.frozen?_setCell]; exact h.f, ?_, h.bb, by simpa [World.setCell] using h.sz, h.le⟩
  · rw [World.cell?_setCell_other _ _ _ _ (by intro e; injection e with e1 _ _; omega)]; exact h.c
  · have h9 := (h.own.stored j (.int .u8 (x : Int))).1
    rw [bD_set _ _ _ _ hj] at h9
    exact h9
theorem Mem.sets {b B g n cap : Nat} : ∀ (m : Nat) (W : World) (u t : Nat → Nat) (off : Nat), Mem W b B (some ⟨g, 0, none⟩) n cap u → off + m ≤ n → Mem (W.setCells g off (bD t m)) b B (some ⟨g, 0, none⟩) n cap (ins u off t m)
  | 0, W, u, t, off, h, _ => h.ext fun i _ => by unfold ins; rw [if_neg (by omega)]
  | m + 1, W, u, t, off, h, hm => by
    rw [bD_cons]
    have h1 := h.set1 off (t 0) (by omega)
    have h2 := Mem.sets m _ _ (fun i => t (i + 1)) (off + 1) h1 (by omega)
    refine Mem.ext (show Mem (W.setCells g off (.int .u8 (t 0 : Int) :: bD (fun i => t (i + 1)) m)) b B (some ⟨g, 0, none⟩) n cap _ from h2) fun i _ => ?_
    unfold ins
    by_cases e : i = off
    · subst e
      rw [if_neg (by omega), if_pos (by omega), Nat.sub_self]
      exact if_pos rfl
    · by_cases e2 : off + 1 ≤ i ∧ i < off + 1 + m
      · rw [if_pos e2, if_pos (by omega)]
        show t (i - (off + 1) + 1) = _
        rw [show i - (off + 1) + 1 = i - off by omega]
      · rw [if_neg e2, if_neg (by omega)]
        exact if_neg e
theorem Off.of_only {b g : Nat} {w w' : World} (h : Only g w w') : Off b (some ⟨g, 0, none⟩) w w' := ⟨h.os, h.tape, h.output, h.size, fun k hk _ h2 => h.block k hk (h2 _ rfl)⟩
theorem slice_fromI (ad : Option Addr) (n cap q : Nat) (hq : q ≤ n) (W : World) : Sem.run Try.prog (Instr.slice 31 (.slice ad n cap) (some (.int .i64 (q : Int))) none none) W = .ok (.slice (if cap = q then ad else ad.map (·.add q)) (n - q) (cap - q)) W := by
  simp [Instr.slice, Instr.sliceBounds, run_underlying Try.underlying31, run_sliceBound W .i64 (q : Int) n _ (by omega) (by omega)]
theorem info8s : (Try.prog.info? 5).map (·.size) = some 1 := by obtain ⟨i0, hi, _, hz1, _⟩ := info_partsB Try.info8; rw [hi]; simp [hz1]
theorem bD_one (t : Nat → Nat) (m : Nat) : ∀ v ∈ bD t m, v.oneCell' = true := fun y hy => by obtain ⟨i, _, rfl⟩ := List.mem_map.1 hy; rfl
set_option maxHeartbeats 2000000 in
set_option maxRecDepth 100000 in
theorem write_is (w : World) (b B : Nat) (ad : Option Addr) (n cap : Nat) (u : Nat → Nat) (h : Mem w b B ad n cap u) (i : Int) (hi : i ≤ 9223372036854775807) (vb : Value) (m : Nat) (t : Nat → Nat) (hb : By w vb m t) : Calls Try.prog 24 #[.pointer (some ⟨b, 0, none⟩), .int .i64 i, vb] w fun e w' => e = .returned (.int .i64 (lk n i m)) ∧ Mem w' b B ad n cap (if lk n i m = 0 then ins u i.toNat t m else u) ∧ Off b ad w w' := by
  obtain ⟨ab, cb, rfl, hb0, hb1, hbb⟩ := hb
  have LK : Hid (Calls Try.prog 48 #[.pointer (some ⟨b, 0, none⟩), .int .i64 i, .int .i64 (m : Int)] w fun e w' => e = .returned (.int .i64 (lk n i m)) ∧ w' = w) := look_is w b B ad n cap u h i m hi (by omega)
  have HM : Hid (Mem w b B ad n cap u) := h
  have mI : (m : Int) ≤ 1152921504606846976 := by omega
  by_cases hk : lk n i m = 0
  · rw [if_pos hk]
    have hz := lk_zero hk
    by_cases hm0 : m = 0
    · subst hm0
      have HE : Hid (Mem w b B ad n cap (ins u i.toNat t 0)) := h.ext fun j _ => by unfold ins; rw [if_neg (by omega)]
      rw [hk] at LK ⊢
      clear hz hk h hbb hb0 hb1
      go_enter Try.func24, Try.ntmps24
      go_wp2_with (go_at_call 48; refine (LK.out).mono ?_; rintro e w' ⟨rfl, hw⟩; (have hw2 := hw.symm); clear hw; subst hw2)
      go_ret
      exact ⟨rfl, HE.out, Off.refl _ _ _⟩
    · obtain ⟨g, rfl, hg, hnc, hgl, hcl⟩ := h.form (by omega)
      obtain ⟨gs, sa, rfl, hs⟩ := hbb (by omega)
      obtain ⟨q, rfl⟩ : ∃ q : Nat, i = (q : Int) := ⟨i.toNat, by omega⟩
      have hsl := slice_fromI (some ⟨g, 0, none⟩) n cap q (by omega)
      rw [if_neg (show ¬ cap = q by omega), show (some (⟨g, 0, none⟩ : Addr)).map (·.add q) = some ⟨g, q, none⟩ by (show some ((⟨g, 0, none⟩ : Addr).add q) = _; rw [Addr.add_mid, Nat.zero_add])] at hsl
      have hcp : ∀ ty : TypeId, (Builtin.copy_ #[31, 31] ty #[.slice (some ⟨g, q, none⟩) (n - q) (cap - q), .slice (some ⟨gs, sa, none⟩) m cb]).run Try.prog w = .ok (goInt (bD t m).length) (w.setCells g q (bD t m)) := fun ty => run_copy_cells (P := Try.prog) w 31 31 ty 5 g q (n - q) (cap - q) ⟨gs, sa, none⟩ m cb (bD t m) Try.underlying31 info8s (by rw [bD_len]; exact (Nat.min_eq_left (by omega)).symm) (fun j v hv => by
        have hj : j < m := by have h9 := (List.getElem?_eq_some_iff.1 hv).1; rwa [bD_len] at h9
        rw [bD_at _ _ _ hj] at hv
        obtain rfl := Option.some.inj hv
        rw [Addr.add_mid]; exact hs j hj) (fun j hj => by rw [bD_len] at hj; rw [(hcl (q + j) (by omega)).1]; rfl) (fun j hj => by rw [bD_len] at hj; exact (hcl (q + j) (by omega)).2) (bD_one t m)
      have HF : Hid (Mem (w.setCells g q (bD t m)) b B (some ⟨g, 0, none⟩) n cap (ins u q t m) ∧ Off b (some ⟨g, 0, none⟩) w (w.setCells g q (bD t m))) := ⟨Mem.sets m w u t q h (by omega), Off.of_only ((Only.refl _ _).sets _ _)⟩
      have c := h.c
      have m1 : ((m : Int) == 0) = false := by simp; omega
      rw [bD_len] at hcp
      rw [Int.toNat_natCast, hk]
      rw [hk] at LK
      generalize w.setCells g q (bD t m) = w2 at hcp HF
      clear hk hz h hbb hb0 hb1 hs hcl hg hgl hm0 hnc
      go_enter Try.func24, Try.ntmps24
      go_wp2_with (go_at_call 48; refine (LK.out).mono ?_; rintro e w' ⟨rfl, hw⟩; (have hw2 := hw.symm); clear hw; subst hw2)
      go_ret
      exact ⟨rfl, HF.out⟩
  · rw [if_neg hk]
    generalize lk n i m = L at *
    have hk2 : (L == 0) = false := by simpa using hk
    clear h hbb hb0 hb1
    go_enter Try.func24, Try.ntmps24
    go_wp2_with (go_at_call 48; refine (LK.out).mono ?_; rintro e w' ⟨rfl, hw⟩; (have hw2 := hw.symm); clear hw; subst hw2)
    go_ret
    exact ⟨rfl, HM.out, Off.refl _ _ _⟩
set_option maxHeartbeats 2000000 in
theorem store8_is (w : World) (b B : Nat) (ad : Option Addr) (n cap : Nat) (u : Nat → Nat) (h : Mem w b B ad n cap u) (i : Int) (hi : i ≤ 9223372036854775807) (x : Nat) : Calls Try.prog 23 #[.pointer (some ⟨b, 0, none⟩), .int .i64 i, .int .u8 (x : Int)] w fun e w' => e = .returned (.int .i64 (lk n i 1)) ∧ Mem w' b B ad n cap (if lk n i 1 = 0 then ins u i.toNat (fun _ => x) 1 else u) ∧ Off b ad w w' := by
  have LK : Hid (Calls Try.prog 48 #[.pointer (some ⟨b, 0, none⟩), .int .i64 i, .int .i64 1] w fun e w' => e = .returned (.int .i64 (lk n i 1)) ∧ w' = w) := look_is w b B ad n cap u h i 1 hi (by omega)
  have HM : Hid (Mem w b B ad n cap u) := h
  by_cases hk : lk n i 1 = 0
  · rw [if_pos hk]
    have hz := lk_zero hk
    obtain ⟨g, rfl, hg, hnc, hgl, hcl⟩ := h.form (by omega)
    obtain ⟨q, rfl⟩ : ∃ q : Nat, i = (q : Int) := ⟨i.toNat, by omega⟩
    have HF : Hid (Mem (w.setCell ⟨g, q, none⟩ (.int .u8 (x : Int))) b B (some ⟨g, 0, none⟩) n cap (ins u q (fun _ => x) 1) ∧ Off b (some ⟨g, 0, none⟩) w (w.setCell ⟨g, q, none⟩ (.int .u8 (x : Int)))) := ⟨(h.set1 q x (by omega)).ext fun j _ => by
      unfold ins
      by_cases e : j = q
      · rw [if_pos e, if_pos (by omega)]
      · rw [if_neg e, if_neg (by omega)], Off.of_only ((Only.refl _ _).set _ _)⟩
    have c := h.c
    have qn : (q : Int) < (n : Int) := by omega
    obtain ⟨d1, d2⟩ := hcl q (by omega)
    rw [Int.toNat_natCast, hk]
    rw [hk] at LK
    clear hk hz h hcl hg hgl hnc
    go_enter Try.func23, Try.ntmps23
    go_wp2_with (go_at_call 48; refine (LK.out).mono ?_; rintro e w' ⟨rfl, hw⟩; (have hw2 := hw.symm); clear hw; subst hw2)
    go_ret
    exact ⟨rfl, HF.out⟩
  · rw [if_neg hk]
    generalize lk n i 1 = L at *
    have hk2 : (L == 0) = false := by simpa using hk
    clear h
    go_enter Try.func23, Try.ntmps23
    go_wp2_with (go_at_call 48; refine (LK.out).mono ?_; rintro e w' ⟨rfl, hw⟩; (have hw2 := hw.symm); clear hw; subst hw2)
    go_ret
    exact ⟨rfl, HM.out, Off.refl _ _ _⟩
/-- what Read answers: nothing, or k bytes in a block of their own -/
def RdRes (w w' : World) (k : Nat) (f : Nat → Nat) (v : Value) : Prop := (k = 0 ∧ v = .slice none 0 0) ∨ (0 < k ∧ ∃ g, w.heap.size ≤ g ∧ v = .slice (some ⟨g, 0, none⟩) k k ∧ CB w' g (bD f k))
set_option maxHeartbeats 2000000 in
set_option maxRecDepth 100000 in
theorem read_is (w : World) (b B : Nat) (ad : Option Addr) (n cap : Nat) (u : Nat → Nat) (h : Mem w b B ad n cap u) (i m : Int) (hi : i ≤ 9223372036854775807) (hm : m ≤ 9223372036854775807) : Calls Try.prog 25 #[.pointer (some ⟨b, 0, none⟩), .int .i64 i, .int .i64 m] w fun e w' => ∃ vR, e = .returned (.tuple #[vR, .int .i64 (lk n i m)]) ∧ RdRes w w' (if lk n i m = 0 then m.toNat else 0) (fun j => u (i.toNat + j)) vR ∧ Below w.heap.size w w' := by
  have LK : Hid (Calls Try.prog 48 #[.pointer (some ⟨b, 0, none⟩), .int .i64 i, .int .i64 m] w fun e w' => e = .returned (.int .i64 (lk n i m)) ∧ w' = w) := look_is w b B ad n cap u h i m hi hm
  by_cases hk : lk n i m = 0
  · rw [if_pos hk]
    have hz := lk_zero hk
    by_cases hm0 : m = 0
    · subst hm0
      rw [hk] at LK ⊢
      clear hz hk h
      go_enter Try.func25, Try.ntmps25
      go_wp2_with (go_at_call 48; refine (LK.out).mono ?_; rintro e w' ⟨rfl, hw⟩; (have hw2 := hw.symm); clear hw; subst hw2)
      go_ret2
      exact ⟨_, rfl, Or.inl ⟨by simp, rfl⟩, Below.refl _ _⟩
    · obtain ⟨g, rfl, hg, hnc, hgl, hcl⟩ := h.form (by omega)
      obtain ⟨q, rfl⟩ : ∃ q : Nat, i = (q : Int) := ⟨i.toNat, by omega⟩
      obtain ⟨k, rfl⟩ : ∃ k : Nat, m = (k : Int) := ⟨m.toNat, by omega⟩
      have hle := h.le
      have hsl := slice_fromI (some ⟨g, 0, none⟩) n cap q (by omega)
      rw [if_neg (show ¬ cap = q by omega), show (some (⟨g, 0, none⟩ : Addr)).map (·.add q) = some ⟨g, q, none⟩ by (show some ((⟨g, 0, none⟩ : Addr).add q) = _; rw [Addr.add_mid, Nat.zero_add])] at hsl
      obtain ⟨W1, hmk, hcb, hB1⟩ := make_is w k (by omega)
      obtain ⟨W2, hcp, hcb2, hB2⟩ := copy_run W1 w w.heap.size w.heap.size k (fun _ => 0) hcb ⟨g, q, none⟩ (n - q) (cap - q) (bD (fun j => u (q + j)) k) (by rw [bD_len]; exact (Nat.min_eq_right (by omega)).symm) (fun j v hv => by
        have hj : j < k := by have h9 := (List.getElem?_eq_some_iff.1 hv).1; rwa [bD_len] at h9
        rw [bD_at _ _ _ hj] at hv
        obtain rfl := Option.some.inj hv
        rw [Addr.add_mid]
        exact (hB1.cell (p := ⟨g, q + j, none⟩) hgl).trans (hcl (q + j) (by omega)).1) (bD_one _ _) hB1 (Nat.le_refl _)
      have hspl : splice (bD (fun _ => 0) k) 0 (bD (fun j => u (q + j)) k) = bD (fun j => u (q + j)) k := by unfold splice; rw [List.take_zero, List.nil_append, bD_len, List.drop_eq_nil_of_le (by rw [bD_len]; omega), List.append_nil]
      rw [hspl] at hcb2
      have HF : Hid (CB W2 w.heap.size (bD (fun j => u (q + j)) k) ∧ Below w.heap.size w W2) := ⟨hcb2, hB2⟩
      have c := (hB1.cell (p := ⟨b, 0, none⟩) h.lt).trans h.c
      have k1 : ((k : Int) == 0) = false := by simp; omega
      have KP : Hid (0 < k) := by unfold Hid; omega
      rw [Int.toNat_natCast, Int.toNat_natCast, hk]
      rw [hk] at LK
      generalize (bD (fun j => u (q + j)) k).length = nc at hcp
      clear hk hz h hcl hg hgl hnc hcb hcb2 hB1 hB2 hspl hm0 hle
      go_enter Try.func25, Try.ntmps25
      go_wp2_with (go_at_call 48; refine (LK.out).mono ?_; rintro e w' ⟨rfl, hw⟩; (have hw2 := hw.symm); clear hw; subst hw2)
      go_ret2
      exact ⟨_, rfl, Or.inr ⟨KP.out, w.heap.size, Nat.le_refl _, rfl, HF.out.1⟩, HF.out.2⟩
  · rw [if_neg hk]
    generalize lk n i m = L at *
    have hk2 : (L == 0) = false := by simpa using hk
    clear h
    go_enter Try.func25, Try.ntmps25
    go_wp2_with (go_at_call 48; refine (LK.out).mono ?_; rintro e w' ⟨rfl, hw⟩; (have hw2 := hw.symm); clear hw; subst hw2)
    go_ret2
    exact ⟨_, rfl, Or.inl ⟨rfl, rfl⟩, Below.refl _ _⟩
end Go.Proofs.Ytlemnjhdnciddaa
