/- Words of a stack. -/
import Derived.Test.YtdddmebihkdkjaaQg
namespace Go.Proofs.Ytdddmebihkdkjaa
open Go.RowKit
def cnt (n : Int) : Nat := (min (max n 0) 1024).toNat
theorem cnt_le (n : Int) : cnt n ≤ 1024 := by unfold cnt; omega
theorem cnt_eq (n : Int) : (cnt n : Int) = min (max n 0) 1024 := by unfold cnt; omega
/-- the words that are told, the topmost last -/
def told (f : Ring) (n : Int) : Ring := fun i => f (pl (n - (cnt n : Int) + (i : Int)))
set_option maxHeartbeats 1000000 in
set_option maxRecDepth 100000 in
theorem words_is (w : World) (b : Nat) (f : Ring) (n : Int) (h : Stk w b 0 4096 f n) : Calls Try.prog 30 #[.pointer (some ⟨b, 0, none⟩)] w fun e w' => e = .returned (.slice (some ⟨w.heap.size, 0, none⟩) (cnt n) (cnt n)) ∧ WordsIn w' w.heap.size 0 (cnt n) (told f n) ∧ Below w.heap.size w w' := by
  have cz := h.sz.1
  have hm := cnt_le n
  have em : min (max n 0) 1024 = (cnt n : Int) := (cnt_eq n).symm
  obtain ⟨W1, hmk, hw1, hB1, hs1⟩ := make_words w (cnt n) (by omega)
  have hp := pl_lt (n - (cnt n : Int))
  have PL : Hid (Calls Try.prog 53 #[.pointer (some ⟨b, 0, none⟩), .int .i64 (cnt n : Int)] W1 fun e w' => e = .returned (.int .i64 (pl (n - (cnt n : Int)) : Int)) ∧ w' = W1) := place_is W1 b f n _ (h.below hB1 h.lt)
  have HS : Hid (Stk W1 b 0 4096 f n) := h.below hB1 h.lt
  have HW1 : Hid (WordsIn W1 w.heap.size 0 (cnt n) ring0) := hw1
  have HB1 : Hid (Below w.heap.size w W1) := hB1
  have HMK : Hid (Sem.run Try.prog (Instr.makeSlice 52 (.int .i64 (cnt n : Int)) (.int .i64 (cnt n : Int))) w = .ok (.slice (some ⟨w.heap.size, 0, none⟩) (cnt n) (cnt n)) W1) := hmk
  have EM : Hid (min (max n 0) 1024 = (cnt n : Int)) := em
  have HSZ : Hid (w.heap.size ≤ W1.heap.size) := hB1.size
  have hb := h.lt
  have TL : Hid (∀ i, i < cnt n → pl (n - (cnt n : Int)) + i < 1024 → f (pl (n - (cnt n : Int)) + i) = told f n i) := fun i _ hi => by
    unfold told; congr 1
    have := pl_eq (n - (cnt n : Int)); unfold pl at *; omega
  have TM : Hid (∀ i, i < cnt n → 1024 ≤ pl (n - (cnt n : Int)) + i → f (pl (n - (cnt n : Int)) + i - 1024) = told f n i) := fun i h1 hi => by
    unfold told; congr 1
    have := pl_eq (n - (cnt n : Int)); unfold pl at *; omega
  clear hmk em
  generalize cnt n = m at *
  generalize pl (n - (m : Int)) = p at *
  have hmI : (m : Int) ≤ 1024 := by omega
  have hpI : (p : Int) ≤ 1024 := by omega
  clear h hw1 hB1 hs1
  go_enter Try.func30, Try.ntmps30
  go_upto_region 1 with fail
  go_cut [3] (fun s3 wx => s3 = .slice (some ⟨w.heap.size, 0, none⟩) m m ∧ wx = W1)
  case first =>
    by_cases h0 : n < 0
    · have ev : (m : Int) = 0 := by have := EM.out; omega
      have h1 : ¬ (0 ≤ n) := by omega
      have hk : Sem.run Try.prog (Instr.makeSlice 52 (.int .i64 0) (.int .i64 0)) w = .ok (.slice (some ⟨w.heap.size, 0, none⟩) m m) W1 := by rw [← ev]; exact HMK.out
      clear EM ev
      go_wp2
      go_meet
      case rel => exact ⟨rfl, rfl⟩
    · by_cases h1 : 1024 < n
      · have ev : (m : Int) = 1024 := by have := EM.out; omega
        have h2 : 0 ≤ n := by omega
        have hk : Sem.run Try.prog (Instr.makeSlice 52 (.int .i64 1024) (.int .i64 1024)) w = .ok (.slice (some ⟨w.heap.size, 0, none⟩) m m) W1 := by rw [← ev]; exact HMK.out
        clear EM ev
        go_wp2
        go_meet
        case rel => exact ⟨rfl, rfl⟩
      · have ev : (m : Int) = n := by have := EM.out; omega
        have h2 : 0 ≤ n := by omega
        have hk : Sem.run Try.prog (Instr.makeSlice 52 (.int .i64 n) (.int .i64 n)) w = .ok (.slice (some ⟨w.heap.size, 0, none⟩) m m) W1 := by rw [← ev]; exact HMK.out
        clear EM ev
        go_wp2
        go_meet
        case rel => exact ⟨rfl, rfl⟩
  case rest =>
    obtain ⟨rfl, rfl⟩ := hcut
    clear cz HMK
    go_upto_region 3 with (go_at_call 53; refine (PL.out).mono ?_; rintro e w' ⟨rfl, hw⟩; (have hw2 := hw.symm); clear hw PL; subst hw2)
    have hgb : b ≠ w.heap.size := by omega
    generalize hg0 : w.heap.size = g at *
    have HG : Hid (w.heap.size = g) := hg0
    clear hg0
    obtain ⟨W1, rfl⟩ : ∃ W1, W1 = wc := ⟨_, rfl⟩
    by_cases hA : m ≤ 1024 - p
    · have c1 : ∀ ty : TypeId, (Builtin.copy_ #[52, 52] ty #[.slice (some ⟨g, 0, none⟩) m m, .slice (some ⟨b, p * 4, none⟩) (1024 - p) (1024 - p)]).run Try.prog W1 = .ok (.int .i64 (m : Int)) (W1.setCells g 0 (rowW (fun i => f (p + i)) m)) := fun ty => by
        have h1 := HS.out.words p m (by omega)
        rw [Nat.zero_add] at h1
        have h2 := copy_words ty g 0 m b (p * 4) m m (1024 - p) m (1024 - p) _ _ HW1.out h1 (by omega) (by show min (1024 - p) m = m; omega)
        rw [Nat.zero_mul] at h2; exact h2
      have HR : Hid (WordsIn (W1.setCells g 0 (rowW (fun i => f (p + i)) m)) g 0 m (told f n) ∧ Below g w (W1.setCells g 0 (rowW (fun i => f (p + i)) m)) ∧ Stk (W1.setCells g 0 (rowW (fun i => f (p + i)) m)) b 0 4096 f n) := by
        have h1 := HW1.out.sets 0 m (fun i => f (p + i)) (by omega)
        rw [Nat.zero_mul] at h1
        refine ⟨h1.ext fun i hi => ?_, ?_, HS.out.only ((Only.refl g W1).sets _ _) hgb⟩
        · simp only [show 0 ≤ i ∧ i < 0 + m by omega, and_self, if_true]
          exact TL.out i hi (by omega)
        · exact HB1.out.trans (((Only.refl g W1).sets _ _).below (Nat.le_refl _) HSZ.out)
      clear hA HW1 HS HB1
      generalize W1.setCells g 0 (rowW (fun i => f (p + i)) m) = W2 at *
      go_upto_region 4 with fail
      replace HR : Hid (WordsIn W2.drew g 0 m (told f n) ∧ Below g w W2.drew) := ⟨HR.out.1.past ((Below.refl _ _).drew), HR.out.2.1.drew⟩
      refine wp_region_held_drew (S := fun V' => True) (by kernel_rfl) trivial (fun hHeld => ?_)
      generalize W2.drew = z0 at HR ⊢
      refine wpAnyH_take (i := 0) (v := .slice (some ⟨g, 0, none⟩) m m) ov0 (by kernel_rfl) (by kernel_rfl) (by kernel_rfl) (fun _ _ _ h => h) (Or.inl ⟨by rfl, fun V' hS => ?_⟩) hHeld ?_
      · go_simp
      simp only [Act.put, List.setIfInBounds_toArray, List.set_cons_zero, List.set_cons_succ]
      refine wpAnyH_take (i := 1) (v := .int .i64 (m : Int)) ov1 (by kernel_rfl) (by kernel_rfl) (by kernel_rfl) (fun _ _ _ h => h) (Or.inl ⟨by rfl, fun V' hS => ?_⟩) hHeld ?_
      · go_simp
      simp only [Act.put, List.setIfInBounds_toArray, List.set_cons_zero, List.set_cons_succ]
      refine wpAnyH_take (i := 2) (v := .slice (some ⟨g, 0, none⟩) 0 0) ov2 (by kernel_rfl) (by kernel_rfl) (by kernel_rfl) (fun _ _ _ h => h) (Or.inl ⟨by rfl, fun V' hS => ?_⟩) hHeld ?_
      · go_simp
      simp only [Act.put, List.setIfInBounds_toArray, List.set_cons_zero, List.set_cons_succ]
      refine wpAnyH_take (i := 3) (v := .pointer (some ⟨b, 0, none⟩)) ov3 (by kernel_rfl) (by kernel_rfl) (by kernel_rfl) (fun _ _ _ h => h) (Or.inl ⟨by rfl, fun V' hS => ?_⟩) hHeld ?_
      · go_simp
      simp only [Act.put, List.setIfInBounds_toArray, List.set_cons_zero, List.set_cons_succ]
      refine wpAnyH_take (i := 4) (v := .pointer (some ⟨b, 0, none⟩)) ov4 (by kernel_rfl) (by kernel_rfl) (by kernel_rfl) (fun _ _ _ h => h) (Or.inl ⟨by rfl, fun V' hS => ?_⟩) hHeld ?_
      · go_simp
      simp only [Act.put, List.setIfInBounds_toArray, List.set_cons_zero, List.set_cons_succ]
      refine wpAnyH_take (i := 5) (v := .pointer (some ⟨b, 0, none⟩)) ov5 (by kernel_rfl) (by kernel_rfl) (by kernel_rfl) (fun _ _ _ h => h) (Or.inl ⟨by rfl, fun V' hS => ?_⟩) hHeld ?_
      · go_simp
      simp only [Act.put, List.setIfInBounds_toArray, List.set_cons_zero, List.set_cons_succ]
      refine wpAnyH_take (i := 6) (v := .int .i64 (p : Int)) ov6 (by kernel_rfl) (by kernel_rfl) (by kernel_rfl) (fun _ _ _ h => h) (Or.inl ⟨by rfl, fun V' hS => ?_⟩) hHeld ?_
      · go_simp
      simp only [Act.put, List.setIfInBounds_toArray, List.set_cons_zero, List.set_cons_succ]
      refine wpAnyH_take (i := 7) (v := .slice (some ⟨b, 0, none⟩) p 1024) ov7 (by kernel_rfl) (by kernel_rfl) (by kernel_rfl) (fun _ _ _ h => h) (Or.inl ⟨by rfl, fun V' hS => ?_⟩) hHeld ?_
      · go_simp
      simp only [Act.put, List.setIfInBounds_toArray, List.set_cons_zero, List.set_cons_succ]
      refine wpAnyH_ready (rs := [8]) (by kernel_rfl) (by simp) ?_
      refine AllReadyH.cons ov8 (fun K hK => ?_) AllReadyH.nil
      rw [if_pos (by rfl)]
      have c2 := fun ty => run_copy_nothing (P := Try.prog) z0 52 52 ty 30 4 (some ⟨g, 0, none⟩) (some ⟨b, 0, none⟩) 0 0 p 1024 Try.underlying52 (by kernel_rfl) (Nat.min_zero p)
      go_simp
      refine hK.out _ _ trivial (fun _ => ?_)
      clear hK K
      (try simp only [Act.put, List.setIfInBounds_toArray, List.set_cons_zero, List.set_cons_succ])
      refine wpAnyH_done (by kernel_rfl) ?_ _
      go_wp2
      go_ret
      exact ⟨by rw [HG.out]; rfl, by rw [HG.out]; exact HR.out⟩
    · obtain ⟨k, ek⟩ : ∃ k, 1024 - p = k := ⟨_, rfl⟩
      have ek2 : p + k = 1024 := by omega
      have EK : Hid (p + k = 1024) := ek2
      have c1 : ∀ ty : TypeId, (Builtin.copy_ #[52, 52] ty #[.slice (some ⟨g, 0, none⟩) m m, .slice (some ⟨b, p * 4, none⟩) (1024 - p) (1024 - p)]).run Try.prog W1 = .ok (.int .i64 (k : Int)) (W1.setCells g 0 (rowW (fun i => f (p + i)) k)) := fun ty => by
        have h1 := HS.out.words p k (by omega)
        rw [Nat.zero_add] at h1
        have h2 := copy_words ty g 0 m b (p * 4) k m (1024 - p) m (1024 - p) _ _ HW1.out h1 (by omega) (by show min (1024 - p) m = k; omega)
        rw [Nat.zero_mul] at h2; exact h2
      have hkm : k < m := by omega
      have hkmI : (k : Int) ≤ (m : Int) := by omega
      have hkm2 : ¬ (m = k) := by omega
      have HR : Hid (∀ W, Below W1.heap.size (W1.setCells g 0 (rowW (fun i => f (p + i)) k)) W → (∀ ty : TypeId, (Builtin.copy_ #[52, 52] ty #[.slice (some ⟨g, k * 4, none⟩) (m - k) (m - k), .slice (some ⟨b, 0, none⟩) p 1024]).run Try.prog W = .ok (.int .i64 ((m - k : Nat) : Int)) (W.setCells g (k * 4) (rowW f (m - k)))) ∧ WordsIn (W.setCells g (k * 4) (rowW f (m - k))) g 0 m (told f n) ∧ Below g w (W.setCells g (k * 4) (rowW f (m - k)))) := fun W hW => by
        have o1 : Only g W1 (W1.setCells g 0 (rowW (fun i => f (p + i)) k)) := (Only.refl g W1).sets _ _
        have gl : g < W1.heap.size := (HW1.out 0 (by omega)).lt
        have h1 := HW1.out.sets 0 k (fun i => f (p + i)) (by omega)
        rw [Nat.zero_mul] at h1
        have h2 := h1.below hW gl
        have h3 : Stk W b 0 4096 f n := (HS.out.only o1 hgb).below hW (by have := HS.out.lt; omega)
        have h4 := h3.words 0 (m - k) (by omega)
        rw [Nat.zero_mul, Nat.add_zero] at h4
        have h5 : WordsIn W b 0 (m - k) f := h4.ext fun i _ => by rw [Nat.zero_add]
        refine ⟨fun ty => copy_words ty g k m b 0 (m - k) (m - k) p (m - k) 1024 _ _ h2 h5 (by omega) (by show min p (m - k) = m - k; omega), ?_, ?_⟩
        · refine (h2.sets k (m - k) f (by omega)).ext fun i hi => ?_
          by_cases e : k ≤ i
          · simp only [show k ≤ i ∧ i < k + (m - k) by omega, and_self, if_true]
            rw [show i - k = p + i - 1024 by omega]
            exact TM.out i hi (by omega)
          · simp only [show ¬ (k ≤ i ∧ i < k + (m - k)) by omega, show 0 ≤ i ∧ i < 0 + k by omega, and_self, if_true, if_false]
            exact TL.out i hi (by omega)
        · have b1 : Below g w W := (HB1.out.trans (o1.below (Nat.le_refl _) HSZ.out)).trans (hW.mono HSZ.out)
          exact b1.trans (((Only.refl g W).sets _ _).below (Nat.le_refl _) (by have := b1.size; rw [HG.out] at this; exact this))
      have HSZ2 : Hid (W1.heap.size ≤ (W1.setCells g 0 (rowW (fun i => f (p + i)) k)).heap.size) := ((Only.refl g W1).sets _ _).size
      clear hA HW1 HS HB1 ek2 ek
      generalize W1.setCells g 0 (rowW (fun i => f (p + i)) k) = W2 at *
      go_upto_region 4 with fail
      have HR2 : Hid _ := HR.out W2.drew ((Below.refl _ _).drew)
      refine wp_region_held_drew (S := fun V' => True) (by kernel_rfl) trivial (fun hHeld => ?_)
      generalize W2.drew = z0 at HR2 ⊢
      refine wpAnyH_take (i := 0) (v := .slice (some ⟨g, 0, none⟩) m m) ov0 (by kernel_rfl) (by kernel_rfl) (by kernel_rfl) (fun _ _ _ h => h) (Or.inl ⟨by rfl, fun V' hS => ?_⟩) hHeld ?_
      · go_simp
      simp only [Act.put, List.setIfInBounds_toArray, List.set_cons_zero, List.set_cons_succ]
      refine wpAnyH_take (i := 1) (v := .int .i64 (k : Int)) ov1 (by kernel_rfl) (by kernel_rfl) (by kernel_rfl) (fun _ _ _ h => h) (Or.inl ⟨by rfl, fun V' hS => ?_⟩) hHeld ?_
      · go_simp
      simp only [Act.put, List.setIfInBounds_toArray, List.set_cons_zero, List.set_cons_succ]
      refine wpAnyH_take (i := 2) (v := .slice (some ⟨g, k * 4, none⟩) (m - k) (m - k)) ov2 (by kernel_rfl) (by kernel_rfl) (by kernel_rfl) (fun _ _ _ h => h) (Or.inl ⟨by rfl, fun V' hS => ?_⟩) hHeld ?_
      · go_simp
      simp only [Act.put, List.setIfInBounds_toArray, List.set_cons_zero, List.set_cons_succ]
      refine wpAnyH_take (i := 3) (v := .pointer (some ⟨b, 0, none⟩)) ov3 (by kernel_rfl) (by kernel_rfl) (by kernel_rfl) (fun _ _ _ h => h) (Or.inl ⟨by rfl, fun V' hS => ?_⟩) hHeld ?_
      · go_simp
      simp only [Act.put, List.setIfInBounds_toArray, List.set_cons_zero, List.set_cons_succ]
      refine wpAnyH_take (i := 4) (v := .pointer (some ⟨b, 0, none⟩)) ov4 (by kernel_rfl) (by kernel_rfl) (by kernel_rfl) (fun _ _ _ h => h) (Or.inl ⟨by rfl, fun V' hS => ?_⟩) hHeld ?_
      · go_simp
      simp only [Act.put, List.setIfInBounds_toArray, List.set_cons_zero, List.set_cons_succ]
      refine wpAnyH_take (i := 5) (v := .pointer (some ⟨b, 0, none⟩)) ov5 (by kernel_rfl) (by kernel_rfl) (by kernel_rfl) (fun _ _ _ h => h) (Or.inl ⟨by rfl, fun V' hS => ?_⟩) hHeld ?_
      · go_simp
      simp only [Act.put, List.setIfInBounds_toArray, List.set_cons_zero, List.set_cons_succ]
      refine wpAnyH_take (i := 6) (v := .int .i64 (p : Int)) ov6 (by kernel_rfl) (by kernel_rfl) (by kernel_rfl) (fun _ _ _ h => h) (Or.inl ⟨by rfl, fun V' hS => ?_⟩) hHeld ?_
      · go_simp
      simp only [Act.put, List.setIfInBounds_toArray, List.set_cons_zero, List.set_cons_succ]
      refine wpAnyH_take (i := 7) (v := .slice (some ⟨b, 0, none⟩) p 1024) ov7 (by kernel_rfl) (by kernel_rfl) (by kernel_rfl) (fun _ _ _ h => h) (Or.inl ⟨by rfl, fun V' hS => ?_⟩) hHeld ?_
      · go_simp
      simp only [Act.put, List.setIfInBounds_toArray, List.set_cons_zero, List.set_cons_succ]
      refine wpAnyH_ready (rs := [8]) (by kernel_rfl) (by simp) ?_
      refine AllReadyH.cons ov8 (fun K hK => ?_) AllReadyH.nil
      rw [if_pos (by rfl)]
      have c2 := HR2.out.1
      go_simp
      refine hK.out _ _ trivial (fun _ => ?_)
      clear hK K
      (try simp only [Act.put, List.setIfInBounds_toArray, List.set_cons_zero, List.set_cons_succ])
      refine wpAnyH_done (by kernel_rfl) ?_ _
      go_wp2
      go_ret
      exact ⟨by rw [HG.out]; rfl, by rw [HG.out]; exact HR2.out.2⟩
end Go.Proofs.Ytdddmebihkdkjaa
