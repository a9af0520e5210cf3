/- OpRows: 153 rows, each found by its code and by its name. -/
import Derived.Test.YtipdaiacapjfnaaDoorIte
namespace Go.Proofs.YtipdaiacapjfnaaDoor
open Go.RowKit Go.Shelf
attribute [local go_sem] Oper.semAt_some
/-- the code of the last of these -/
def lastC (l : List OpC) : Int := match l.getLast? with
  | some x => (x.1 : Int)
  | none => -1
theorem lastC_snoc (l : List OpC) (x : OpC) : lastC (l ++ [x]) = (x.1 : Int) := by unfold lastC; rw [List.getLast?_concat]
theorem opsUpto_below (k : Nat) (x : OpC) (h : x ∈ opsUpto k) : x.1 < k := by
  unfold opsUpto at h
  obtain ⟨a, ha, e⟩ := List.mem_filterMap.1 h
  split at e
  · cases e; exact List.mem_range.1 ha
  · cases e
theorem opsUpto_rises : ∀ k, (opsUpto k).Pairwise (fun a b => a.1 < b.1)
  | 0 => List.Pairwise.nil
  | k + 1 => by
    by_cases h : k < 256 ∧ isOp k = true
    · rw [opsUpto_yes k h, List.pairwise_append]
      refine ⟨opsUpto_rises k, List.pairwise_singleton _ _, fun a ha b hb => ?_⟩
      rw [List.mem_singleton.1 hb]
      exact opsUpto_below k a ha
    · have e : opsUpto (k + 1) = opsUpto k := by
        unfold opsUpto
        rw [List.range_succ, List.filterMap_append]
        simp [h]
      rw [e]; exact opsUpto_rises k
theorem next_above {p : List OpC} {x : OpC} (h : p ++ [x] <+: opsUpto 256) : lastC p < (x.1 : Int) := by
  have hp : (p ++ [x]).Pairwise (fun a b => a.1 < b.1) := (opsUpto_rises 256).sublist h.sublist
  rw [List.pairwise_append] at hp
  unfold lastC
  split
  · rename_i a ha
    have := hp.2.2 a (List.mem_of_getLast? ha) x (List.mem_singleton.2 rfl)
    omega
  · omega
/-- the last of these does not stand behind the others -/
def BackAt (cd : Code) (pre : List OpC) : Prop := cd = .ret ∧ ∃ (p : List OpC) (x : OpC), pre = p ++ [x] ∧ (x.1 : Int) ≤ lastC p
theorem BackAt.of {cd : Code} {p : List OpC} {x : OpC} (h : cd = .ret) (hle : (x.1 : Int) ≤ lastC p) : BackAt cd (p ++ [x]) := ⟨h, p, x, rfl, hle⟩
theorem mem_ops (x : OpC) : x ∈ opsUpto 256 := by
  unfold opsUpto
  refine List.mem_filterMap.2 ⟨x.1, List.mem_range.2 x.2.1, ?_⟩
  rw [dif_pos x.2]
theorem ops_many : (opsUpto 256).length = 153 := by decide +kernel
theorem idx_ok : ∀ c : Fin 256, (!isOp c.val || nameL.findIdx (· == nameL.getD c.val []) == c.val) = true := by decide +kernel
theorem name_one {c d : Nat} (hc : c < 256 ∧ isOp c = true) (hd : d < 256 ∧ isOp d = true) (h : nameL.getD d [] = nameL.getD c []) : d = c := by
  have h1 := idx_ok ⟨c, hc.1⟩
  have h2 := idx_ok ⟨d, hd.1⟩
  dsimp only at h1 h2
  rw [hc.2] at h1
  rw [hd.2, h] at h2
  have e1 : nameL.findIdx (· == nameL.getD c []) = c := by simpa using h1
  have e2 : nameL.findIdx (· == nameL.getD c []) = d := by simpa using h2
  omega
theorem name_list (c : Nat) : (nameT c).toList = nameL.getD c [] := by rw [ByteArray.toList_eq]; rfl
/-- the row of a row's name is that row -/
theorem byName_row (c : Nat) (hc : c < 256) (hop : isOp c = true) (w : World) (hN : Nms w) : Calls Tryd.prog 13 #[.string (nameT c)] w fun e w' => e = .returned (.tuple #[opv c, .bool true]) ∧ Below w.heap.size w w' := by
  refine (callsIn_wide.1 (byName_in (nameT c) w hN)).mono ?_
  rintro e w' ⟨hB, ⟨pre, x, hpre, _, hx, rfl⟩ | ⟨hno, _⟩⟩
  · have : x.1 = c := name_one ⟨hc, hop⟩ x.2 (by unfold nameEq at hx; rw [name_list, name_list] at hx; exact eq_of_beq hx)
    rw [this]
    exact ⟨rfl, hB⟩
  · have := hno ⟨c, hc, hop⟩ (mem_ops _)
    unfold nameEq at this
    simp at this
theorem row_ok : ∀ c : Fin 256, (!isOp c.val || (decide (-1 ≤ immT c.val ∧ immT c.val ≤ 32 ∧ 0 ≤ inT c.val ∧ 0 ≤ outT c.val ∧ 2 ≤ (nameL.getD c.val []).length ∧ (nameL.getD c.val []).length ≤ 32 ∧ (endsT c.val = true ∨ 1 ≤ gasT c.val)))) = true := by decide +kernel
theorem chars_ok : ∀ c : Fin 256, ((nameL.getD c.val []).zipIdx.all fun p => decide ((65 ≤ p.1.toNat ∧ p.1.toNat ≤ 90) ∨ (0 < p.2 ∧ 48 ≤ p.1.toNat ∧ p.1.toNat ≤ 57))) = true := by decide +kernel
theorem char_at (c : Nat) (hc : c < 256) (i : Nat) (hi : i < (nameT c).size) : ∃ b : Nat, (∀ W : World, Sem.run Tryd.prog (Instr.index 9 (.string (nameT c)) (.int .i64 (i : Int))) W = .ok (.int .u8 (b : Int)) W) ∧ ((65 ≤ b ∧ b ≤ 90) ∨ (0 < i ∧ 48 ≤ b ∧ b ≤ 57)) := by
  have hl : (nameT c).size = (nameL.getD c []).length := by unfold nameT; simp [ByteArray.size]
  refine ⟨((nameL.getD c [])[i]'(by omega)).toNat, fun W => ?_, ?_⟩
  · rw [run_index_string W 9 (nameT c) .i64 (i : Int) Tryd.underlying9, dif_pos ⟨by omega, by omega⟩]
    simp only [Int.toNat_natCast]
    rfl
  · have h := List.all_eq_true.1 (chars_ok ⟨c, hc⟩) ((nameL.getD c [])[i]'(by omega), i) (by
      rw [List.mem_iff_getElem]
      exact ⟨i, by simpa using (by omega : i < (nameL.getD c []).length), by simp⟩)
    simpa using h
end Go.Proofs.YtipdaiacapjfnaaDoor
