/- Package container: the reader: giveUp, number, field. -/
import Derived.Test.YtndhabhlajldeaaBkl
import Derived.Defers
import Derived.Recover
import Derived.Laws.Slices
namespace Go.Proofs.Ytndhabhlajldeaa
open Go.RowKit
def rejV (c a : Int) : Value := .agg #[.int .i64 c, .slice none 0 0, .int .i64 0, .int .i64 a]
/-- what is thrown -/
def thrown (c a : Int) : Ending := .panicked [{ v := .iface 47 (rejV c a), recovered := false }]
set_option maxHeartbeats 1000000 in
theorem giveUp_is (w : World) (c a : Int) : Calls Try.prog 98 #[.int .i64 c, .int .i64 a] w fun e w' => e = thrown c a ∧ w' = w := by
  go_enter Try.func98, Try.ntmps98
  go_wp2
  exact ⟨rfl, rfl, rfl⟩
/-- a reader: its box, the bytes that it goes through, where it stands -/
structure Rdr (W : World) (rb : Nat) (bs : Value) (b : List Nat) (k : Nat) : Prop where
  box : CBox W rb 81 [bs, .int .i64 (k : Int)]
  by' : BL (fun g => g < rb) W bs b
  byt : Byt b
  len : b.length ≤ 16777216
/-- only the reader's box has changed -/
abbrev RB (rb : Nat) (W W' : World) : Prop := But (fun g => g = rb) W W'
theorem Rdr.past {W W' : World} {rb : Nat} {bs : Value} {b : List Nat} {k : Nat} (h : Rdr W rb bs b k) (q : Below W.heap.size W W') : Rdr W' rb bs b k := ⟨h.box.past q, h.by'.past q, h.byt, h.len⟩
theorem Rdr.go {W : World} {rb : Nat} {bs : Value} {b : List Nat} {k : Nat} (h : Rdr W rb bs b k) (m : Nat) : Rdr (W.setCell ⟨rb, 1, none⟩ (.int .i64 (m : Int))) rb bs b m ∧ RB rb W (W.setCell ⟨rb, 1, none⟩ (.int .i64 (m : Int))) := by
  have hb : RB rb W (W.setCell ⟨rb, 1, none⟩ (.int .i64 (m : Int))) := (But.refl (fun g => g = rb) W).setCell ⟨rb, 1, none⟩ _ (Or.inl rfl)
  exact ⟨⟨h.box.set 1 _, h.by'.but hb (fun g hg e => by omega), h.byt, h.len⟩, hb⟩
theorem Rdr.keep {W W' : World} {rb : Nat} {bs : Value} {b : List Nat} {k : Nat} (h : Rdr W rb bs b k) {S : Nat → Prop} (q : But S W W') (hs : ∀ g, g ≤ rb → ¬ S g) : Rdr W' rb bs b k := ⟨h.box.but q (hs rb (Nat.le_refl _)), h.by'.but q (fun g hg => hs g (by omega)), h.byt, h.len⟩
/-- b[i:j] of bytes -/
theorem slice_ij (ad : Option Addr) (n cap i j : Nat) (hi : i ≤ j) (hj : j ≤ cap) (W : World) : Sem.run Try.prog (Instr.slice 22 (.slice ad n cap) (some (.int .i64 (i : Int))) (some (.int .i64 (j : Int))) none) W = .ok (.slice (if cap = i then ad else ad.map (·.add i)) (j - i) (cap - i)) W := by
  simp [Instr.slice, Instr.sliceBounds, run_underlying Try.underlying22, run_sliceBound W .i64 (i : Int) j _ (by omega) (by omega), run_sliceBound W .i64 (j : Int) cap _ (by omega) (by omega)]
theorem slice_i (ad : Option Addr) (n cap i : Nat) (hi : i ≤ n) (W : World) : Sem.run Try.prog (Instr.slice 22 (.slice ad n cap) (some (.int .i64 (i : Int))) none none) W = .ok (.slice (if cap = i then ad else ad.map (·.add i)) (n - i) (cap - i)) W := by
  simp [Instr.slice, Instr.sliceBounds, run_underlying Try.underlying22, run_sliceBound W .i64 (i : Int) n _ (by omega) (by omega)]
theorem BL.mid {P : Nat → Prop} {W : World} {ad : Option Addr} {cap : Nat} {l : List Nat} (h : BL P W (.slice ad l.length cap) l) (i j : Nat) (hi : i ≤ j) (hj : j ≤ l.length) : BL P W (.slice (if cap = i then ad else ad.map (·.add i)) (j - i) (cap - i)) ((l.drop i).take (j - i)) := by
  obtain ⟨_, ad', cap', e, h0, h1, hz, h2⟩ := h
  injection e with e1 _ e3
  subst e1 e3
  have hl : ((l.drop i).take (j - i)).length = j - i := by simp; omega
  refine ⟨by rw [bV_len, hl]; omega, _, _, by rw [hl], by rw [hl]; omega, by rw [hl]; omega, fun e => ?_, fun hn => ?_⟩
  · by_cases ec : cap = i
    · omega
    · rw [if_neg ec] at e
      cases ad with
      | none => have := hz rfl; omega
      | some a => cases e
  · rw [hl] at hn
    obtain ⟨g, a, rfl, hp, hg, h3⟩ := h2 (by omega)
    refine ⟨g, a + i, ?_, hp, hg, fun m c hc => ?_⟩
    · rw [if_neg (by omega)]
      show some ((⟨g, a, none⟩ : Addr).add i) = _
      rw [Addr.add_mid]
    · obtain ⟨x, hx, rfl⟩ := bV_inv hc
      have hx2 : l[i + m]? = some x := by
        rw [List.getElem?_take] at hx
        split at hx
        · rw [List.getElem?_drop] at hx; exact hx
        · cases hx
      rw [Nat.add_assoc]
      exact h3 (i + m) _ (bV_get hx2)
theorem rd_lt {b : List Nat} (hb : Byt b) (k wd : Nat) (hw : wd ≤ 8) : rd b k wd < 18446744073709551616 := by
  have h1 := num_lt ((b.drop k).take wd) (fun x hx => hb x (List.mem_of_mem_drop (List.mem_of_mem_take hx)))
  have h2 : ((b.drop k).take wd).length ≤ 8 := by simp; omega
  have h3 : 256 ^ ((b.drop k).take wd).length ≤ 256 ^ 8 := Nat.pow_le_pow_right (by omega) h2
  unfold rd
  have : (256 : Nat) ^ 8 = 18446744073709551616 := by decide
  omega
end Go.Proofs.Ytndhabhlajldeaa
