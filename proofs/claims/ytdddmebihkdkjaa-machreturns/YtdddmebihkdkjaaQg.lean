/- Lists of words in a block of their own; copying words. -/
import Derived.Test.YtdddmebihkdkjaaQf
import Derived.Laws.IdiomCopy
import Derived.Laws.MakeOwn
namespace Go.Proofs.Ytdddmebihkdkjaa
open Go.RowKit
theorem run_copy_sized {P : Program} (w : World) (dT sT ty elem : TypeId) (s b o dLen dCap : Nat) (a : Addr) (sLen sCap n : Nat) (cs : List Value)
    (hu : P.underlying dT = some (.slice elem)) (hs : (P.info? elem).map (·.size) = some s) (hn : Nat.min sLen dLen = n) (hlen : cs.length = n * s)
    (hsrc : ∀ j v, cs[j]? = some v → w.cell? (a.add j) = some v) (hc : ∀ j, j < cs.length → (w.cell? ⟨b, o + j, none⟩).isSome = true) (hf : ∀ j, j < cs.length → w.frozen? ⟨b, o + j, none⟩ = false) (h1 : ∀ v ∈ cs, v.oneCell' = true) :
    (Builtin.copy_ #[dT, sT] ty #[.slice (some ⟨b, o, none⟩) dLen dCap, .slice (some a) sLen sCap]).run P w = .ok (goInt n) (w.setCells b o cs) := by
  have hl := run_loadCells_list (P := P) w a cs hsrc
  have hst := run_storeCells_cells (P := P) b o cs 0 w (by simpa using hc) (by simpa using hf) h1
  cases hq : P.info? elem with
  | none => simp [hq] at hs
  | some i =>
    have hi : i.size = s := by simpa [hq] using hs
    simp only [Nat.add_zero] at hst
    simp [Builtin.copy_, run_underlying hu, Builtin.lenOf, Builtin.firstCells, sizeOf, typeInfo, hq, hi, hn, ← hlen, hl, hst]
theorem run_copy_nothing {P : Program} (w : World) (dT sT ty elem : TypeId) (s : Nat) (d a : Option Addr) (dLen dCap sLen sCap : Nat) (hu : P.underlying dT = some (.slice elem)) (hs : (P.info? elem).map (·.size) = some s) (hn : Nat.min sLen dLen = 0) :
    (Builtin.copy_ #[dT, sT] ty #[.slice d dLen dCap, .slice a sLen sCap]).run P w = .ok (goInt 0) w := by
  cases hq : P.info? elem with
  | none => simp [hq] at hs
  | some i =>
    have hl : ∀ (x : Addr), (loadCells x 0).run P w = .ok #[] w := fun x => by simpa using run_loadCells_list (P := P) w x [] (by simp)
    cases d <;> cases a <;> simp [Builtin.copy_, run_underlying hu, Builtin.lenOf, Builtin.firstCells, sizeOf, typeInfo, hq, hn, storeCells, hl]
/-- m words one behind the other, from cell a on -/
def WordsIn (W : World) (g a m : Nat) (x : Ring) : Prop := ∀ i, i < m → Wd W g (a + i * 4) (x i)
def rowW (x : Ring) : Nat → List Value
  | 0 => []
  | k + 1 => rowW x k ++ (x k).cs
theorem rowW_len (x : Ring) : ∀ k, (rowW x k).length = k * 4
  | 0 => rfl
  | k + 1 => by rw [rowW, List.length_append, rowW_len x k]; simp [W4.cs]; omega
def W4.q (x : W4) : Nat → Int
  | 0 => x.a
  | 1 => x.b
  | 2 => x.c
  | _ => x.d
theorem W4.cs_at (x : W4) (q : Nat) (h : q < 4) : x.cs[q]? = some (.int .u64 (x.q q)) := by
  obtain rfl | rfl | rfl | rfl : q = 0 ∨ q = 1 ∨ q = 2 ∨ q = 3 := by omega
  all_goals rfl
theorem rowW_at (x : Ring) : ∀ k i q, i < k → q < 4 → (rowW x k)[i * 4 + q]? = some (.int .u64 ((x i).q q))
  | k + 1, i, q, hi, hq => by
    rw [rowW]
    by_cases e : i = k
    · subst e
      rw [List.getElem?_append_right (by rw [rowW_len]; omega), rowW_len, show i * 4 + q - i * 4 = q by omega]
      exact W4.cs_at _ q hq
    · rw [List.getElem?_append_left (by rw [rowW_len]; omega)]
      exact rowW_at x k i q (by omega) hq
theorem rowW_cell (x : Ring) (k j : Nat) (v : Value) (h : (rowW x k)[j]? = some v) : j < k * 4 ∧ v = .int .u64 ((x (j / 4)).q (j % 4)) := by
  have hl : j < k * 4 := by have := (List.getElem?_eq_some_iff.1 h).1; rwa [rowW_len] at this
  have h1 := rowW_at x k (j / 4) (j % 4) (by omega) (by omega)
  rw [show j / 4 * 4 + j % 4 = j by omega, h] at h1
  exact ⟨hl, Option.some.inj h1⟩
theorem rowW_one (x : Ring) (k : Nat) : ∀ v ∈ rowW x k, v.oneCell' = true := fun v hv => by
  obtain ⟨j, hj⟩ := List.getElem?_of_mem hv
  rw [(rowW_cell x k j v hj).2]; rfl
theorem Wd.cellq {W : World} {b a : Nat} {x : W4} (h : Wd W b a x) (q : Nat) (hq : q < 4) : W.cell? ⟨b, a + q, none⟩ = some (.int .u64 (x.q q)) ∧ W.frozen? ⟨b, a + q, none⟩ = false := by
  obtain rfl | rfl | rfl | rfl : q = 0 ∨ q = 1 ∨ q = 2 ∨ q = 3 := by omega
  · exact ⟨h.c0, h.g0⟩
  · exact ⟨h.c1, h.g1⟩
  · exact ⟨h.c2, h.g2⟩
  · exact ⟨h.c3, h.g3⟩
theorem Wd.ofq {W : World} {b a : Nat} {x : W4} (h : ∀ q, q < 4 → W.cell? ⟨b, a + q, none⟩ = some (.int .u64 (x.q q)) ∧ W.frozen? ⟨b, a + q, none⟩ = false) : Wd W b a x :=
  ⟨(h 0 (by omega)).1, (h 1 (by omega)).1, (h 2 (by omega)).1, (h 3 (by omega)).1, (h 0 (by omega)).2, (h 1 (by omega)).2, (h 2 (by omega)).2, (h 3 (by omega)).2⟩
theorem WordsIn.cell {W : World} {g a m : Nat} {x : Ring} (h : WordsIn W g a m x) (j : Nat) (hj : j < m * 4) : W.cell? ⟨g, a + j, none⟩ = some (.int .u64 ((x (j / 4)).q (j % 4))) ∧ W.frozen? ⟨g, a + j, none⟩ = false := by
  have := (h (j / 4) (by omega)).cellq (j % 4) (by omega)
  rwa [show a + j / 4 * 4 + j % 4 = a + j by omega] at this
theorem WordsIn.past {W W' : World} {g a m : Nat} {x : Ring} (h : WordsIn W g a m x) (k : Below W.heap.size W W') : WordsIn W' g a m x := fun i hi => (h i hi).past k
theorem WordsIn.below {W W' : World} {B g a m : Nat} {x : Ring} (h : WordsIn W g a m x) (k : Below B W W') (hg : g < B) : WordsIn W' g a m x := fun i hi => (h i hi).below k hg
theorem WordsIn.only {W W' : World} {g a m c : Nat} {x : Ring} (h : WordsIn W g a m x) (k : Only c W W') (hc : g ≠ c) : WordsIn W' g a m x := fun i hi => (h i hi).only k hc
theorem WordsIn.ext {W : World} {g a m : Nat} {x y : Ring} (h : WordsIn W g a m x) (e : ∀ i, i < m → x i = y i) : WordsIn W g a m y := fun i hi => by rw [← e i hi]; exact h i hi
theorem Stk.words {W : World} {b o z : Nat} {f : Ring} {n : Int} (h : Stk W b o z f n) (p k : Nat) (hk : p + k ≤ 1024) : WordsIn W b (o + p * 4) k (fun i => f (p + i)) := fun i hi => by
  have := h.wd (p + i) (by omega); rwa [show o + (p + i) * 4 = o + p * 4 + i * 4 by omega] at this
theorem WordsIn.sets {W : World} {g m : Nat} {y : Ring} (h : WordsIn W g 0 m y) (a k : Nat) (x : Ring) (hk : a + k ≤ m) : WordsIn (W.setCells g (a * 4) (rowW x k)) g 0 m (fun i => if a ≤ i ∧ i < a + k then x (i - a) else y i) := fun i hi => by
  refine Wd.ofq fun q hq => ⟨?_, by rw [World.frozen?_setCells]; exact ((h i hi).cellq q hq).2⟩
  by_cases e : a ≤ i ∧ i < a + k
  · simp only [e, and_self, if_true]
    have hl : (i - a) * 4 + q < (rowW x k).length := by rw [rowW_len]; omega
    have h1 := World.cell?_setCells_in g (rowW x k) (a * 4) W (fun j hj => by
      rw [rowW_len] at hj
      have := (h.cell (a * 4 + j) (by omega)).1
      rw [Nat.zero_add] at this
      rw [this]; rfl) ((i - a) * 4 + q) hl
    rw [show a * 4 + ((i - a) * 4 + q) = 0 + i * 4 + q by omega] at h1
    rw [h1, ← List.getElem?_eq_getElem hl]
    exact rowW_at x k (i - a) q (by omega) hq
  · simp only [e, if_false]
    rw [World.cell?_setCells_out g (rowW x k) (a * 4) W _ (fun _ _ => by rw [rowW_len]; show 0 + i * 4 + q < _ ∨ _ ≤ 0 + i * 4 + q; omega)]
    exact ((h i hi).cellq q hq).1
theorem copy_words {W : World} (ty : TypeId) (g a m b c k dCap sLen dLen sCap : Nat) (x y : Ring) (hd : WordsIn W g 0 m y) (hs : WordsIn W b c k x) (hk : a + k ≤ m) (hn : Nat.min sLen dLen = k) :
    (Builtin.copy_ #[52, 52] ty #[.slice (some ⟨g, a * 4, none⟩) dLen dCap, .slice (some ⟨b, c, none⟩) sLen sCap]).run Try.prog W = .ok (goInt k) (W.setCells g (a * 4) (rowW x k)) := by
  refine run_copy_sized W _ _ _ 30 4 g (a * 4) dLen dCap ⟨b, c, none⟩ sLen sCap k (rowW x k) Try.underlying52 (by kernel_rfl) hn (rowW_len x k) (fun j v hv => ?_) (fun j hj => ?_) (fun j hj => ?_) (rowW_one x k)
  · obtain ⟨h1, h2⟩ := rowW_cell x k j v hv
    rw [Addr.add_mid, h2]; exact (hs.cell j h1).1
  · rw [rowW_len] at hj
    have := (hd.cell (a * 4 + j) (by omega)).1
    rw [Nat.zero_add] at this
    rw [this]; rfl
  · rw [rowW_len] at hj
    have := (hd.cell (a * 4 + j) (by omega)).2
    rwa [Nat.zero_add] at this
theorem info_parts {t : TypeId} {z : Value} {s b : Nat} (h : (Try.prog.info? t).map (fun i => (i.zero, i.size, i.bytes)) = some (some z, s, b)) : ∃ i, Try.prog.info? t = some i ∧ i.zero = some z ∧ i.size = s ∧ i.bytes = b := by
  cases hq : Try.prog.info? t with
  | none => rw [hq] at h; simp at h
  | some i => rw [hq] at h; simp at h; exact ⟨i, rfl, h.1, h.2.1, h.2.2⟩
theorem Try.infoW : (Try.prog.info? 30).map (fun i => (i.zero, i.size, i.bytes)) = some (some (.agg #[.int .u64 0, .int .u64 0, .int .u64 0, .int .u64 0]), 4, 32) := by kernel_rfl
theorem made4 (n j : Nat) (h : j < n) : (madeCells #[.int .u64 0, .int .u64 0, .int .u64 0, .int .u64 0] n)[j]? = some (.int .u64 0) := by
  have e : (#[Value.int .u64 0, .int .u64 0, .int .u64 0, .int .u64 0] : Array Value)[j % 4]! = .int .u64 0 := by
    have h4 : j % 4 < 4 := by omega
    generalize j % 4 = q at h4
    obtain rfl | rfl | rfl | rfl : q = 0 ∨ q = 1 ∨ q = 2 ∨ q = 3 := by omega
    all_goals rfl
  unfold madeCells
  rw [Array.getElem?_map, Array.getElem?_eq_getElem (by simpa using h)]
  simp only [Array.getElem_range, Option.map_some]
  exact congrArg some e
/-- a new list of m words -/
theorem make_words (w : World) (m : Nat) (hm : m ≤ 1048576) : ∃ W1, Sem.run Try.prog (Instr.makeSlice 52 (.int .i64 (m : Int)) (.int .i64 (m : Int))) w = .ok (.slice (some ⟨w.heap.size, 0, none⟩) m m) W1 ∧ WordsIn W1 w.heap.size 0 m ring0 ∧ Below w.heap.size w W1 ∧ W1.heap.size = w.heap.size + 1 := by
  obtain ⟨i0, hi, hz0, hz1, hz2⟩ := info_parts Try.infoW
  have h := run_makeSlice (P := Try.prog) w 52 30 i0 _ Try.underlying52 hi hz0 .i64 .i64 (m : Int) (m : Int) (by omega) (Int.le_refl _) (by rw [hz1]; simp; omega) (by rw [hz2]; omega) (by omega)
  rw [hz1] at h
  simp only [Int.toNat_natCast] at h
  refine ⟨_, h, fun i hi => Wd.ofq fun q hq => ?_, (Below.refl _ _).alloc (Nat.le_refl _) _, by simp⟩
  rw [World.cell?_alloc_at _ _ _ _ rfl]
  refine ⟨?_, by simp [World.frozen?_alloc_at]⟩
  have e : ∀ q, w0.q q = 0 := fun q => by unfold W4.q; split <;> rfl
  show (madeCells _ _)[0 + i * 4 + q]? = _
  rw [Value.cells, made4 _ _ (by omega)]
  show _ = some (Value.int .u64 (w0.q q))
  rw [e]
end Go.Proofs.Ytdddmebihkdkjaa
