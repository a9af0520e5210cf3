/- A sponge's Write: byte by byte. -/
import Derived.Test.YtbjijbgjnammhaaDoorKt
namespace Go.Proofs.YtbjijbgjnammhaaDoor
open Go.RowKit
/-- a sponge behind one byte more -/
def absF (s : KSt × Nat) (x : Nat) : KSt × Nat := if s.2 + 1 = 136 then (rndsF 24 (layF s.1 s.2 x), 0) else (layF s.1 s.2 x, s.2 + 1)
def absL (s : KSt × Nat) (l : List Nat) : KSt × Nat := l.foldl absF s
theorem absF_lt {s : KSt × Nat} (x : Nat) (h : s.2 < 136) : (absF s x).2 < 136 := by
  unfold absF; split <;> simp <;> omega
theorem absL_lt (l : List Nat) : ∀ {s : KSt × Nat}, s.2 < 136 → (absL s l).2 < 136 := by
  induction l with
  | nil => intro s h; exact h
  | cons x r ih => intro s h; exact ih (absF_lt x h)
theorem absL_take (s : KSt × Nat) (l : List Nat) (k : Nat) (h : k < l.length) : absL s (l.take (k + 1)) = absF (absL s (l.take k)) (l.getD k 0) := by
  rw [List.take_add_one, List.getElem?_eq_getElem h, absL, List.foldl_append, List.getD_eq_getElem?_getD, List.getElem?_eq_getElem h]; rfl
theorem Spo.place {w : World} {b : Nat} {f : KSt} {p : Nat} (h : Spo w b f p) (q : Nat) : Spo (w.setCell ⟨b, 25, none⟩ (.int .i64 (q : Int))) b f q := by
  refine ⟨fun i hi => ⟨?_, ?_⟩, ?_, ?_⟩
  · rw [World.cell?_setCell_other _ _ _ _ (by intro e; injection e with _ e _; omega)]; exact (h.1 i hi).1
  · rw [World.frozen?_setCell]; exact (h.1 i hi).2
  · rw [World.cell?_setCell_same _ _ _ h.2.1]
  · rw [World.frozen?_setCell]; exact h.2.2
/-- these bytes lie at this address -/
def BytesAt (w : World) (a : Addr) (l : List Nat) : Prop := ∀ i, i < l.length → w.cell? ⟨a.block, a.off + i, none⟩ = some (.int .u8 (l.getD i 0 : Nat))
theorem store25_spo {ops : Array Oper} {rest : List Oper} {op : Oper} {a : Act} {w W : World} {Q : Exit → Act → World → Prop} {f : KSt} {p : Nat} (g : KSt) (b : Nat) (hgd : op.guard = none) (x y : Operand) (ho : op.op = .store 36 x y)
    (hx : a.eval x = .pointer (some ⟨b, 0, none⟩)) (hy : a.eval y = .agg (rowL 25 (iv g)).toArray) (hs : Spo W b f p) (hO : Only b w W)
    (h : ∀ v, Spo v b g p → Only b w v → wpList Tryd.prog ops Q rest (a.put op.dst undef) v) : wpList Tryd.prog ops Q (op :: rest) a W :=
  store25 (iv g) b hgd x y ho hx hy hs.1.there (h _ (hs.lanes g) (hO.sets _ _))
set_option maxHeartbeats 1000000 in
set_option maxRecDepth 100000 in
theorem write_is (w : World) (b sb so cap : Nat) (s : KSt × Nat) (l : List Nat) (hT : Tabs w) (hb : 2 < b) (h : Spo w b s.1 s.2) (hp : s.2 < 136) (hl : BytesAt w ⟨sb, so, none⟩ l) (hx : ∀ i, i < l.length → l.getD i 0 < 256) (hne : sb ≠ b) (hn : l.length < 9223372036854775807) :
    Calls Tryd.prog 10 #[.pointer (some ⟨b, 0, none⟩), .slice (some ⟨sb, so, none⟩) l.length cap] w fun e w' => e = .returned (.tuple #[]) ∧ Spo w' b (absL s l).1 (absL s l).2 ∧ Only b w w' := by
  have HT : Hid (Tabs w) := hT
  have HS : Hid (Spo w b s.1 s.2) := h
  have HL : Hid _ := hl
  have HX : Hid _ := hx
  obtain ⟨n, en⟩ : ∃ n, n = l.length := ⟨_, rfl⟩
  have EN : Hid (n = l.length) := en
  rw [← en] at hn ⊢
  clear hT h hl hx en
  go_enter Tryd.func10, Tryd.ntmps10
  go_wp2
  go_loopw [8] (fun i wr => ∃ k : Nat, k ≤ n ∧ i = .int .i64 k ∧ Spo wr b (absL s (l.take k)).1 (absL s (l.take k)).2 ∧ Only b w wr) (fun i _ => n - (intOf i).toNat)
  case atStart => exact ⟨0, Nat.zero_le _, rfl, HS.out, Only.refl _ _⟩
  case round =>
    obtain ⟨k, hk, rfl, hI, hO⟩ := hrel
    by_cases hk5 : k < n
    · have hkl : k < l.length := by rw [← EN.out]; exact hk5
      have kI : ((k : Int) < (n : Int)) := by omega
      have cx := HL.out k hkl
      have hsb := World.block_lt_of_cell? w _ cx
      have cb := (hO.cell (p := ⟨sb, so + k, none⟩) hsb hne).trans cx
      have ex := HX.out k hkl
      have ea := absL_take s l k hkl
      have hq := absL_lt (l.take k) hp
      generalize absL s (l.take k) = t at hI ea hq
      generalize l.getD k 0 = x at cx cb ex ea
      obtain ⟨f, p⟩ := t
      dsimp only at hI hq
      have EA : Hid _ := ea
      have HI : Hid (Spo wr b f p) := hI
      have HO : Hid (Only b w wr) := hO
      have cp := hI.2.1
      clear cx hsb ea hI hO
      by_cases hp1 : p + 1 = 136
      · obtain rfl : p = 135 := by omega
        clear hp1
        go_wp2_with (first
          | (go_at_call 15; refine (lay_is _ b f 135 135 x HI.out hq ex).mono ?_; rintro e v1 ⟨rfl, hs, ho⟩; (have c1 := hs.2.1); (have f1 := hs.2.2); (have H1 : Hid (Spo v1 b (layF f 135 x) 135) := hs); (have O1 : Hid (Only b w v1) := Only.trans HO.out ho); clear hs ho cp)
          | refine load25 (iv (layF f 135 x)) b rfl _ rfl rfl (Row.range (Spo.place H1.out 136).1) ?_
          | (go_at_call 16; refine (permute_is (layF f 135 x) _ (Tabs.only HT.out (Only.set O1.out 25 _) hb)).mono ?_; rintro e v2 ⟨rfl, hB⟩; (have H2 : Hid (Spo v2 b (layF f 135 x) 136) := Spo.below (Spo.place H1.out 136) hB (Spo.lt (Spo.place H1.out 136))); (have O2 : Hid (Only b w v2) := Only.trans (Only.set O1.out 25 _) (Below.only hB b)); clear hB c1 f1)
          | (refine store25_spo (rndsF 24 (layF f 135 x)) b rfl _ _ rfl rfl rfl H2.out O2.out ?_; intro v3 h3 o3; (have c3 := h3.2.1); (have f3 := h3.2.2); (have H3 : Hid (Spo v3 b (rndsF 24 (layF f 135 x)) 136) := h3); (have O3 : Hid (Only b w v3) := o3); clear h3 o3))
        go_roundw
        case rel =>
          have e : absF (f, 135) x = (rndsF 24 (layF f 135 x), 0) := rfl
          refine ⟨k + 1, by omega, by go_num, ?_, Only.set O3.out 25 _⟩
          rw [EA.out, e]
          exact Spo.place H3.out 0
        case measure => simp [intOf]; omega
      · have pI : ¬ ((p : Int) + 1 = 136) := by omega
        have pw : IntKind.i64.wrap ((p : Int) + 1) = (p : Int) + 1 := by rw [IntKind.wrap_i64]; omega
        go_wp2_with (first
          | (go_at_call 15; refine (lay_is _ b f p p x HI.out hq ex).mono ?_; rintro e v1 ⟨rfl, hs, ho⟩; (have c1 := hs.2.1); (have f1 := hs.2.2); (have H1 : Hid (Spo v1 b (layF f p x) p) := hs); (have O1 : Hid (Only b w v1) := Only.trans HO.out ho); clear hs ho cp))
        go_roundw
        case rel =>
          have e : absF (f, p) x = (layF f p x, p + 1) := if_neg hp1
          refine ⟨k + 1, by omega, by go_num, ?_, Only.set O1.out 25 _⟩
          rw [EA.out, e]
          exact Spo.place H1.out (p + 1)
        case measure => simp [intOf]; omega
    · obtain rfl : k = n := by omega
      have e : l.take k = l := by rw [EN.out, List.take_length]
      rw [e] at hI
      have HI : Hid _ := hI
      have HO : Hid _ := hO
      clear hI hO e
      go_wp2
      go_end0
      exact ⟨rfl, HI.out, HO.out⟩
/-- nothing is written -/
theorem write_nil (w : World) (b : Nat) (ad : Option Addr) (cap : Nat) :
    Calls Tryd.prog 10 #[.pointer (some ⟨b, 0, none⟩), .slice ad 0 cap] w fun e w' => e = .returned (.tuple #[]) ∧ w' = w := by
  go_enter Tryd.func10, Tryd.ntmps10
  go_wp2
  refine wp_loop_rounds 1 ?_
  rw [rounds_succ]
  go_wp2
  go_end0
  exact ⟨rfl, rfl⟩
end Go.Proofs.YtbjijbgjnammhaaDoor
