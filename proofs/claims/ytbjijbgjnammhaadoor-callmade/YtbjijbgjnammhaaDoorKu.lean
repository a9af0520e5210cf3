/- sponge.Sum of pieces. -/
import Derived.Test.YtbjijbgjnammhaaDoorKw
namespace Go.Proofs.YtbjijbgjnammhaaDoor
open Go.RowKit
/-- the value v is a piece: these bytes -/
def PieceAt (w : World) (v : Value) (l : List Nat) : Prop := (∀ i, i < l.length → l.getD i 0 < 256) ∧ l.length < 9223372036854775807 ∧ ∃ ad cap, v = .slice ad l.length cap ∧ (l ≠ [] → ∃ sb so, ad = some ⟨sb, so, none⟩ ∧ BytesAt w ⟨sb, so, none⟩ l)
def flat (L : Nat → List Nat) (k : Nat) : List Nat := ((List.range k).map L).flatten
theorem absL_flat (s : KSt × Nat) (L : Nat → List Nat) (k : Nat) : absL s (flat L (k + 1)) = absL (absL s (flat L k)) (L k) := by
  rw [flat, List.range_succ, List.map_append, List.flatten_append, absL, List.foldl_append]; simp [absL, flat]
theorem BytesAt.below {w w' : World} {a : Addr} {l : List Nat} (h : BytesAt w a l) (k : Below w.heap.size w w') : BytesAt w' a l := fun i hi =>
  (k.cell (p := ⟨a.block, a.off + i, none⟩) (World.block_lt_of_cell? w _ (h i hi))).trans (h i hi)
set_option maxHeartbeats 1000000 in
set_option maxRecDepth 100000 in
theorem sumAll_is (w : World) (pa : Option Addr) (n cap : Nat) (pv : Nat → Value) (L : Nat → List Nat) (hT : Tabs w) (hn : n < 9223372036854775807)
    (hc : n ≠ 0 → ∃ pb po, pa = some ⟨pb, po, none⟩ ∧ ∀ i, i < n → w.cell? ⟨pb, po + i, none⟩ = some (pv i)) (hP : ∀ i, i < n → PieceAt w (pv i) (L i)) :
    Calls Tryd.prog 7 #[.slice pa n cap] w fun e w' => e = .returned (.agg (rowB 32 (hashF (endF (absL (zeroK, 0) (flat L n)).1 (absL (zeroK, 0) (flat L n)).2))).toArray) ∧ Below w.heap.size w w' := by
  have g2 := hT.lt
  have HT : Hid (Tabs w) := hT
  have HC : Hid _ := hc
  have HP : Hid _ := hP
  clear hT hc hP
  go_enter Tryd.func7, Tryd.ntmps7
  go_wp2
  go_loopw [8] (fun i wr => ∃ k : Nat, k ≤ n ∧ i = .int .i64 k ∧ SumInv w (absL (zeroK, 0) (flat L k)).1 (absL (zeroK, 0) (flat L k)).2 wr) (fun i _ => n - (intOf i).toNat)
  case atStart =>
    rw [zeroB32, zero26]
    refine ⟨0, Nat.zero_le _, rfl, ((Below.refl _ _).alloc (by omega) _).alloc (by simp) _, (RowB.new w 31 32 fun _ => 0).alloc _, ?_⟩
    have s0 := Spo.new (w.alloc (.cells (rowB 32 fun _ => 0).toArray 31)) 38 zeroK 0
    rw [show (w.alloc (.cells (rowB 32 fun _ => 0).toArray 31)).heap.size = w.heap.size + 1 by simp] at s0
    exact s0
  case round =>
    obtain ⟨k, hk, rfl, hI⟩ := hrel
    have hq := absL_lt (flat L k) (s := (zeroK, 0)) (by decide)
    have ea := absL_flat (zeroK, 0) L k
    generalize hst : absL (zeroK, 0) (flat L k) = t at hI hq ea
    have EA : Hid _ := ea
    have HST : Hid _ := hst
    have HI : Hid (SumInv w t.1 t.2 wr) := hI
    clear ea hst hI
    by_cases hk5 : k < n
    · have kI : ((k : Int) < (n : Int)) := by omega
      obtain ⟨pb, po, rfl, hcl⟩ := HC.out (by omega)
      obtain ⟨hx, hln, ad, c, hv, had⟩ := HP.out k hk5
      have hck := hcl k hk5
      have hck' := (Below.cell HI.out.1 (p := ⟨pb, po + k, none⟩) (World.block_lt_of_cell? w _ hck)).trans hck
      rw [hv] at hck'
      clear hcl hck
      by_cases hE : L k = []
      · rw [hE] at hck'
        have HE : Hid (L k = []) := hE
        clear hE had hx hln hv
        simp only [List.length_nil] at hck'
        go_wp2_with (go_at_call 10; refine (write_nil _ (w.heap.size + 1) ad c).mono ?_; rintro e v1 ⟨rfl, rfl⟩)
        go_roundw
        case rel =>
          refine ⟨k + 1, by omega, by go_num, ?_⟩
          rw [EA.out, HE.out]; exact HI.out
        case measure => simp [intOf]; omega
      · obtain ⟨sb, so, rfl, hby⟩ := had hE
        have hb0 : 0 < (L k).length := List.length_pos_iff.2 hE
        have hsb : sb < w.heap.size := World.block_lt_of_cell? w _ (hby 0 hb0)
        have HBY : Hid _ := BytesAt.below hby HI.out.1
        have HX : Hid _ := hx
        have HLN : Hid _ := hln
        generalize hlk : (L k).length = m at hck'
        have HLK : Hid _ := hlk
        clear hby hE hx hln hv hlk hb0 had
        go_wp2_with (go_at_call 10; rw [← HLK.out]; refine (write_is _ (w.heap.size + 1) sb so c t (L k) (Tabs.below HT.out HI.out.1 g2) (by omega) HI.out.2.2 hq HBY.out HX.out (by omega) HLN.out).mono ?_; rintro e v1 ⟨rfl, hs, ho⟩; (have H1 : Hid (SumInv w (absL t (L k)).1 (absL t (L k)).2 v1) := SumInv.only HI.out ho hs); clear hs ho)
        go_roundw
        case rel =>
          refine ⟨k + 1, by omega, by go_num, ?_⟩
          rw [EA.out]; exact H1.out
        case measure => simp [intOf]; omega
    · obtain rfl : k = n := by omega
      go_wp2_with (first
        | (go_at_call 11; refine (sum_is _ (w.heap.size + 1) t.1 t.2 (Tabs.below HT.out HI.out.1 g2) HI.out.2.2 hq).mono ?_; rintro e v1 ⟨rfl, hB⟩; (have H1 : Hid (SumInv w t.1 t.2 v1) := SumInv.past HI.out hB); clear hB)
        | refine store32 (hashF (endF t.1 t.2)) w.heap.size rfl _ _ rfl rfl rfl H1.out.2.1.there ?_)
      refine bodyPost_ret (v := .agg (rowB 32 (hashF (endF t.1 t.2))).toArray) ?_ rfl ⟨by rw [HST.out], below_setCells _ (Nat.le_refl _) _ _ _ H1.out.1⟩
      exact results_cell Tryd.results7 _ _ _ ⟨w.heap.size, 0, none⟩ rfl (loadVar32 (H1.out.2.1.of_range.range))
end Go.Proofs.YtbjijbgjnammhaaDoor
