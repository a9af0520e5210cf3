/- The document's ByName: the first row of that name; both tables' ByName with the answer named ahead. -/
import Derived.Test.YtipdaiacapjfnaaDoorOna
import Derived.Test.YtipdaiacapjfnaaDoorIte
namespace Go.Proofs.YtipdaiacapjfnaaDoor
open Go.RowKit
/-- the first row of this name, as it is answered -/
def byV (s : ByteArray) : Value := match (opsUpto 256).find? (nameEq s) with
  | some x => .tuple #[opv x.1, .bool true]
  | none => .tuple #[opz, .bool false]
theorem NoneYet.find {s : ByteArray} {l : List OpC} (h : NoneYet s l) : l.find? (nameEq s) = none := List.find?_eq_none.2 fun x hx => by rw [h x hx]; decide
theorem byV_some {s : ByteArray} {pre : List OpC} {x : OpC} (hp : pre ++ [x] <+: opsUpto 256) (hn : NoneYet s pre) (hx : nameEq s x = true) : byV s = .tuple #[opv x.1, .bool true] := by
  obtain ⟨t, ht⟩ := hp
  unfold byV
  rw [← ht, List.find?_append, List.find?_append, hn.find]
  simp [hx]
theorem byV_none {s : ByteArray} (h : NoneYet s (opsUpto 256)) : byV s = .tuple #[opz, .bool false] := by unfold byV; rw [h.find]
theorem byV_parts (s : ByteArray) : ∃ (c : Int) (z : ByteArray) (i j k g : Int) (e ok : Bool), byV s = .tuple #[.agg #[.int .i64 c, .string z, .int .i64 i, .int .i64 j, .int .i64 k, .int .i64 g, .bool e], .bool ok] := by
  unfold byV
  split
  · exact ⟨_, _, _, _, _, _, _, _, rfl⟩
  · exact ⟨_, _, _, _, _, _, _, _, rfl⟩
theorem byName_is (s : ByteArray) (w : World) (hN : Nms w) : Calls Tryd.prog 13 #[.string s] w fun e w' => e = .returned (byV s) ∧ Below w.heap.size w w' := by
  refine (callsIn_wide.1 (byName_in s w hN)).mono ?_
  rintro e w' ⟨hB, ⟨pre, x, hp, hn, hx, rfl⟩ | ⟨hn, rfl⟩⟩
  · exact ⟨by rw [byV_some hp hn hx], hB⟩
  · exact ⟨by rw [byV_none hn], hB⟩
theorem rows7_len : ∀ l : List OpC, (rows7 l).length = l.length * 7
  | [] => rfl
  | x :: l => by rw [rows7, List.flatMap_cons, List.length_append]; have := rows7_len l; unfold rows7 at this; rw [this]; simp [row7]; omega
theorem rows7_at : ∀ (l : List OpC) (k : Nat) (hk : k < l.length) (q : Nat), q < 7 → (rows7 l)[k * 7 + q]? = (row7 l[k])[q]?
  | x :: l, 0, _, q, hq => by
    rw [rows7, List.flatMap_cons, List.getElem?_append_left (by simp [row7]; omega)]
    simp
  | x :: l, k + 1, hk, q, hq => by
    rw [rows7, List.flatMap_cons, List.getElem?_append_right (by simp [row7]; omega)]
    have h := rows7_at l k (by simpa using hk) q hq
    unfold rows7 at h
    rw [show (k + 1) * 7 + q - (row7 x).length = k * 7 + q by (simp [row7]; omega), h]
    rfl
/-- a row's cells at a place -/
def At7 (W : World) (g o : Nat) (c : Int) (s : ByteArray) (i j k t : Int) (e : Bool) : Prop := W.cell? ⟨g, o, none⟩ = some (.int .i64 c) ∧ W.cell? ⟨g, o + 1, none⟩ = some (.string s) ∧ W.cell? ⟨g, o + 2, none⟩ = some (.int .i64 i) ∧ W.cell? ⟨g, o + 3, none⟩ = some (.int .i64 j) ∧ W.cell? ⟨g, o + 4, none⟩ = some (.int .i64 k) ∧ W.cell? ⟨g, o + 5, none⟩ = some (.int .i64 t) ∧ W.cell? ⟨g, o + 6, none⟩ = some (.bool e)
theorem ops_some : 0 < (opsUpto 256).length := by decide +kernel
theorem AllUp.rows {w W : World} {v : Value} (h : AllUp w 256 v W) : ∃ g o cap, w.heap.size ≤ g ∧ v = .slice (some ⟨g, o, none⟩) (opsUpto 256).length cap ∧
    ∀ k (hk : k < (opsUpto 256).length), At7 W g (o + k * 7) ((opsUpto 256)[k].1 : Int) (nameT (opsUpto 256)[k].1) (immT (opsUpto 256)[k].1) (inT (opsUpto 256)[k].1) (outT (opsUpto 256)[k].1) (gasT (opsUpto 256)[k].1) (endsT (opsUpto 256)[k].1) := by
  obtain ⟨hO, hB⟩ := h
  have h1 := ops_some
  generalize opsUpto 256 = L at hO h1
  have hO' := hO
  obtain ⟨_, ⟨_, h0⟩ | ⟨g, cap, cur, rfl, hb, _⟩⟩ := hO'
  · omega
  · refine ⟨g, 0, cap, hb, rfl, fun k hk => ?_⟩
    have A : ∀ q, q < 7 → W.cell? ⟨g, 0 + k * 7 + q, none⟩ = (row7 L[k])[q]? := fun q hq => by
      rw [Nat.zero_add, hO.cellAt (k * 7 + q) (by omega), rows7_at L k hk q hq]
    exact ⟨A 0 (by omega), A 1 (by omega), A 2 (by omega), A 3 (by omega), A 4 (by omega), A 5 (by omega), A 6 (by omega)⟩
theorem NoneYet.take_next {s : ByteArray} {l : List OpC} {k : Nat} (hk : k < l.length) (h : NoneYet s (l.take k)) (hx : nameEq s l[k] = false) : NoneYet s (l.take (k + 1)) := by
  rw [List.take_add_one, List.getElem?_eq_getElem hk]
  exact h.snoc hx
theorem take_prefix {l : List OpC} {k : Nat} (hk : k < l.length) : l.take k ++ [l[k]] <+: l := by
  have : l.take k ++ [l[k]] = l.take (k + 1) := by rw [List.take_add_one, List.getElem?_eq_getElem hk]; rfl
  rw [this]; exact List.take_prefix _ _
set_option maxHeartbeats 2000000 in
set_option maxRecDepth 100000 in
theorem rbyName_is (s : ByteArray) (w : World) : Calls Tryd.prog 12 #[.string s] w fun e w' => e = .returned (byV s) ∧ Below w.heap.size w w' := by
  have RA : Hid (∀ W : World, Calls Tryd.prog 14 #[] W fun e w' => ∃ v, e = .returned v ∧ AllUp W 256 v w') := rall_is
  have hl := opsUpto_len 256
  have O0 : Hid (Op7f (w.alloc (.cells #[.int .i64 0, .string ⟨#[]⟩, .int .i64 0, .int .i64 0, .int .i64 0, .int .i64 0, .bool false] 24)) w.heap.size 0 ⟨#[]⟩ 0 0 0 0 false) := Op7f.new w 0 ⟨#[]⟩ 0 0 0 0 false
  have B0 : Hid (Below w.heap.size w (w.alloc (.cells #[.int .i64 0, .string ⟨#[]⟩, .int .i64 0, .int .i64 0, .int .i64 0, .int .i64 0, .bool false] 24))) := (Below.refl _ w).alloc (Nat.le_refl _) _
  have SZ : Hid (w.heap.size < (w.alloc (.cells #[.int .i64 0, .string ⟨#[]⟩, .int .i64 0, .int .i64 0, .int .i64 0, .int .i64 0, .bool false] 24)).heap.size) := by unfold Hid; simp
  go_enter Tryd.func12, Tryd.ntmps12
  go_upto_region 2 with (go_at_call 14; refine (RA.out _).mono ?_; rintro e w1 ⟨v, rfl, hA⟩; (have B1 : Hid (Below w.heap.size w w1) := B0.out.trans (hA.2.mono B0.out.size)); (have O1 : Hid (Op7f w1 w.heap.size 0 ⟨#[]⟩ 0 0 0 0 false) := op7f_own (β := Unit) _ _ _ _ _ _ _ _ () _ _ none O0.out (grown_of_below hA.2) (fun r e => by cases e)); (obtain ⟨g, o, cap, hg, rfl, hc⟩ := hA.rows); (have GN : Hid (w.heap.size < g) := Nat.lt_of_lt_of_le SZ.out hg); (have HC : Hid _ := hc); clear hc hg hA O0 B0 SZ RA)
  generalize hL : opsUpto 256 = L at *
  have nI : (L.length : Int) ≤ 256 := by omega
  go_wp2
  go_loopw [5] (fun s5 wx => ∃ k : Nat, k ≤ L.length ∧ s5 = .int .i64 (k : Int) ∧ wx = w1 ∧ NoneYet s (L.take k)) (fun s5 _ => L.length - (intOf s5).toNat)
  case atStart => exact ⟨0, by omega, rfl, rfl, fun y hy => by cases hy⟩
  case round =>
    obtain ⟨k, hk, rfl, rfl, hY⟩ := hrel
    have HY : Hid (NoneYet s (L.take k)) := hY
    clear hY
    by_cases hkk : k < L.length
    · have kI : (k : Int) < (L.length : Int) := by omega
      obtain ⟨c0, c1, c2, c3, c4, c5, c6⟩ := HC.out k hkk
      have HX : Hid (opv L[k].1 = .agg #[.int .i64 (L[k].1 : Int), .string (nameT L[k].1), .int .i64 (immT L[k].1), .int .i64 (inT L[k].1), .int .i64 (outT L[k].1), .int .i64 (gasT L[k].1), .bool (endsT L[k].1)]) := rfl
      cases hm : nameEq s L[k] with
      | false =>
        have hm2 : ((nameT L[k].1).toList == s.toList) = false := hm
        have N1 : Hid (NoneYet s (L.take (k + 1))) := NoneYet.take_next hkk HY.out hm
        clear hm HC HX
        generalize nameT L[k].1 = z at *
        go_wp2
        go_roundw
        case rel => exact ⟨k + 1, by omega, by go_num, (by first | trivial | rfl), N1.out⟩
        case measure => first | go_num | (show _ < _; simp [intOf]; omega)
      | true =>
        have hm2 : ((nameT L[k].1).toList == s.toList) = true := hm
        have N1 : Hid (byV s = .tuple #[opv L[k].1, .bool true]) := by subst hL; exact byV_some (take_prefix hkk) HY.out hm
        unfold Hid at N1
        rw [HX.out] at N1
        have N2 : Hid (byV s = _) := N1
        clear N1 HX HC HY hm
        obtain ⟨⟨d0, d1, d2, d3, d4, d5, d6⟩, f0, f1, f2, f3, f4, f5, f6⟩ := O1.out
        generalize nameT L[k].1 = z at *
        generalize immT L[k].1 = i1 at *
        generalize inT L[k].1 = i2 at *
        generalize outT L[k].1 = i3 at *
        generalize gasT L[k].1 = i4 at *
        generalize endsT L[k].1 = b5 at *
        generalize (L[k].1 : Int) = ci at *
        have gn := GN.out
        go_wp2
        refine ⟨rfl, .tuple #[.agg #[.int .i64 ci, .string z, .int .i64 i1, .int .i64 i2, .int .i64 i3, .int .i64 i4, .bool b5], .bool true], (results_cell_tmp rfl _ _ _).trans ?_, ?_⟩
        rotate_left
        · refine ⟨by rw [N2.out], ?_⟩
          repeat' (first | with_reducible exact B1.out | with_reducible refine Below.setCell ?_ ?_ _ | (simp; done) | (simp; omega))
        · go_simp
    · obtain rfl : k = L.length := by omega
      have N1 : Hid (byV s = .tuple #[opz, .bool false]) := by have := HY.out; rw [List.take_length] at this; subst hL; exact byV_none this
      obtain ⟨⟨d0, d1, d2, d3, d4, d5, d6⟩, f0, f1, f2, f3, f4, f5, f6⟩ := O1.out
      clear HC HY
      go_wp2
      refine ⟨rfl, .tuple #[.agg #[.int .i64 0, .string ⟨#[]⟩, .int .i64 0, .int .i64 0, .int .i64 0, .int .i64 0, .bool false], .bool false], (results_cell_tmp rfl _ _ _).trans ?_, ?_⟩
      rotate_left
      · refine ⟨by rw [N1.out]; rfl, ?_⟩
        repeat' (first | with_reducible exact B1.out | with_reducible refine Below.setCell ?_ ?_ _ | (simp; done) | (simp; omega))
      · go_simp
end Go.Proofs.YtipdaiacapjfnaaDoor
