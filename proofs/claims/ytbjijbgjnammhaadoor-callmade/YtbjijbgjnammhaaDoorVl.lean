/- Bytes behind bytes: appends of pieces and of one byte; the document's 'Padded'. -/
import Derived.Test.YtbjijbgjnammhaaDoorSga
namespace Go.Proofs.YtbjijbgjnammhaaDoor
open Go.RowKit
theorem bytesL_app (l m : List Nat) : bytesL (l ++ m) = bytesL l ++ bytesL m := by simp [bytesL]
theorem append_seg {ops : Array Oper} {rest : List Oper} {o : Oper} {a : Act} {w : World} {Q : Exit → Act → World → Prop} (hgd : o.guard = none) (s x : Operand)
    (ho : o.op = .call { callee := .builtin .append, args := #[s, x], argTypes := #[33, 33] }) (base : Nat) (v : Value) (n : Nat) (xs : List Value) (hs : a.eval s = v) (hown : w.ownsRow base 5 1 v n xs)
    (vx : Value) (l : List Nat) (hx : a.eval x = vx) (hseg : Seg w vx l) (hlen : n + l.length ≤ 1000000000) (hbase : base ≤ w.heap.size)
    (h : ∀ v' w', w'.ownsRow base 5 1 v' (n + l.length) (xs ++ bytesL l) → w.grownBy w' v.ownBlock → wpList Tryd.prog ops Q rest (a.put o.dst v') w') : wpList Tryd.prog ops Q (o :: rest) a w := by
  obtain ⟨i0, hi, hz0, hz1, hz2⟩ := info_parts Tryd.info8
  obtain ⟨ad, cap, rfl, h1, h2, h3, h4⟩ := hseg
  rcases ad with _ | ad
  · obtain rfl := h4 rfl
    have hl0 : l = [] := Classical.byContradiction fun h => by obtain ⟨_, _, h', _⟩ := h3 h; cases h'
    subst hl0
    refine wpList_append_own_none hgd s x 33 ho base 5 i0 1 Tryd.underlying33 hi v n xs hs hown hx ?_
    exact h v w (by simpa [bytesL] using hown) ⟨rfl, rfl, rfl, Nat.le_refl _, fun _ _ _ => rfl⟩
  · refine wpList_append_own w hgd s x 33 ho base 5 i0 (.int .u8 0) 1 1 Tryd.underlying33 hi hz0 hz1 hz2 rfl (by decide) v n xs hs hown ad l.length cap (bytesL l) hx (by rw [bytesL_len]; omega) ?_ (bytesL_one l) (by unfold maxLen; omega) (by omega) hbase (fun v' w' q1 q2 _ => h v' w' q1 q2)
    intro j u hj
    obtain ⟨hj', rfl⟩ := bytesL_at l j u hj
    obtain ⟨sb, so, ha, hby⟩ := h3 (by intro e; rw [e] at hj'; simp at hj')
    obtain rfl := Option.some.inj ha
    rw [Addr.add_mid]
    exact hby j hj'
theorem append_byte {ops : Array Oper} {rest : List Oper} {o : Oper} {a : Act} {w : World} {Q : Exit → Act → World → Prop} (hgd : o.guard = none) (s x : Operand)
    (ho : o.op = .call { callee := .builtin .append, args := #[s, x], argTypes := #[33, 33] }) (base : Nat) (v : Value) (n : Nat) (xs : List Value) (hs : a.eval s = v)
    (y : Int) (hown : w.ownsRow base 5 1 v n xs) (hx : a.eval x = .slice (some ⟨w.heap.size, 0, none⟩) 1 1) (hlen : n + 1 ≤ 1000000000) (hbase : base ≤ w.heap.size)
    (h : ∀ v' w', w'.ownsRow base 5 1 v' (n + 1) (xs ++ [.int .u8 y]) → (w.alloc (.cells #[.int .u8 y] 5)).grownBy w' v.ownBlock → wpList Tryd.prog ops Q rest (a.put o.dst v') w') : wpList Tryd.prog ops Q (o :: rest) a (w.alloc (.cells #[.int .u8 y] 5)) := by
  obtain ⟨i0, hi, hz0, hz1, hz2⟩ := info_parts Tryd.info8
  refine wpList_append_own _ hgd s x 33 ho base 5 i0 (.int .u8 0) 1 1 Tryd.underlying33 hi hz0 hz1 hz2 rfl (by decide) v n xs hs (World.ownsRow.alloc hown _) ⟨w.heap.size, 0, none⟩ 1 1 [.int .u8 y] hx rfl (fun j u hj => by
    have : j = 0 := by have := (List.getElem?_eq_some_iff.1 hj).1; simpa using this
    subst this
    simp at hj
    subst hj
    simp [Addr.add]) (fun u hu => by rw [List.mem_singleton.1 hu]; rfl) (by unfold maxLen; omega) (by omega) (by simp; omega) (fun v' w' q1 q2 _ => h v' w' q1 q2)
theorem step8 {w wr w1 : World} {v : Value} {o : Obj} {B n : Nat} {xs : List Value} (hown : wr.ownsRow B 5 1 v n xs) (hB : Below B w wr) (hs : B ≤ wr.heap.size)
    (hg : (wr.alloc o).grownBy w1 v.ownBlock) : Below B w w1 :=
  Below.grown (hB.alloc hs o) hg (by simp; omega) (fun q h => (hown.lt q h).1)
theorem step8g {w wr w1 : World} {v : Value} {B n : Nat} {xs : List Value} (hown : wr.ownsRow B 5 1 v n xs) (hB : Below B w wr) (hs : B ≤ wr.heap.size)
    (hg : wr.grownBy w1 v.ownBlock) : Below B w w1 :=
  Below.grown hB hg hs (fun q h => (hown.lt q h).1)
def lenS : Value → Nat
  | .slice _ n _ => n
  | _ => 0
/-- bytes, a one, and k zeros -/
def zeL (l : List Nat) (k : Nat) : List Nat := l ++ 1 :: List.replicate k 0
theorem zeL_len (l : List Nat) (k : Nat) : (zeL l k).length = l.length + 1 + k := by simp [zeL]; omega
theorem zeL_snoc (l : List Nat) (k : Nat) : zeL l (k + 1) = zeL l k ++ [0] := by simp [zeL, List.replicate_succ']
theorem zeL_last (l : List Nat) (k : Nat) : (zeL l k).getD (l.length + k) 0 = if k = 0 then 1 else 0 := by
  unfold zeL
  rw [List.getD_eq_getElem?_getD, List.getElem?_append_right (by omega), show l.length + k - l.length = k by omega]
  rcases k with _ | k
  · rfl
  · rw [List.getElem?_cons_succ, List.getElem?_replicate, if_pos (by omega), if_neg (by omega)]; rfl
theorem zeL_pad (l : List Nat) (k : Nat) : (zeL l k).set (l.length + k) (if k = 0 then 129 else 128) = l ++ padL (k + 1) := by
  unfold zeL padL
  rw [List.set_append_right _ _ (by omega), show l.length + k - l.length = k by omega]
  rcases k with _ | k
  · rfl
  · rw [if_neg (by omega), if_neg (by omega), List.set_cons_succ, show k + 1 + 1 - 2 = k by omega]
    congr 2
    rw [List.replicate_succ', List.set_append_right _ _ (by simp), List.length_replicate, Nat.sub_self]; rfl
theorem bytesL_set (l : List Nat) (j x : Nat) : (bytesL l).set j (.int .u8 (x : Int)) = bytesL (l.set j x) := by
  simp [bytesL, List.map_set]
set_option maxHeartbeats 4000000 in
set_option maxRecDepth 100000 in
theorem padded_is (w : World) (v : Value) (l : List Nat) (hseg : Seg w v l) (hn : l.length ≤ 100000000) :
    Calls Tryd.prog 13 #[v] w fun e w' => ∃ v', e = .returned v' ∧ w'.ownsRow w.heap.size 5 1 v' (l ++ padL (136 - l.length % 136)).length (bytesL (l ++ padL (136 - l.length % 136))) ∧ Below w.heap.size w w' := by
  have HS : Hid (Seg w v l) := hseg
  obtain ⟨n, en⟩ : ∃ n, n = l.length := ⟨_, rfl⟩
  have EN : Hid (n = l.length) := en
  have hnn : n ≤ 100000000 := by omega
  have nI : (n : Int) ≤ 100000000 := by omega
  clear hseg hn
  clear en
  go_enter Tryd.func13, Tryd.ntmps13
  go_upto_region 3 with (at_builtin; refine append_seg rfl _ _ rfl w.heap.size _ 0 [] rfl (World.ownsRow_nil _ _ _ _) v l rfl HS.out (by have := EN.out; omega) (Nat.le_refl _) ?_; intro v1 w1 hown' hgrow)
  have HO1 : Hid (w1.ownsRow w.heap.size 5 1 v1 n (bytesL l)) := by unfold Hid; rw [EN.out]; simpa using hown'
  have HB1 : Hid (Below w.heap.size w w1) := Below.grown (Below.refl _ _) hgrow (Nat.le_refl _) (fun k h => by cases h)
  have b1 := HB1.out.size
  clear hown' hgrow HS
  go_wp2_with (at_builtin; refine append_byte rfl _ _ rfl w.heap.size v1 n (bytesL l) rfl 1 HO1.out rfl (by omega) b1 ?_; intro v2 w2 hown' hgrow)
  have HO2 : Hid (w2.ownsRow w.heap.size 5 1 v2 (n + 1 + 0) (bytesL (zeL l 0))) := by
    have e : bytesL (zeL l 0) = bytesL l ++ [.int .u8 1] := by simp [zeL, bytesL]
    unfold Hid; rw [e]; exact hown'
  have HB2 : Hid (Below w.heap.size w w2) := step8 HO1.out HB1.out b1 hgrow
  obtain ⟨M, eM⟩ : ∃ M, M = 135 - n % 136 := ⟨_, rfl⟩
  clear hown' hgrow HO1 HB1 b1
  go_wp2
  go_loopw [3] (fun s wr => ∃ k : Nat, k ≤ M ∧ wr.ownsRow w.heap.size 5 1 s (n + 1 + k) (bytesL (zeL l k)) ∧ Below w.heap.size w wr) (fun s _ => 1000000000 - lenS s)
  case atStart => exact ⟨0, Nat.zero_le _, HO2.out, HB2.out⟩
  case round =>
    clear HO2 HB2
    obtain ⟨k, hk, hown, hB⟩ := hrel
    obtain ⟨T, eT⟩ : ∃ T, T = n + 1 + k := ⟨_, rfl⟩
    rw [← eT] at hown
    obtain ⟨g, c, rfl⟩ : ∃ g c, u3 = .slice (some ⟨g, 0, none⟩) T c := by
      obtain ⟨_, ⟨_, e⟩ | ⟨g, c, cur, rfl, _⟩⟩ := id hown
      · omega
      · exact ⟨g, c, rfl⟩
    obtain ⟨r, er⟩ : ∃ r : Nat, r = T % 136 := ⟨_, rfl⟩
    have t1 : Int.tmod (T : Int) 136 = (r : Int) := by rw [Int.tmod_eq_emod_of_nonneg (by omega)]; omega
    have q1 : IntKind.i64.wrap (r : Int) = (r : Int) := by rw [IntKind.wrap_i64]; omega
    have HOW : Hid (wr.ownsRow w.heap.size 5 1 (.slice (some ⟨g, 0, none⟩) T c) T (bytesL (zeL l k))) := hown
    have HB : Hid (Below w.heap.size w wr) := hB
    have hbs := hB.size
    by_cases hk5 : k < M
    · have rI : ¬ ((r : Int) = 0) := by omega
      have HT : Hid (T + 1 = n + 1 + (k + 1)) := by unfold Hid; omega
      have T1 : T + 1 ≤ 1000000000 := by omega
      clear hown hB er eT
      go_wp2_with (at_builtin; refine append_byte rfl _ _ rfl w.heap.size (.slice (some ⟨g, 0, none⟩) T c) T (bytesL (zeL l k)) rfl 0 HOW.out rfl T1 hbs ?_; intro v3 w3 hown' hgrow)
      have R : Hid (w3.ownsRow w.heap.size 5 1 v3 (n + 1 + (k + 1)) (bytesL (zeL l (k + 1))) ∧ Below w.heap.size w w3) := by
        refine ⟨?_, step8 HOW.out HB.out hbs hgrow⟩
        have e : bytesL (zeL l (k + 1)) = bytesL (zeL l k) ++ [.int .u8 0] := by rw [zeL_snoc, bytesL_app]; rfl
        rw [e, ← HT.out]; exact hown'
      obtain ⟨g3, c3, rfl⟩ : ∃ g3 c3, v3 = .slice (some ⟨g3, 0, none⟩) (T + 1) c3 := by
        obtain ⟨_, ⟨_, e⟩ | ⟨g, c, cur, rfl, _⟩⟩ := id hown'
        · omega
        · exact ⟨g, c, rfl⟩
      clear hown' hgrow HOW HB
      go_wp2
      go_roundw
      case rel => exact ⟨k + 1, by omega, R.out⟩
      case measure =>
        simp [lenS]
        omega
    · obtain rfl : k = M := by omega
      have rI : (r : Int) = 0 := by omega
      obtain ⟨P, eP⟩ : ∃ P, P = l.length + k := ⟨_, rfl⟩
      obtain ⟨y, ey⟩ : ∃ y : Nat, y = if k = 0 then 1 else 0 := ⟨_, rfl⟩
      obtain ⟨z, ez⟩ : ∃ z : Nat, z = if k = 0 then 129 else 128 := ⟨_, rfl⟩
      have hen := EN.out
      have cP : wr.cell? ⟨g, P, none⟩ = some (.int .u8 (y : Int)) := by
        rw [hown.cellAt P (by omega), ey, ← zeL_last l k, ← eP]
        have hlt : P < (zeL l k).length := by rw [zeL_len]; omega
        simp [bytesL, List.getElem?_eq_getElem hlt, List.getD_eq_getElem?_getD]
      have fP := hown.frozenAt P
      have yz : (y : Int) + 128 = (z : Int) := by rw [ey, ez]; split <;> rfl
      have wz : IntKind.u8.wrap (z : Int) = (z : Int) := by
        have : z ≤ 129 := by rw [ez]; split <;> omega
        rw [IntKind.wrap_u8]; omega
      have s1 : (T : Int) - 1 = (P : Int) := by omega
      have w1 : IntKind.i64.wrap (P : Int) = (P : Int) := by rw [IntKind.wrap_i64]; omega
      have PI : (P : Int) < (T : Int) := by omega
      have NX : Hid ((wr.setCell ⟨g, P, none⟩ (.int .u8 (z : Int))).ownsRow w.heap.size 5 1 (.slice (some ⟨g, 0, none⟩) T c) (l ++ padL (136 - l.length % 136)).length (bytesL (l ++ padL (136 - l.length % 136))) ∧ Below w.heap.size w (wr.setCell ⟨g, P, none⟩ (.int .u8 (z : Int)))) := by
        obtain ⟨h1, h2⟩ := hown.stored P (.int .u8 (z : Int))
        have e1 : 136 - l.length % 136 = k + 1 := by omega
        have e2 : (l ++ padL (k + 1)).length = T := by rw [List.length_append, padL_len _ (by omega)]; omega
        refine ⟨?_, Below.grown hB h2 hbs (fun q hq => (hown.lt q hq).1)⟩
        rw [e1, e2]
        have e3 : (bytesL (zeL l k)).set P (.int .u8 (z : Int)) = bytesL (l ++ padL (k + 1)) := by rw [bytesL_set, eP, ez, zeL_pad]
        rw [e3] at h1
        exact h1
      have HR : Hid (r = 0) := by unfold Hid; omega
      clear hown hB ey ez eP HOW HB er eT hen
      rw [rI] at t1
      clear rI q1
      go_wp2
      go_ret
      exact ⟨_, rfl, NX.out⟩
end Go.Proofs.YtbjijbgjnammhaaDoor
