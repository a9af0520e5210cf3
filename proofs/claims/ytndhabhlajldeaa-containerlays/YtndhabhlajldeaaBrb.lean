/- The document's containers: number, at, sum, lengths; lists of ints. -/
import Derived.Test.YtndhabhlajldeaaBra
namespace Go.Proofs.Ytndhabhlajldeaa
open Go.RowKit
/-- ints as cells -/
def iV (l : List Nat) : List Value := l.map fun x : Nat => Value.int .i64 (x : Int)
theorem iV_len (l : List Nat) : (iV l).length = l.length := by simp [iV]
theorem iV_app (l m : List Nat) : iV (l ++ m) = iV l ++ iV m := by simp [iV]
theorem iV_one (l : List Nat) : ∀ u ∈ iV l, u.oneCell' = true := fun u hu => by
  obtain ⟨x, _, rfl⟩ := List.mem_map.1 hu
  rfl
/-- a list of ints of one's own -/
def InO (B : Nat) (W : World) (v : Value) (l : List Nat) : Prop := W.ownsRow B 3 1 v l.length (iV l)
theorem InO.past {B : Nat} {W W' : World} {v : Value} {l : List Nat} (h : InO B W v l) (k : Below W.heap.size W W') : InO B W' v l := owns_past h k
theorem InO.nil (B : Nat) (W : World) : InO B W (.slice none 0 0) [] := World.ownsRow_nil _ _ _ _
theorem InO.get {B : Nat} {W : World} {ad : Option Addr} {n c : Nat} {l : List Nat} (h : InO B W (.slice ad n c) l) {i x : Nat} (hi : l[i]? = some x) : ∃ g, ad = some ⟨g, 0, none⟩ ∧ W.cell? ⟨g, i, none⟩ = some (.int .i64 (x : Int)) := by
  have hl : i < l.length := (List.getElem?_eq_some_iff.1 hi).1
  rcases id h.2 with ⟨e, e2⟩ | ⟨g, c', cur, e, hb, hh, hq, _, hz, ht⟩
  · omega
  · injection e with e1 _ _
    subst e1
    refine ⟨g, rfl, ?_⟩
    have := World.ownsRow.cells h (g := g) rfl i (.int .i64 (x : Int)) (by simp [iV, hi])
    simpa [Addr.add_mid] using this
/-- append of one int -/
theorem wpList_appI {w : World} {ops : Array Oper} {rest : List Oper} {o : Oper} {a : Act} {Q : Exit → Act → World → Prop} (hgd : o.guard = none) (s x : Operand)
    (ho : o.op = .call { callee := .builtin .append, args := #[s, x], argTypes := #[45, 45] }) (B : Nat) (hB : B ≤ w.heap.size) (v : Value) (l : List Nat) (hs : a.eval s = v) (hown : InO B w v l)
    (y : Nat) (hx : a.eval x = .slice (some ⟨w.heap.size, 0, none⟩) 1 1) (hn : l.length + 1 ≤ 2199023255552)
    (h : ∀ v' w', App B 3 1 w w' v v' (l ++ [y]).length (iV (l ++ [y])) → wpList Try.prog ops Q rest (a.put o.dst v') w') : wpList Try.prog ops Q (o :: rest) a (w.alloc (.cells #[.int .i64 (y : Int)] 3)) :=
  wpList_plain hgd fun _ hK => by
    obtain ⟨ad, cap, rfl⟩ := owns_sl hown
    refine wp_apps s x 45 3 ho (.int .i64 0) 1 8 Try.underlying45 Try.infoI rfl (by omega) (by omega) B (Nat.le_trans hB (below_alloc _ _).size) ad l.length cap (iV l) hs (owns_past hown (below_alloc _ _)) ⟨w.heap.size, 0, none⟩ 1 1 (iV [y]) hx (by rw [iV_len]; rfl) (fun j c hj => ?_) (iV_one [y]) hn (fun ad' cap' w' q1 q2 q3 => hK _ _ (h _ _ ⟨?_, ?_, fun k hk => ?_⟩))
    · have hj0 : j = 0 := by have := (List.getElem?_eq_some_iff.1 hj).1; simpa [iV] using this
      subst hj0
      rw [Addr.add_mid]
      have := (CBox.new w 3 (iV [y])).cell 0
      rw [Nat.zero_add]
      exact this.trans hj
    · rw [List.length_append, iV_app]; exact q1
    · have b1 : But (OwnV (.slice ad l.length cap)) w (w.alloc (.cells #[.int .i64 (y : Int)] 3)) := below_but (below_alloc _ _)
      exact b1.trans (q2.mono fun k hk => own_iff.1 hk)
    · rcases q3.own (own_iff.2 hk) with e | e
      · exact Or.inl (own_iff.1 e)
      · exact Or.inr (Nat.le_trans (below_alloc _ _).size e)
set_option maxHeartbeats 4000000 in
set_option maxRecDepth 100000 in
theorem sum_is {B : Nat} (w : World) (v : Value) (l : List Nat) (h : InO B w v l) (hl : l.length ≤ 1152921504606846976) (hs : sumL l < 4611686018427387904) : Calls Try.prog 70 #[v] w fun e w' => e = .returned (.int .i64 (sumL l : Int)) ∧ w' = w := by
  obtain ⟨ad, cap, rfl⟩ := owns_sl h
  have HI : Hid (InO B w (.slice ad l.length cap) l) := h
  have HS : Hid (sumL l < 4611686018427387904) := hs
  have nI : (l.length : Int) ≤ 1152921504606846976 := by omega
  generalize hn : l.length = n at *
  have HN : Hid (l.length = n) := hn
  clear h hl hs hn
  go_enter Try.func70, Try.ntmps70
  go_wp2
  go_loopw [3, 4] (fun s3 s4 wr => ∃ k : Nat, s4 = .int .i64 (k : Int) ∧ k ≤ n ∧ s3 = .int .i64 (sumL (l.take k) : Int) ∧ wr = w) (fun _ s4 _ => n - (intOf s4).toNat)
  case atStart => exact ⟨0, rfl, by omega, by simp [sumL], rfl⟩
  case round =>
    obtain ⟨k, rfl, hk, rfl, rfl⟩ := hrel
    by_cases e : k = n
    · subst e
      have E0 : Hid (sumL (l.take k) = sumL l) := by unfold Hid; rw [List.take_of_length_le (by have := HN.out; omega)]
      rw [E0.out]
      go_wp2
      go_ret
      exact ⟨rfl, rfl⟩
    · have kn : (k : Int) < (n : Int) := by omega
      obtain ⟨x, hx⟩ : ∃ x, l[k]? = some x := ⟨l[k]'(by have := HN.out; omega), List.getElem?_eq_getElem _⟩
      obtain ⟨g, rfl, hcell⟩ := HI.out.get hx
      obtain ⟨y, hy⟩ : ∃ y : Nat, y = sumL (l.take k) := ⟨_, rfl⟩
      obtain ⟨y2, hy2⟩ : ∃ y2 : Nat, y2 = y + x := ⟨_, rfl⟩
      have HY : Hid (sumL (l.take (k + 1)) = y2) := by unfold Hid; rw [sumL_take hx, hy2, hy]
      rw [← hy]
      have r2 : (y : Int) + (x : Int) = (y2 : Int) := by omega
      have wy : IntKind.i64.wrap (y2 : Int) = (y2 : Int) := by rw [IntKind.wrap_i64]; have h1 := HS.out; have h3 := HY.out; have h4 := sumL_le l (k + 1); omega
      clear hy hx hy2 e
      go_wp2
      go_roundw
      case rel => exact ⟨k + 1, by first | rfl | go_num, by omega, by rw [HY.out], by first | rfl | trivial⟩
      case measure => simp [intOf]; omega
set_option maxHeartbeats 4000000 in
set_option maxRecDepth 100000 in
theorem rlen_is {P : Nat → Prop} (w : World) (v : Value) (ll : List (List Nat)) (h : PL P w v ll) (hl : ll.length ≤ 16777216) : Calls Try.prog 79 #[v] w fun e w' => ∃ v', e = .returned v' ∧ InO w.heap.size w' v' (lns ll) ∧ Below w.heap.size w w' := by
  obtain ⟨ad, cap, rfl, hc0, hc1⟩ := h.len
  have HP : Hid (PL P w (.slice ad ll.length cap) ll) := h
  have nI : (ll.length : Int) ≤ 16777216 := by omega
  generalize hn : ll.length = n at *
  have HN : Hid (ll.length = n ∧ n ≤ 16777216) := ⟨hn, hl⟩
  clear h hc0 hc1 hn hl
  go_enter Try.func79, Try.ntmps79
  go_wp2
  go_loopw [3, 4] (fun s3 s4 wr => ∃ k : Nat, s4 = .int .i64 (k : Int) ∧ k ≤ n ∧ InO w.heap.size wr s3 ((lns ll).take k) ∧ Below w.heap.size w wr) (fun _ s4 _ => n - (intOf s4).toNat)
  case atStart => exact ⟨0, rfl, by omega, InO.nil _ _, Below.refl _ _⟩
  case round =>
    obtain ⟨k, rfl, hk, hI, hB⟩ := hrel
    have HI : Hid (InO w.heap.size wr u3 ((lns ll).take k) ∧ Below w.heap.size w wr) := ⟨hI, hB⟩
    have hsz := hB.size
    have HSZ : Hid (w.heap.size ≤ wr.heap.size) := hsz
    clear hI hB hsz
    by_cases e : k = n
    · subst e
      have E0 : Hid (InO w.heap.size wr u3 (lns ll)) := by have := HI.out.1; rwa [List.take_of_length_le (by rw [lns_len]; have := HN.out; omega)] at this
      go_wp2
      go_ret
      exact ⟨_, rfl, E0.out, HI.out.2⟩
    · have kn : (k : Int) < (n : Int) := by omega
      obtain ⟨l, hl⟩ : ∃ l, ll[k]? = some l := ⟨ll[k]'(by have := HN.out; omega), List.getElem?_eq_getElem _⟩
      obtain ⟨g, a, u, rfl, hcell, hb⟩ := HP.out.get hl
      obtain ⟨ad2, cap2, rfl, _, hl1⟩ := hb.len
      have hc2 := (HI.out.2.cell (p := ⟨g, a + k, none⟩) (World.block_lt_of_cell? w _ hcell)).trans hcell
      have HX : Hid ((lns ll)[k]? = some l.length) := lns_get hl
      have mI : (l.length : Int) ≤ 1152921504606846976 := by omega
      clear hl hb hl1 hcell
      generalize l.length = q at *
      have HLe : Hid (((lns ll).take k).length + 1 ≤ 2199023255552) := by unfold Hid; rw [List.length_take]; have := HN.out; omega
      go_wp2_with (at_builtin; refine wpList_appI rfl _ _ rfl w.heap.size HSZ.out u3 ((lns ll).take k) rfl HI.out.1 q rfl HLe.out ?_; intro v' w' hA)
      have HR : Hid (InO w.heap.size w' v' ((lns ll).take (k + 1)) ∧ Below w.heap.size w w') := ⟨by unfold InO; rw [take_snoc HX.out]; exact hA.row, HI.out.2.trans (hA.below HI.out.1 HSZ.out)⟩
      clear hA HI
      go_roundw
      case rel => exact ⟨k + 1, by first | rfl | go_num, by omega, HR.out⟩
      case measure => simp [intOf]; omega
set_option maxHeartbeats 4000000 in
set_option maxRecDepth 100000 in
theorem at_is {P : Nat → Prop} (w : World) (v : Value) (b : List Nat) (k wd : Nat) (h : BL P w v b) (hb : Byt b) (hw : wd ≤ 4) (hk : k + wd ≤ b.length) (hl : b.length ≤ 1073741824) : Calls Try.prog 72 #[v, .int .i64 (k : Int), .int .i64 (wd : Int)] w fun e w' => e = .returned (.int .i64 (rd b k wd : Int)) ∧ w' = w := by
  obtain ⟨ad, cap, rfl, hc0, hc1⟩ := h.len
  have HP : Hid (BL P w (.slice ad b.length cap) b) := h
  have HB : Hid (Byt ((b.drop k).take wd)) := fun x hx => hb x (List.mem_of_mem_drop (List.mem_of_mem_take hx))
  have HL : Hid (((b.drop k).take wd).length = wd ∧ ∀ i, i < wd → ((b.drop k).take wd)[i]? = b[k + i]?) := ⟨by simp; omega, fun i hi => by rw [List.getElem?_take, if_pos hi, List.getElem?_drop]⟩
  have HRD : Hid (num ((b.drop k).take wd) = rd b k wd) := rfl
  generalize rd b k wd = RR at *
  generalize (b.drop k).take wd = seg at *
  have HK : Hid (k + wd ≤ b.length ∧ b.length ≤ 1073741824 ∧ wd ≤ 4) := ⟨hk, hl, hw⟩
  have wI : (wd : Int) ≤ 4 := by omega
  have kI : (k : Int) ≤ 1073741824 := by omega
  have nI : (b.length : Int) ≤ 1073741824 := by omega
  generalize hn : b.length = n at *
  have HN : Hid (b.length = n) := hn
  clear h hb hw hk hl hc0 hc1 hn
  go_enter Try.func72, Try.ntmps72
  go_wp2
  go_loopw [7, 8] (fun s7 s8 wr => ∃ i : Nat, s8 = .int .i64 (i : Int) ∧ i ≤ wd ∧ s7 = .int .i64 (num (seg.take i) : Int) ∧ wr = w) (fun _ s8 _ => wd - (intOf s8).toNat)
  case atStart => exact ⟨0, rfl, by omega, by simp [num], rfl⟩
  case round =>
    obtain ⟨i, rfl, hi, rfl, rfl⟩ := hrel
    by_cases e : i = wd
    · subst e
      have E0 : Hid (num (seg.take i) = RR) := by unfold Hid; rw [List.take_of_length_le (by have := HL.out.1; omega)]; exact HRD.out
      rw [E0.out]
      go_wp2
      go_ret
      exact ⟨rfl, rfl⟩
    · have iI : (i : Int) < (wd : Int) := by omega
      obtain ⟨x, hx⟩ : ∃ x, seg[i]? = some x := ⟨seg[i]'(by have := HL.out.1; omega), List.getElem?_eq_getElem _⟩
      have hx2 := (HL.out.2 i (by omega)).symm.trans hx
      obtain ⟨g, a, rfl, hcell⟩ := HP.out.get hx2
      have x8 : x < 256 := HB.out x (List.mem_of_getElem? hx)
      obtain ⟨y, hy⟩ : ∃ y : Nat, y = num (seg.take i) := ⟨_, rfl⟩
      obtain ⟨y2, hy2⟩ : ∃ y2 : Nat, y2 = 256 * y + x := ⟨_, rfl⟩
      obtain ⟨y1, hy1⟩ : ∃ y1 : Nat, y1 = 256 * y := ⟨_, rfl⟩
      obtain ⟨t, ht⟩ : ∃ t : Nat, t = k + i := ⟨_, rfl⟩
      rw [← ht] at hcell
      have HY : Hid (num (seg.take (i + 1)) = y2) := by unfold Hid; rw [take_snoc hx, num_snoc, hy2, hy]
      have hlt : y2 < 4294967296 := by
        have h1 := num_le_take seg (i + 1) HB.out
        have h2 : (256 : Nat) ^ (i + 1) ≤ 256 ^ 4 := Nat.pow_le_pow_right (by omega) (by have := HK.out; omega)
        have h3 : (256 : Nat) ^ 4 = 4294967296 := by decide
        have h4 := HY.out
        omega
      rw [← hy]
      have r1 : (256 : Int) * (y : Int) = (y1 : Int) := by omega
      have r2 : (y1 : Int) + (x : Int) = (y2 : Int) := by omega
      have r3 : (k : Int) + (i : Int) = (t : Int) := by omega
      have tn : (t : Int) < (n : Int) := by have := HK.out; omega
      have w1 : IntKind.i64.wrap (y1 : Int) = (y1 : Int) := by rw [IntKind.wrap_i64]; omega
      have w2 : IntKind.i64.wrap (y2 : Int) = (y2 : Int) := by rw [IntKind.wrap_i64]; omega
      have w3 : IntKind.i64.wrap (t : Int) = (t : Int) := by rw [IntKind.wrap_i64]; have := HK.out; omega
      have w4 : IntKind.i64.wrap (x : Int) = (x : Int) := by rw [IntKind.wrap_i64]; omega
      clear hy hx hy2 hy1 hlt e hx2 x8 ht
      go_wp2
      go_roundw
      case rel => exact ⟨i + 1, by first | rfl | go_num, by omega, by rw [HY.out], by first | rfl | trivial⟩
      case measure => simp [intOf]; omega
end Go.Proofs.Ytndhabhlajldeaa
