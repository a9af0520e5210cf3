/- Lists of numbers; package container: lengths, behind, writeLengths, writePieces. -/
import Derived.Test.YtndhabhlajldeaaBkf
namespace Go.Proofs.Ytndhabhlajldeaa
open Go.RowKit
/-- the first k stand, zeros behind them -/
def fill (l : List Value) (z : Value) (k : Nat) : List Value := l.take k ++ List.replicate (l.length - k) z
theorem fill_zero (l : List Value) (z : Value) : fill l z 0 = List.replicate l.length z := by simp [fill]
theorem fill_all (l : List Value) (z : Value) : fill l z l.length = l := by simp [fill]
theorem fill_len (l : List Value) (z : Value) (k : Nat) (h : k ≤ l.length) : (fill l z k).length = l.length := by simp [fill]; omega
theorem fill_set {l : List Value} {z x : Value} {k : Nat} (h : l[k]? = some x) : (fill l z k).set k x = fill l z (k + 1) := by
  have hk : k < l.length := (List.getElem?_eq_some_iff.1 h).1
  unfold fill
  rw [take_snoc h, List.set_append_right _ _ (by simp; omega), show l.length - k = (l.length - (k + 1)) + 1 by omega, List.replicate_succ, List.length_take, show k - min k l.length = 0 by omega, List.set_cons_zero, List.append_assoc]
  rfl
theorem fill_at {l : List Value} {z : Value} {k : Nat} (h : k < l.length) : (fill l z k)[k]? = some z := by
  unfold fill
  rw [List.getElem?_append_right (by simp; omega), List.length_take, show k - min k l.length = 0 by omega, List.getElem?_replicate, if_pos (by omega)]
theorem made_rep (c : Array Value) (z : Value) (n : Nat) (hc : ∀ i, i < c.size → c[i]? = some z) (h0 : 0 < c.size) : madeCells c n = (List.replicate n z).toArray := by
  apply Array.ext'
  unfold madeCells
  apply List.ext_getElem?
  intro i
  by_cases hi : i < n
  · rw [List.toList_toArray, List.getElem?_replicate, if_pos hi]
    have := hc (i % c.size) (Nat.mod_lt _ h0)
    simp [hi]
    rw [getElem!_def, this]
  · rw [List.toList_toArray, List.getElem?_replicate, if_neg hi]
    simp [hi]
theorem one_cell {z : Value} {c : Array Value} (hc : c = #[z]) (i : Nat) (hi : i < c.size) : c[i]? = some z := by
  subst hc
  have : i = 0 := by simpa using hi
  subst this
  rfl
theorem make_n (t e : TypeId) (zv z : Value) (size bytes : Nat) (ht : Try.prog.underlying t = some (.slice e)) (hi : (Try.prog.info? e).map (fun i => (i.zero, i.size, i.bytes)) = some (some zv, size, bytes)) (hz : ∀ i, i < zv.cells.size → zv.cells[i]? = some z) (h0 : 0 < zv.cells.size) (k : IntKind) (W : World) (M : Nat) (hM : bytes * M ≤ 140737488355328) (hM2 : M ≤ 1152921504606846976) :
    ∃ W1, Sem.run Try.prog (Instr.makeSlice t (.int k (M : Int)) (.int k (M : Int))) W = .ok (.slice (some ⟨W.heap.size, 0, none⟩) M M) W1 ∧ CBox W1 W.heap.size e (List.replicate (M * size) z) ∧ Below W.heap.size W W1 ∧ W1.heap.size = W.heap.size + 1 := by
  obtain ⟨i0, hi0, hz0, hz1, hz2⟩ := info_parts hi
  have hq : (i0.bytes : Int) * (M : Int) ≤ 281474976710656 := by
    rw [hz2, ← Int.natCast_mul]
    omega
  have h := run_make (P := Try.prog) W t e i0 zv ht hi0 hz0 k k (M : Int) (M : Int) (by omega) (Int.le_refl _) hq (by omega)
  rw [made_rep zv.cells z _ hz h0, hz1, Int.toNat_natCast] at h
  exact ⟨_, h, CBox.new W e _, below_alloc _ _, by simp⟩
/-- numbers of 64 bits as cells -/
def uV (l : List Nat) : List Value := l.map fun x : Nat => Value.int .u64 (x : Int)
theorem uV_len (l : List Nat) : (uV l).length = l.length := by simp [uV]
theorem uV_get {l : List Nat} {i x : Nat} (h : l[i]? = some x) : (uV l)[i]? = some (.int .u64 (x : Int)) := by simp [uV, h]
/-- a list of numbers that nobody writes -/
def UL (W : World) (v : Value) (l : List Nat) : Prop := (v = .slice none 0 0 ∧ l = []) ∨ ∃ g, v = .slice (some ⟨g, 0, none⟩) l.length l.length ∧ CBox W g 73 (uV l)
theorem UL.past {W W' : World} {v : Value} {l : List Nat} (h : UL W v l) (k : Below W.heap.size W W') : UL W' v l := by
  rcases h with h | ⟨g, e, h⟩
  · exact Or.inl h
  · exact Or.inr ⟨g, e, h.past k⟩
theorem UL.app {B s n n' : Nat} {W W' : World} {u v v' : Value} {l : List Nat} {cs cs' : List Value} (h : UL W u l) (k : App B 5 s W W' v v' n cs) (hv : W.ownsRow B 5 s v n' cs') : UL W' u l := by
  rcases h with h | ⟨g, e, h⟩
  · exact Or.inl h
  · refine Or.inr ⟨g, e, h.but k.but fun hg => ?_⟩
    rcases hv.2 with ⟨rfl, _⟩ | ⟨g', c, cur, rfl, _, hh, _⟩
    · cases hg
    · injection hg with hg
      subst hg
      rw [show W.heap[g']? = _ from h] at hh
      cases hh
theorem UL.len {W : World} {v : Value} {l : List Nat} (h : UL W v l) : ∃ ad, v = .slice ad l.length l.length := by
  rcases h with ⟨rfl, rfl⟩ | ⟨g, rfl, h⟩
  · exact ⟨none, rfl⟩
  · exact ⟨_, rfl⟩
theorem UL.get {W : World} {ad : Option Addr} {n c : Nat} {l : List Nat} (h : UL W (.slice ad n c) l) {i x : Nat} (hi : l[i]? = some x) : ∃ g, ad = some ⟨g, 0, none⟩ ∧ W.cell? ⟨g, i, none⟩ = some (.int .u64 (x : Int)) := by
  rcases h with ⟨_, rfl⟩ | ⟨g, e, h⟩
  · cases hi
  · injection e with e1 _ _
    exact ⟨g, e1, by rw [h.cell]; exact uV_get hi⟩
theorem lns_get {ll : List (List Nat)} {i : Nat} {l : List Nat} (h : ll[i]? = some l) : (lns ll)[i]? = some l.length := by simp [lns, h]
set_option maxHeartbeats 4000000 in
set_option maxRecDepth 100000 in
theorem lengths_is {P : Nat → Prop} (w : World) (v : Value) (ll : List (List Nat)) (h : PL P w v ll) (hl : ll.length ≤ 16777216) : Calls Try.prog 103 #[v] w fun e w' => ∃ v', e = .returned v' ∧ UL w' v' (lns ll) ∧ Below w.heap.size w w' := by
  obtain ⟨ad, cap, rfl, hc0, hc1⟩ := h.len
  have HP : Hid (PL P w (.slice ad ll.length cap) ll) := h
  have HE : Hid ((uV (lns ll)).length = ll.length) := by unfold Hid; rw [uV_len]; simp [lns]
  obtain ⟨W1, hmk, hcb, hB1, hsz⟩ := make_n 82 73 (.int .u64 0) (.int .u64 0) 1 8 Try.underlying82 Try.infoU (one_cell rfl) (by simp [Value.cells]) .i64 w ll.length (by omega) (by omega)
  have C0 : Hid (CBox W1 w.heap.size 73 (fill (uV (lns ll)) (.int .u64 0) 0) ∧ Below w.heap.size w W1) := ⟨by rw [fill_zero, HE.out]; rw [Nat.mul_one] at hcb; exact hcb, hB1⟩
  have nI : (ll.length : Int) ≤ 16777216 := by omega
  generalize hn : ll.length = n at *
  have HN : Hid (ll.length = n) := hn
  clear h hc0 hc1 hn hcb hB1 hl hsz
  go_enter Try.func103, Try.ntmps103
  go_upto_region 2 with fail
  generalize hbx : w.heap.size = g at *
  have HG : Hid (w.heap.size = g) := hbx
  clear hbx hmk
  go_wp2
  go_loopw [11] (fun s11 wr => ∃ k : Nat, s11 = .int .i64 (k : Int) ∧ k ≤ n ∧ CBox wr g 73 (fill (uV (lns ll)) (.int .u64 0) k) ∧ Below g w wr) (fun s11 _ => n - (intOf s11).toNat)
  case atStart => exact ⟨0, rfl, by omega, C0.out⟩
  case round =>
    obtain ⟨k, rfl, hk, hC, hB⟩ := hrel
    have HC : Hid (CBox wr g 73 (fill (uV (lns ll)) (.int .u64 0) k) ∧ Below g w wr) := ⟨hC, hB⟩
    clear hC hB C0
    by_cases e : k = n
    · subst e
      have E0 : Hid (CBox wr g 73 (uV (lns ll))) := by have := HC.out.1; rwa [← HE.out, fill_all] at this
      go_wp2
      go_ret
      exact ⟨_, rfl, Or.inr ⟨g, by rw [show (lns ll).length = k by have := HE.out; rwa [uV_len] at this]; rfl, E0.out⟩, by rw [HG.out]; exact HC.out.2⟩
    · have kn : k < n := by omega
      have knI : (k : Int) < (n : Int) := by omega
      obtain ⟨l, hl⟩ : ∃ l, ll[k]? = some l := ⟨ll[k]'(by have := HN.out; omega), List.getElem?_eq_getElem _⟩
      obtain ⟨g2, a2, u, rfl, hcell, hb⟩ := HP.out.get hl
      obtain ⟨ad2, cap2, rfl, _, hl1⟩ := hb.len
      have hc2 := (HC.out.2.cell (p := ⟨g2, a2 + k, none⟩) (by have := World.block_lt_of_cell? w _ hcell; rw [HG.out] at this; exact this)).trans hcell
      have HX : Hid ((uV (lns ll))[k]? = some (.int .u64 (l.length : Int))) := uV_get (lns_get hl)
      have mI : (l.length : Int) ≤ 1152921504606846976 := by omega
      have z1 : wr.cell? ⟨g, k, none⟩ = some (.int .u64 0) := by rw [HC.out.1.cell]; exact fill_at (by rw [HE.out]; exact kn)
      have z2 : wr.frozen? ⟨g, k, none⟩ = false := HC.out.1.frozen k
      clear hl hb hl1 hcell
      generalize l.length = q at *
      have wq : IntKind.u64.wrap (q : Int) = (q : Int) := by rw [IntKind.wrap_u64]; omega
      have HR : Hid (CBox (wr.setCell ⟨g, k, none⟩ (.int .u64 (q : Int))) g 73 (fill (uV (lns ll)) (.int .u64 0) (k + 1)) ∧ Below g w (wr.setCell ⟨g, k, none⟩ (.int .u64 (q : Int)))) := ⟨by rw [← fill_set HX.out]; exact HC.out.1.set k _, HC.out.2.setCell (Nat.le_refl _) _⟩
      go_wp2
      go_roundw
      case rel => exact ⟨k + 1, by first | rfl | go_num, by omega, HR.out⟩
      case measure => simp [intOf]; omega
theorem sumL_cons_aux : ∀ (l : List Nat) (a : Nat), l.foldl (· + ·) a = a + sumL l
  | [], a => by simp [sumL]
  | x :: l, a => by
    show l.foldl (· + ·) (a + x) = a + l.foldl (· + ·) (0 + x)
    rw [sumL_cons_aux l (a + x), sumL_cons_aux l (0 + x)]; omega
theorem sumL_cons (x : Nat) (l : List Nat) : sumL (x :: l) = x + sumL l := by
  show l.foldl (· + ·) (0 + x) = _
  rw [sumL_cons_aux]; omega
theorem sumL_take {l : List Nat} {k x : Nat} (h : l[k]? = some x) : sumL (l.take (k + 1)) = sumL (l.take k) + x := by
  rw [take_snoc h]
  show (l.take k ++ [x]).foldl (· + ·) 0 = _
  rw [List.foldl_append]; rfl
theorem sumL_le : ∀ (l : List Nat) (k : Nat), sumL (l.take k) ≤ sumL l
  | [], k => by simp
  | x :: l, 0 => by simp [sumL]
  | x :: l, k + 1 => by rw [List.take_succ_cons, sumL_cons, sumL_cons]; have := sumL_le l k; omega
set_option maxHeartbeats 4000000 in
set_option maxRecDepth 100000 in
theorem behind_is (w : World) (cv sv : Value) (cs ss : List Nat) (d : Nat) (hc : UL w cv cs) (hs : UL w sv ss) (hb : 4 * cs.length + sumL cs + sumL ss < 9223372036854775808) (hl : cs.length ≤ 1152921504606846976 ∧ ss.length ≤ 1152921504606846976) :
    Calls Try.prog 81 #[.agg #[cv, sv, .int .u64 (d : Int)]] w fun e w' => e = .returned (.int .u64 ((4 * cs.length + sumL cs + sumL ss : Nat) : Int)) ∧ Below w.heap.size w w' := by
  obtain ⟨ca, rfl⟩ := hc.len
  obtain ⟨sa, rfl⟩ := hs.len
  have B0 : Hid (Below w.heap.size w (w.alloc (.cells #[.slice ca cs.length cs.length, .slice sa ss.length ss.length, .int .u64 (d : Int)] 84)) ∧ CBox (w.alloc (.cells #[.slice ca cs.length cs.length, .slice sa ss.length ss.length, .int .u64 (d : Int)] 84)) w.heap.size 84 [.slice ca cs.length cs.length, .slice sa ss.length ss.length, .int .u64 (d : Int)]) := ⟨below_alloc _ _, CBox.new _ _ [_, _, _]⟩
  have HC : Hid (UL (w.alloc (.cells #[.slice ca cs.length cs.length, .slice sa ss.length ss.length, .int .u64 (d : Int)] 84)) (.slice ca cs.length cs.length) cs) := hc.past (below_alloc _ _)
  have HS : Hid (UL (w.alloc (.cells #[.slice ca cs.length cs.length, .slice sa ss.length ss.length, .int .u64 (d : Int)] 84)) (.slice sa ss.length ss.length) ss) := hs.past (below_alloc _ _)
  have HL : Hid (4 * cs.length + sumL cs + sumL ss < 9223372036854775808) := hb
  obtain ⟨hl1, hl2⟩ := hl
  generalize hn : cs.length = n at *
  generalize hm : ss.length = m at *
  have EN : Hid (cs.length = n ∧ ss.length = m) := ⟨hn, hm⟩
  have nI : (n : Int) ≤ 1152921504606846976 := by omega
  have mI : (m : Int) ≤ 1152921504606846976 := by omega
  clear hc hs hn hm hb hl1 hl2
  go_enter Try.func81, Try.ntmps81
  go_upto_region 1 with fail
  generalize w.alloc _ = W0 at B0 HC HS ⊢
  generalize hbx : w.heap.size = bx at B0 ⊢
  have HG : Hid (w.heap.size = bx) := hbx
  have B1 : Hid (Below bx w W0) := B0.out.1
  have c0 : W0.cell? ⟨bx, 0, none⟩ = some (.slice ca n n) := B0.out.2.cell 0
  have c1 : W0.cell? ⟨bx, 1, none⟩ = some (.slice sa m m) := B0.out.2.cell 1
  clear B0 hbx
  obtain ⟨q, hq⟩ : ∃ q : Nat, q = 4 * n := ⟨_, rfl⟩
  have r1 : (4 : Int) * (n : Int) = (q : Int) := by omega
  have wn : IntKind.u64.wrap (n : Int) = (n : Int) := by rw [IntKind.wrap_u64]; omega
  have wq : IntKind.u64.wrap (q : Int) = (q : Int) := by rw [IntKind.wrap_u64]; have := HL.out; omega
  have HQ : Hid (q = 4 * n) := hq
  clear hq
  go_wp2
  go_loopw [3, 16] (fun s3 s16 wr => ∃ k : Nat, s16 = .int .i64 (k : Int) ∧ k ≤ n ∧ s3 = .int .u64 ((q + sumL (cs.take k) : Nat) : Int) ∧ wr = W0) (fun _ s16 _ => n - (intOf s16).toNat)
  case atStart => exact ⟨0, rfl, by omega, by simp [sumL], rfl⟩
  case round =>
    obtain ⟨k, rfl, hk, rfl, rfl⟩ := hrel
    by_cases e : k = n
    · subst e
      have EQ : Hid (q + sumL (cs.take k) = q + sumL cs) := by unfold Hid; rw [List.take_of_length_le (by have := EN.out.1; omega)]
      rw [EQ.out]
      go_wp2
      go_loopw [3, 27] (fun s3 s27 wq => ∃ j : Nat, s27 = .int .i64 (j : Int) ∧ j ≤ m ∧ s3 = .int .u64 ((q + sumL cs + sumL (ss.take j) : Nat) : Int) ∧ wq = wr) (fun _ s27 _ => m - (intOf s27).toNat)
      case atStart => exact ⟨0, rfl, by omega, by simp [sumL], rfl⟩
      case round =>
        rename_i wr0
        obtain ⟨j, rfl, hj, rfl, hw⟩ := hrel
        subst hw
        by_cases e : j = m
        · subst e
          have EQ2 : Hid (q + sumL cs + sumL (ss.take j) = 4 * k + sumL cs + sumL ss) := by unfold Hid; rw [List.take_of_length_le (by have := EN.out.2; omega), HQ.out]
          rw [EQ2.out]
          go_wp2
          go_ret
          exact ⟨rfl, by rw [HG.out]; exact B1.out⟩
        · have jm : (j : Int) < (m : Int) := by omega
          obtain ⟨x, hx⟩ : ∃ x, ss[j]? = some x := ⟨ss[j]'(by have := EN.out.2; omega), List.getElem?_eq_getElem _⟩
          obtain ⟨g, rfl, hcell⟩ := HS.out.get hx
          obtain ⟨y, hy⟩ : ∃ y : Nat, y = q + sumL cs + sumL (ss.take j) := ⟨_, rfl⟩
          have HY : Hid (y + x = q + sumL cs + sumL (ss.take (j + 1))) := by unfold Hid; rw [sumL_take hx, hy]; omega
          rw [← hy]
          obtain ⟨y2, hy2⟩ : ∃ y2 : Nat, y2 = y + x := ⟨_, rfl⟩
          have r2 : (y : Int) + (x : Int) = (y2 : Int) := by omega
          have wy : IntKind.u64.wrap (y2 : Int) = (y2 : Int) := by rw [IntKind.wrap_u64]; have h1 := HL.out; have h2 := HQ.out; have h3 := HY.out; have h4 := sumL_le ss (j + 1); omega
          have HZ : Hid (y2 = q + sumL cs + sumL (ss.take (j + 1))) := by unfold Hid; rw [hy2]; exact HY.out
          clear hy hx hy2
          go_wp2
          go_roundw
          case rel => exact ⟨j + 1, by first | rfl | go_num, by omega, by rw [HZ.out], by first | rfl | trivial⟩
          case measure => simp [intOf]; omega
    · have kn : (k : Int) < (n : Int) := by omega
      obtain ⟨x, hx⟩ : ∃ x, cs[k]? = some x := ⟨cs[k]'(by have := EN.out.1; omega), List.getElem?_eq_getElem _⟩
      obtain ⟨g, rfl, hcell⟩ := HC.out.get hx
      obtain ⟨y, hy⟩ : ∃ y : Nat, y = q + sumL (cs.take k) := ⟨_, rfl⟩
      have HY : Hid (y + x = q + sumL (cs.take (k + 1))) := by unfold Hid; rw [sumL_take hx, hy]; omega
      rw [← hy]
      obtain ⟨y2, hy2⟩ : ∃ y2 : Nat, y2 = y + x := ⟨_, rfl⟩
      have r2 : (y : Int) + (x : Int) = (y2 : Int) := by omega
      have wy : IntKind.u64.wrap (y2 : Int) = (y2 : Int) := by rw [IntKind.wrap_u64]; have h1 := HL.out; have h2 := HQ.out; have h3 := HY.out; have h4 := sumL_le cs (k + 1); omega
      have HZ : Hid (y2 = q + sumL (cs.take (k + 1))) := by unfold Hid; rw [hy2]; exact HY.out
      clear hy hx hy2
      go_wp2
      go_roundw
      case rel => exact ⟨k + 1, by first | rfl | go_num, by omega, by rw [HZ.out], by first | rfl | trivial⟩
      case measure => simp [intOf]; omega
end Go.Proofs.Ytndhabhlajldeaa
