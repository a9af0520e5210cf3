/- Bytes of one's own, to which others are appended; package container: writeNumber, lengths, behind, writeLengths, writePieces. -/
import Derived.Test.YtndhabhlajldeaaMg1
import Derived.Laws.MakeOwn
namespace Go.Proofs.Ytndhabhlajldeaa
open Go.RowKit
def OwnV (v : Value) (k : Nat) : Prop := v.ownBlock = some k
theorem own_iff {ad : Option Addr} {n c k : Nat} : Own ad k ↔ OwnV (.slice ad n c) k := by
  constructor
  · rintro ⟨a, rfl, rfl⟩; rfl
  · intro h
    cases ad with
    | none => cases h
    | some a => injection h with h; exact ⟨a, rfl, h.symm⟩
/-- v' is what has become of v -/
structure App (B : Nat) (t : TypeId) (s : Nat) (W W' : World) (v v' : Value) (n : Nat) (cs : List Value) : Prop where
  row : W'.ownsRow B t s v' n cs
  but : But (OwnV v) W W'
  new : ∀ k, OwnV v' k → OwnV v k ∨ W.heap.size ≤ k
theorem App.refl {B : Nat} {t : TypeId} {s : Nat} {W : World} {v : Value} {n : Nat} {cs : List Value} (h : W.ownsRow B t s v n cs) : App B t s W W v v n cs := ⟨h, But.refl _ _, fun _ h => Or.inl h⟩
theorem App.trans {B : Nat} {t : TypeId} {s : Nat} {W W1 W2 : World} {v v1 v2 : Value} {n n' : Nat} {cs cs' : List Value} (h : App B t s W W1 v v1 n cs) (k : App B t s W1 W2 v1 v2 n' cs') : App B t s W W2 v v2 n' cs' := by
  refine ⟨k.row, ⟨k.but.os.trans h.but.os, k.but.tape.trans h.but.tape, k.but.output.trans h.but.output, Nat.le_trans h.but.size k.but.size, fun i hi hn => ?_⟩, fun i hi => ?_⟩
  · refine (k.but.block i (Nat.lt_of_lt_of_le hi h.but.size) fun e => ?_).trans (h.but.block i hi hn)
    rcases h.new i e with e1 | e1
    · exact hn e1
    · omega
  · rcases k.new i hi with e1 | e1
    · exact h.new i e1
    · exact Or.inr (Nat.le_trans h.but.size e1)
theorem App.below {B : Nat} {t : TypeId} {s : Nat} {W W' : World} {v v' : Value} {n m : Nat} {cs cs' : List Value} (h : App B t s W W' v v' n cs) (hv : W.ownsRow B t s v m cs') (hB : B ≤ W.heap.size) : Below B W W' :=
  h.but.below (fun k e => (hv.lt k e).1) hB
/-- worlds go on (new blocks alone), then something is appended -/
theorem App.past {B : Nat} {t : TypeId} {s : Nat} {W W1 W' : World} {v v' : Value} {n : Nat} {cs : List Value} (h : App B t s W1 W' v v' n cs) (k : Below W.heap.size W W1) : App B t s W W' v v' n cs :=
  ⟨h.row, ⟨h.but.os.trans k.os, h.but.tape.trans k.tape, h.but.output.trans k.output, Nat.le_trans k.size h.but.size, fun i hi hn => (h.but.block i (Nat.lt_of_lt_of_le hi k.size) hn).trans (k.block i hi)⟩, fun i hi => by
    rcases h.new i hi with e | e
    · exact Or.inl e
    · exact Or.inr (Nat.le_trans k.size e)⟩
theorem App.then {B : Nat} {t : TypeId} {s : Nat} {W W1 W' : World} {v v' : Value} {n : Nat} {cs : List Value} (h : App B t s W W1 v v' n cs) (k : Below W1.heap.size W1 W') : App B t s W W' v v' n cs :=
  ⟨owns_row_blockB h.row fun i hi => k.block i (h.row.lt i hi).2, ⟨k.os.trans h.but.os, k.tape.trans h.but.tape, k.output.trans h.but.output, Nat.le_trans h.but.size k.size, fun i hi hn => (k.block i (Nat.lt_of_lt_of_le hi h.but.size)).trans (h.but.block i hi hn)⟩, h.new⟩
theorem owns_past {B : Nat} {t : TypeId} {s : Nat} {W W' : World} {v : Value} {n : Nat} {cs : List Value} (h : W.ownsRow B t s v n cs) (k : Below W.heap.size W W') : W'.ownsRow B t s v n cs := owns_row_blockB h fun i hi => k.block i (h.lt i hi).2
theorem owns_sl {B : Nat} {t : TypeId} {s : Nat} {W : World} {v : Value} {n : Nat} {cs : List Value} (h : W.ownsRow B t s v n cs) : ∃ ad cap, v = .slice ad n cap := by
  rcases h.2 with ⟨rfl, rfl⟩ | ⟨g, c, cur, rfl, _⟩
  · exact ⟨_, _, rfl⟩
  · exact ⟨_, _, rfl⟩
/-- append(v, u...) of bytes -/
theorem wp_appB {P : Nat → Prop} {w : World} {o : Oper} {a : Act} {K : Act → World → Prop} {Q : Exit → Act → World → Prop} (s x : Operand)
    (ho : o.op = .call { callee := .builtin .append, args := #[s, x], argTypes := #[22, 22] }) (B : Nat) (hB : B ≤ w.heap.size) (v : Value) (l : List Nat) (hs : a.eval s = v) (hown : w.ownsRow B 5 1 v l.length (bV l))
    (u : Value) (m : List Nat) (hx : a.eval x = u) (hu : BL P w u m) (hn : l.length + m.length ≤ 2199023255552)
    (h : ∀ v' w', App B 5 1 w w' v v' (l ++ m).length (bV (l ++ m)) → K (a.put o.dst v') w') : o.wp Try.prog a w K Q := by
  obtain ⟨ad, cap, rfl⟩ := owns_sl hown
  obtain ⟨_, ad2, cap2, rfl, h0, h1, hz, h2⟩ := hu
  cases ad2 with
  | none =>
    have e0 : cap2 = 0 := hz rfl
    have e1 : m.length = 0 := by omega
    obtain rfl := List.eq_nil_of_length_eq_zero e1
    subst e0
    have hrun := run_append_owned_none (P := Try.prog) (w := w) B 22 o.type 5 (info_parts Try.info8).choose 1 Try.underlying22 (info_parts Try.info8).choose_spec.1 _ _ _ hown
    unfold Oper.wp
    simp [execOp, ho, resolve, invoke, builtin, hs, hx, hrun, Result.andThen]
    refine h _ _ ?_
    rw [List.append_nil]
    exact App.refl hown
  | some a2 =>
    refine wp_apps s x 22 5 ho (.int .u8 0) 1 1 Try.underlying22 Try.info8 rfl (by omega) (by omega) B hB ad l.length cap (bV l) hs hown a2 m.length cap2 (bV m) hx (by rw [bV_len]; omega) (fun j c hj => ?_) (bV_one m) hn (fun ad' cap' w' q1 q2 q3 => h _ _ ⟨?_, ?_, fun k hk => ?_⟩)
    · have hm : 0 < m.length := by have := (List.getElem?_eq_some_iff.1 hj).1; rw [bV_len] at this; omega
      obtain ⟨g, b, e, _, _, h3⟩ := h2 hm
      injection e with e
      subst e
      rw [Addr.add_mid]
      exact h3 j c hj
    · rw [List.length_append, bV_app]; exact q1
    · exact q2.mono fun k hk => own_iff.1 hk
    · rcases q3.own (own_iff.2 hk) with e | e
      · exact Or.inl (own_iff.1 e)
      · exact Or.inr e
theorem wpList_appB {P : Nat → Prop} {w : World} {ops : Array Oper} {rest : List Oper} {o : Oper} {a : Act} {Q : Exit → Act → World → Prop} (hgd : o.guard = none) (s x : Operand)
    (ho : o.op = .call { callee := .builtin .append, args := #[s, x], argTypes := #[22, 22] }) (B : Nat) (hB : B ≤ w.heap.size) (v : Value) (l : List Nat) (hs : a.eval s = v) (hown : w.ownsRow B 5 1 v l.length (bV l))
    (u : Value) (m : List Nat) (hx : a.eval x = u) (hu : BL P w u m) (hn : l.length + m.length ≤ 2199023255552)
    (h : ∀ v' w', App B 5 1 w w' v v' (l ++ m).length (bV (l ++ m)) → wpList Try.prog ops Q rest (a.put o.dst v') w') : wpList Try.prog ops Q (o :: rest) a w :=
  wpList_plain hgd fun _ hK => wp_appB s x ho B hB v l hs hown u m hx hu hn fun v' w' q => hK _ _ (h v' w' q)
/-- a literal row of bytes in a new block -/
theorem BL.new (W : World) (l : List Nat) (hl : l.length ≤ 1152921504606846976) : BL (fun k => k = W.heap.size) (W.alloc (.cells (bV l).toArray 5)) (.slice (some ⟨W.heap.size, 0, none⟩) l.length l.length) l :=
  SL.box (CBox.new W 5 (bV l)) (by rw [bV_len]; omega) hl rfl
theorem dig_get : ∀ (w n i : Nat), i < w → (dig w n)[i]? = some (n / 256 ^ (w - 1 - i) % 256)
  | 0, n, i, h => by omega
  | w + 1, n, i, h => by
    rw [dig]
    by_cases e : i < w
    · rw [List.getElem?_append_left (by rw [dig_len]; exact e), dig_get w _ i e, Nat.div_div_eq_div_mul, show w + 1 - 1 - i = (w - 1 - i) + 1 by omega, Nat.pow_succ, Nat.mul_comm 256]
    · have : i = w := by omega
      subst this
      rw [List.getElem?_append_right (by rw [dig_len]; omega), dig_len]
      simp
theorem take_snoc {α : Type} {l : List α} {i : Nat} {x : α} (h : l[i]? = some x) : l.take (i + 1) = l.take i ++ [x] := by
  rw [List.take_add_one, h]; rfl
set_option maxHeartbeats 4000000 in
set_option maxRecDepth 100000 in
theorem writeNumber_is (w : World) (B : Nat) (hB : B ≤ w.heap.size) (v : Value) (l : List Nat) (hv : w.ownsRow B 5 1 v l.length (bV l)) (wd z : Nat) (hw : wd ≤ 8) (hz : z < 18446744073709551616) (hl : l.length ≤ 1099511627776) :
    Calls Try.prog 104 #[v, .int .i64 (wd : Int), .int .u64 (z : Int)] w fun e w' => ∃ v', e = .returned v' ∧ App B 5 1 w w' v v' (l ++ dig wd z).length (bV (l ++ dig wd z)) := by
  have HV : Hid (w.ownsRow B 5 1 v l.length (bV l)) := hv
  have HL : Hid (l.length ≤ 1099511627776) := hl
  have wI : (wd : Int) ≤ 8 := by omega
  have zI : (z : Int) < 18446744073709551616 := by omega
  have HB : Hid (B ≤ w.heap.size) := hB
  clear hv hl hB
  go_enter Try.func104, Try.ntmps104
  go_wp2
  go_loopw [0, 9] (fun s0 s9 wr => ∃ i : Nat, s9 = .int .i64 (i : Int) ∧ i ≤ wd ∧ App B 5 1 w wr v s0 (l ++ (dig wd z).take i).length (bV (l ++ (dig wd z).take i))) (fun _ s9 _ => wd - (intOf s9).toNat)
  case atStart => exact ⟨0, rfl, by omega, by simpa using App.refl HV.out⟩
  case round =>
    obtain ⟨i, rfl, hi, hA⟩ := hrel
    have HA : Hid (App B 5 1 w wr v u0 (l ++ (dig wd z).take i).length (bV (l ++ (dig wd z).take i))) := hA
    clear hA
    by_cases e : i = wd
    · subst e
      go_wp2
      go_ret
      exact ⟨_, rfl, by have := HA.out; rwa [List.take_of_length_le (by rw [dig_len]; omega)] at this⟩
    · have iI : (i : Int) < (wd : Int) := by omega
      obtain ⟨a, ha⟩ : ∃ a : Nat, a = wd - 1 := ⟨_, rfl⟩
      obtain ⟨q, hq⟩ : ∃ q : Nat, q = a - i := ⟨_, rfl⟩
      obtain ⟨s, hs⟩ : ∃ s : Nat, s = 8 * q := ⟨_, rfl⟩
      obtain ⟨y, hy⟩ : ∃ y : Nat, y = z / 2 ^ s := ⟨_, rfl⟩
      obtain ⟨x, hx⟩ : ∃ x : Nat, x = y % 256 := ⟨_, rfl⟩
      have r1 : (wd : Int) - 1 = (a : Int) := by omega
      have r2 : (a : Int) - (i : Int) = (q : Int) := by omega
      have r3 : (8 : Int) * (q : Int) = (s : Int) := by omega
      have s64 : (s : Int) ≤ 64 := by omega
      have wa : IntKind.i64.wrap (a : Int) = (a : Int) := by rw [IntKind.wrap_i64]; omega
      have wq : IntKind.i64.wrap (q : Int) = (q : Int) := by rw [IntKind.wrap_i64]; omega
      have ws : IntKind.i64.wrap (s : Int) = (s : Int) := by rw [IntKind.wrap_i64]; omega
      have r4 : (z : Int) / 2 ^ s = (y : Int) := by rw [hy, Int.natCast_ediv, Int.natCast_pow]; rfl
      have r5 : IntKind.u8.wrap (y : Int) = (x : Int) := by rw [IntKind.wrap_u8]; omega
      have HX : Hid ((dig wd z)[i]? = some x) := by
        unfold Hid
        rw [dig_get wd z i (by omega), hx, hy, hs, hq, ha, Nat.pow_mul, show (2 : Nat) ^ 8 = 256 by decide]
      clear ha hq hs hy hx e
      have BX : Hid (BL (fun k => k = wr.heap.size) (wr.alloc (.cells #[.int .u8 (x : Int)] 5)) (.slice (some ⟨wr.heap.size, 0, none⟩) 1 1) [x]) := BL.new wr [x] (by simp)
      have PX : Hid (Below wr.heap.size wr (wr.alloc (.cells #[.int .u8 (x : Int)] 5))) := below_alloc _ _
      go_wp2_with (at_builtin; refine wpList_appB rfl _ _ rfl B (Nat.le_trans (Nat.le_trans HB.out HA.out.but.size) PX.out.size) u0 (l ++ (dig wd z).take i) rfl (owns_past HA.out.row PX.out) (.slice (some ⟨wr.heap.size, 0, none⟩) 1 1) [x] rfl BX.out (by have := HL.out; simp [dig_len]; omega) ?_; intro v' w' hA2)
      have HR : Hid (App B 5 1 w w' v v' (l ++ (dig wd z).take (i + 1)).length (bV (l ++ (dig wd z).take (i + 1)))) := by
        have h9 := (HA.out.then PX.out).trans hA2
        rw [List.append_assoc, ← take_snoc HX.out] at h9
        exact h9
      clear hA2 BX PX HA
      go_roundw
      case rel => exact ⟨i + 1, by first | rfl | go_num, by omega, HR.out⟩
      case measure => simp [intOf]; omega
end Go.Proofs.Ytndhabhlajldeaa
/- Lists of numbers; package container: lengths, behind, writeLengths, writePieces. -/
namespace Go.Proofs.Ytndhabhlajldeaa
open Go.RowKit
/-- the first k stand, zeros behind them -/
def fill (l : List Value) (z : Value) (k : Nat) : List Value := l.take k ++ List.replicate (l.length - k) z
theorem fill_zero (l : List Value) (z : Value) : fill l z 0 = List.replicate l.length z := by simp [fill]
theorem fill_all (l : List Value) (z : Value) : fill l z l.length = l := by simp [fill]
theorem fill_set {l : List Value} {z x : Value} {k : Nat} (h : l[k]? = some x) : (fill l z k).set k x = fill l z (k + 1) := by
  have hk : k < l.length := (List.getElem?_eq_some_iff.1 h).1
  unfold fill
  rw [take_snoc h, List.set_append_right _ _ (by simp; omega), show l.length - k = (l.length - (k + 1)) + 1 by omega, List.replicate_succ, List.length_take, show k - min k l.length = 0 by omega, List.set_cons_zero, List.append_assoc]
  rfl
theorem fill_at {l : List Value} {z : Value} {k : Nat} (h : k < l.length) : (fill l z k)[k]? = some z := by
  unfold fill
  rw [List.getElem?_append_right (by simp; omega), List.length_take, show k - min k l.length = 0 by omega, List.getElem?_replicate, if_pos (by omega)]
theorem made_rep (c : Array Value) (z : Value) (n : Nat) (hc : ∀ i, i < c.size → c[i]? = some z) (h0 : 0 < c.size) : madeCells c n = (List.replicate n z).toArray := by
  apply Array.ext'
  unfold madeCells
  apply List.ext_getElem?
  intro i
  by_cases hi : i < n
  · rw [List.toList_toArray, List.getElem?_replicate, if_pos hi]
    have := hc (i % c.size) (Nat.mod_lt _ h0)
    simp [hi]
    rw [getElem!_def, this]
  · rw [List.toList_toArray, List.getElem?_replicate, if_neg hi]
    simp [hi]
theorem one_cell {z : Value} {c : Array Value} (hc : c = #[z]) (i : Nat) (hi : i < c.size) : c[i]? = some z := by
  subst hc
  have : i = 0 := by simpa using hi
  subst this
  rfl
theorem make_n (t e : TypeId) (zv z : Value) (size bytes : Nat) (ht : Try.prog.underlying t = some (.slice e)) (hi : (Try.prog.info? e).map (fun i => (i.zero, i.size, i.bytes)) = some (some zv, size, bytes)) (hz : ∀ i, i < zv.cells.size → zv.cells[i]? = some z) (h0 : 0 < zv.cells.size) (k : IntKind) (W : World) (M : Nat) (hM : bytes * M ≤ 140737488355328) (hM2 : M ≤ 1152921504606846976) :
    ∃ W1, Sem.run Try.prog (Instr.makeSlice t (.int k (M : Int)) (.int k (M : Int))) W = .ok (.slice (some ⟨W.heap.size, 0, none⟩) M M) W1 ∧ CBox W1 W.heap.size e (List.replicate (M * size) z) ∧ Below W.heap.size W W1 ∧ W1.heap.size = W.heap.size + 1 := by
  obtain ⟨i0, hi0, hz0, hz1, hz2⟩ := info_parts hi
  have hq : (i0.bytes : Int) * (M : Int) ≤ 281474976710656 := by
    rw [hz2, ← Int.natCast_mul]
    omega
  have h := run_make (P := Try.prog) W t e i0 zv ht hi0 hz0 k k (M : Int) (M : Int) (by omega) (Int.le_refl _) hq (by omega)
  rw [made_rep zv.cells z _ hz h0, hz1, Int.toNat_natCast] at h
  exact ⟨_, h, CBox.new W e _, below_alloc _ _, by simp⟩
/-- numbers of 64 bits as cells -/
def uV (l : List Nat) : List Value := l.map fun x : Nat => Value.int .u64 (x : Int)
theorem uV_len (l : List Nat) : (uV l).length = l.length := by simp [uV]
theorem uV_get {l : List Nat} {i x : Nat} (h : l[i]? = some x) : (uV l)[i]? = some (.int .u64 (x : Int)) := by simp [uV, h]
/-- a list of numbers that nobody writes -/
def UL (W : World) (v : Value) (l : List Nat) : Prop := (v = .slice none 0 0 ∧ l = []) ∨ ∃ g, v = .slice (some ⟨g, 0, none⟩) l.length l.length ∧ CBox W g 73 (uV l)
theorem UL.past {W W' : World} {v : Value} {l : List Nat} (h : UL W v l) (k : Below W.heap.size W W') : UL W' v l := by
  rcases h with h | ⟨g, e, h⟩
  · exact Or.inl h
  · exact Or.inr ⟨g, e, h.past k⟩
theorem UL.app {B s n n' : Nat} {W W' : World} {u v v' : Value} {l : List Nat} {cs cs' : List Value} (h : UL W u l) (k : App B 5 s W W' v v' n cs) (hv : W.ownsRow B 5 s v n' cs') : UL W' u l := by
  rcases h with h | ⟨g, e, h⟩
  · exact Or.inl h
  · refine Or.inr ⟨g, e, h.but k.but fun hg => ?_⟩
    rcases hv.2 with ⟨rfl, _⟩ | ⟨g', c, cur, rfl, _, hh, _⟩
    · cases hg
    · injection hg with hg
      subst hg
      rw [show W.heap[g']? = _ from h] at hh
      cases hh
theorem UL.len {W : World} {v : Value} {l : List Nat} (h : UL W v l) : ∃ ad, v = .slice ad l.length l.length := by
  rcases h with ⟨rfl, rfl⟩ | ⟨g, rfl, h⟩
  · exact ⟨none, rfl⟩
  · exact ⟨_, rfl⟩
theorem UL.get {W : World} {ad : Option Addr} {n c : Nat} {l : List Nat} (h : UL W (.slice ad n c) l) {i x : Nat} (hi : l[i]? = some x) : ∃ g, ad = some ⟨g, 0, none⟩ ∧ W.cell? ⟨g, i, none⟩ = some (.int .u64 (x : Int)) := by
  rcases h with ⟨_, rfl⟩ | ⟨g, e, h⟩
  · cases hi
  · injection e with e1 _ _
    exact ⟨g, e1, by rw [h.cell]; exact uV_get hi⟩
theorem lns_get {ll : List (List Nat)} {i : Nat} {l : List Nat} (h : ll[i]? = some l) : (lns ll)[i]? = some l.length := by simp [lns, h]
set_option maxHeartbeats 4000000 in
set_option maxRecDepth 100000 in
theorem lengths_is {P : Nat → Prop} (w : World) (v : Value) (ll : List (List Nat)) (h : PL P w v ll) (hl : ll.length ≤ 16777216) : Calls Try.prog 103 #[v] w fun e w' => ∃ v', e = .returned v' ∧ UL w' v' (lns ll) ∧ Below w.heap.size w w' := by
  obtain ⟨ad, cap, rfl, hc0, hc1⟩ := h.len
  have HP : Hid (PL P w (.slice ad ll.length cap) ll) := h
  have HE : Hid ((uV (lns ll)).length = ll.length) := by unfold Hid; rw [uV_len]; simp [lns]
  obtain ⟨W1, hmk, hcb, hB1, hsz⟩ := make_n 82 73 (.int .u64 0) (.int .u64 0) 1 8 Try.underlying82 Try.infoU (one_cell rfl) (by simp [Value.cells]) .i64 w ll.length (by omega) (by omega)
  have C0 : Hid (CBox W1 w.heap.size 73 (fill (uV (lns ll)) (.int .u64 0) 0) ∧ Below w.heap.size w W1) := ⟨by rw [fill_zero, HE.out]; rw [Nat.mul_one] at hcb; exact hcb, hB1⟩
  have nI : (ll.length : Int) ≤ 16777216 := by omega
  generalize hn : ll.length = n at *
  have HN : Hid (ll.length = n) := hn
  clear h hc0 hc1 hn hcb hB1 hl hsz
  go_enter Try.func103, Try.ntmps103
  go_upto_region 2 with fail
  generalize hbx : w.heap.size = g at *
  have HG : Hid (w.heap.size = g) := hbx
  clear hbx hmk
  go_wp2
  go_loopw [11] (fun s11 wr => ∃ k : Nat, s11 = .int .i64 (k : Int) ∧ k ≤ n ∧ CBox wr g 73 (fill (uV (lns ll)) (.int .u64 0) k) ∧ Below g w wr) (fun s11 _ => n - (intOf s11).toNat)
  case atStart => exact ⟨0, rfl, by omega, C0.out⟩
  case round =>
    obtain ⟨k, rfl, hk, hC, hB⟩ := hrel
    have HC : Hid (CBox wr g 73 (fill (uV (lns ll)) (.int .u64 0) k) ∧ Below g w wr) := ⟨hC, hB⟩
    clear hC hB C0
    by_cases e : k = n
    · subst e
      have E0 : Hid (CBox wr g 73 (uV (lns ll))) := by have := HC.out.1; rwa [← HE.out, fill_all] at this
      go_wp2
      go_ret
      exact ⟨_, rfl, Or.inr ⟨g, by rw [show (lns ll).length = k by have := HE.out; rwa [uV_len] at this]; rfl, E0.out⟩, by rw [HG.out]; exact HC.out.2⟩
    · have kn : k < n := by omega
      have knI : (k : Int) < (n : Int) := by omega
      obtain ⟨l, hl⟩ : ∃ l, ll[k]? = some l := ⟨ll[k]'(by have := HN.out; omega), List.getElem?_eq_getElem _⟩
      obtain ⟨g2, a2, u, rfl, hcell, hb⟩ := HP.out.get hl
      obtain ⟨ad2, cap2, rfl, _, hl1⟩ := hb.len
      have hc2 := (HC.out.2.cell (p := ⟨g2, a2 + k, none⟩) (by have := World.block_lt_of_cell? w _ hcell; rw [HG.out] at this; exact this)).trans hcell
      have HX : Hid ((uV (lns ll))[k]? = some (.int .u64 (l.length : Int))) := uV_get (lns_get hl)
      have mI : (l.length : Int) ≤ 1152921504606846976 := by omega
      have z1 : wr.cell? ⟨g, k, none⟩ = some (.int .u64 0) := by rw [HC.out.1.cell]; exact fill_at (by rw [HE.out]; exact kn)
      have z2 : wr.frozen? ⟨g, k, none⟩ = false := HC.out.1.frozen k
      clear hl hb hl1 hcell
      generalize l.length = q at *
      have wq : IntKind.u64.wrap (q : Int) = (q : Int) := by rw [IntKind.wrap_u64]; omega
      have HR : Hid (CBox (wr.setCell ⟨g, k, none⟩ (.int .u64 (q : Int))) g 73 (fill (uV (lns ll)) (.int .u64 0) (k + 1)) ∧ Below g w (wr.setCell ⟨g, k, none⟩ (.int .u64 (q : Int)))) := ⟨by rw [← fill_set HX.out]; exact HC.out.1.set k _, HC.out.2.setCell (Nat.le_refl _) _⟩
      go_wp2
      go_roundw
      case rel => exact ⟨k + 1, by first | rfl | go_num, by omega, HR.out⟩
      case measure => simp [intOf]; omega
theorem sumL_cons_aux : ∀ (l : List Nat) (a : Nat), l.foldl (· + ·) a = a + sumL l
  | [], a => by simp [sumL]
  | x :: l, a => by
    show l.foldl (· + ·) (a + x) = a + l.foldl (· + ·) (0 + x)
    rw [sumL_cons_aux l (a + x), sumL_cons_aux l (0 + x)]; omega
theorem sumL_cons (x : Nat) (l : List Nat) : sumL (x :: l) = x + sumL l := by
  show l.foldl (· + ·) (0 + x) = _
  rw [sumL_cons_aux]; omega
theorem sumL_take {l : List Nat} {k x : Nat} (h : l[k]? = some x) : sumL (l.take (k + 1)) = sumL (l.take k) + x := by
  rw [take_snoc h]
  show (l.take k ++ [x]).foldl (· + ·) 0 = _
  rw [List.foldl_append]; rfl
theorem sumL_le : ∀ (l : List Nat) (k : Nat), sumL (l.take k) ≤ sumL l
  | [], k => by simp
  | x :: l, 0 => by simp [sumL]
  | x :: l, k + 1 => by rw [List.take_succ_cons, sumL_cons, sumL_cons]; have := sumL_le l k; omega
set_option maxHeartbeats 4000000 in
set_option maxRecDepth 100000 in
theorem behind_is (w : World) (cv sv : Value) (cs ss : List Nat) (d : Nat) (hc : UL w cv cs) (hs : UL w sv ss) (hb : 4 * cs.length + sumL cs + sumL ss < 9223372036854775808) (hl : cs.length ≤ 1152921504606846976 ∧ ss.length ≤ 1152921504606846976) :
    Calls Try.prog 81 #[.agg #[cv, sv, .int .u64 (d : Int)]] w fun e w' => e = .returned (.int .u64 ((4 * cs.length + sumL cs + sumL ss : Nat) : Int)) ∧ Below w.heap.size w w' := by
  obtain ⟨ca, rfl⟩ := hc.len
  obtain ⟨sa, rfl⟩ := hs.len
  have B0 : Hid (Below w.heap.size w (w.alloc (.cells #[.slice ca cs.length cs.length, .slice sa ss.length ss.length, .int .u64 (d : Int)] 84)) ∧ CBox (w.alloc (.cells #[.slice ca cs.length cs.length, .slice sa ss.length ss.length, .int .u64 (d : Int)] 84)) w.heap.size 84 [.slice ca cs.length cs.length, .slice sa ss.length ss.length, .int .u64 (d : Int)]) := ⟨below_alloc _ _, CBox.new _ _ [_, _, _]⟩
  have HC : Hid (UL (w.alloc (.cells #[.slice ca cs.length cs.length, .slice sa ss.length ss.length, .int .u64 (d : Int)] 84)) (.slice ca cs.length cs.length) cs) := hc.past (below_alloc _ _)
  have HS : Hid (UL (w.alloc (.cells #[.slice ca cs.length cs.length, .slice sa ss.length ss.length, .int .u64 (d : Int)] 84)) (.slice sa ss.length ss.length) ss) := hs.past (below_alloc _ _)
  have HL : Hid (4 * cs.length + sumL cs + sumL ss < 9223372036854775808) := hb
  obtain ⟨hl1, hl2⟩ := hl
  generalize hn : cs.length = n at *
  generalize hm : ss.length = m at *
  have EN : Hid (cs.length = n ∧ ss.length = m) := ⟨hn, hm⟩
  have nI : (n : Int) ≤ 1152921504606846976 := by omega
  have mI : (m : Int) ≤ 1152921504606846976 := by omega
  clear hc hs hn hm hb hl1 hl2
  go_enter Try.func81, Try.ntmps81
  go_upto_region 1 with fail
  generalize w.alloc _ = W0 at B0 HC HS ⊢
  generalize hbx : w.heap.size = bx at B0 ⊢
  have HG : Hid (w.heap.size = bx) := hbx
  have B1 : Hid (Below bx w W0) := B0.out.1
  have c0 : W0.cell? ⟨bx, 0, none⟩ = some (.slice ca n n) := B0.out.2.cell 0
  have c1 : W0.cell? ⟨bx, 1, none⟩ = some (.slice sa m m) := B0.out.2.cell 1
  clear B0 hbx
  obtain ⟨q, hq⟩ : ∃ q : Nat, q = 4 * n := ⟨_, rfl⟩
  have r1 : (4 : Int) * (n : Int) = (q : Int) := by omega
  have wn : IntKind.u64.wrap (n : Int) = (n : Int) := by rw [IntKind.wrap_u64]; omega
  have wq : IntKind.u64.wrap (q : Int) = (q : Int) := by rw [IntKind.wrap_u64]; have := HL.out; omega
  have HQ : Hid (q = 4 * n) := hq
  clear hq
  go_wp2
  go_loopw [3, 16] (fun s3 s16 wr => ∃ k : Nat, s16 = .int .i64 (k : Int) ∧ k ≤ n ∧ s3 = .int .u64 ((q + sumL (cs.take k) : Nat) : Int) ∧ wr = W0) (fun _ s16 _ => n - (intOf s16).toNat)
  case atStart => exact ⟨0, rfl, by omega, by simp [sumL], rfl⟩
  case round =>
    obtain ⟨k, rfl, hk, rfl, rfl⟩ := hrel
    by_cases e : k = n
    · subst e
      have EQ : Hid (q + sumL (cs.take k) = q + sumL cs) := by unfold Hid; rw [List.take_of_length_le (by have := EN.out.1; omega)]
      rw [EQ.out]
      go_wp2
      go_loopw [3, 27] (fun s3 s27 wq => ∃ j : Nat, s27 = .int .i64 (j : Int) ∧ j ≤ m ∧ s3 = .int .u64 ((q + sumL cs + sumL (ss.take j) : Nat) : Int) ∧ wq = wr) (fun _ s27 _ => m - (intOf s27).toNat)
      case atStart => exact ⟨0, rfl, by omega, by simp [sumL], rfl⟩
      case round =>
        rename_i wr0
        obtain ⟨j, rfl, hj, rfl, hw⟩ := hrel
        subst hw
        by_cases e : j = m
        · subst e
          have EQ2 : Hid (q + sumL cs + sumL (ss.take j) = 4 * k + sumL cs + sumL ss) := by unfold Hid; rw [List.take_of_length_le (by have := EN.out.2; omega), HQ.out]
          rw [EQ2.out]
          go_wp2
          go_ret
          exact ⟨rfl, by rw [HG.out]; exact B1.out⟩
        · have jm : (j : Int) < (m : Int) := by omega
          obtain ⟨x, hx⟩ : ∃ x, ss[j]? = some x := ⟨ss[j]'(by have := EN.out.2; omega), List.getElem?_eq_getElem _⟩
          obtain ⟨g, rfl, hcell⟩ := HS.out.get hx
          obtain ⟨y, hy⟩ : ∃ y : Nat, y = q + sumL cs + sumL (ss.take j) := ⟨_, rfl⟩
          have HY : Hid (y + x = q + sumL cs + sumL (ss.take (j + 1))) := by unfold Hid; rw [sumL_take hx, hy]; omega
          rw [← hy]
          obtain ⟨y2, hy2⟩ : ∃ y2 : Nat, y2 = y + x := ⟨_, rfl⟩
          have r2 : (y : Int) + (x : Int) = (y2 : Int) := by omega
          have wy : IntKind.u64.wrap (y2 : Int) = (y2 : Int) := by rw [IntKind.wrap_u64]; have h1 := HL.out; have h2 := HQ.out; have h3 := HY.out; have h4 := sumL_le ss (j + 1); omega
          have HZ : Hid (y2 = q + sumL cs + sumL (ss.take (j + 1))) := by unfold Hid; rw [hy2]; exact HY.out
          clear hy hx hy2
          go_wp2
          go_roundw
          case rel => exact ⟨j + 1, by first | rfl | go_num, by omega, by rw [HZ.out], by first | rfl | trivial⟩
          case measure => simp [intOf]; omega
    · have kn : (k : Int) < (n : Int) := by omega
      obtain ⟨x, hx⟩ : ∃ x, cs[k]? = some x := ⟨cs[k]'(by have := EN.out.1; omega), List.getElem?_eq_getElem _⟩
      obtain ⟨g, rfl, hcell⟩ := HC.out.get hx
      obtain ⟨y, hy⟩ : ∃ y : Nat, y = q + sumL (cs.take k) := ⟨_, rfl⟩
      have HY : Hid (y + x = q + sumL (cs.take (k + 1))) := by unfold Hid; rw [sumL_take hx, hy]; omega
      rw [← hy]
      obtain ⟨y2, hy2⟩ : ∃ y2 : Nat, y2 = y + x := ⟨_, rfl⟩
      have r2 : (y : Int) + (x : Int) = (y2 : Int) := by omega
      have wy : IntKind.u64.wrap (y2 : Int) = (y2 : Int) := by rw [IntKind.wrap_u64]; have h1 := HL.out; have h2 := HQ.out; have h3 := HY.out; have h4 := sumL_le cs (k + 1); omega
      have HZ : Hid (y2 = q + sumL (cs.take (k + 1))) := by unfold Hid; rw [hy2]; exact HY.out
      clear hy hx hy2
      go_wp2
      go_roundw
      case rel => exact ⟨k + 1, by first | rfl | go_num, by omega, by rw [HZ.out], by first | rfl | trivial⟩
      case measure => simp [intOf]; omega
end Go.Proofs.Ytndhabhlajldeaa
/- Package container: writeLengths, writePieces, headerOf, the header's write. -/
namespace Go.Proofs.Ytndhabhlajldeaa
open Go.RowKit
theorem flat_snoc {α β : Type} {l : List α} {f : α → List β} {k : Nat} {x : α} (h : l[k]? = some x) : (l.take (k + 1)).flatMap f = (l.take k).flatMap f ++ f x := by rw [take_snoc h, List.flatMap_append]; simp
theorem flat_len (wd : Nat) : ∀ l : List Nat, (l.flatMap (dig wd)).length = wd * l.length
  | [] => by simp
  | x :: l => by rw [List.flatMap_cons, List.length_append, dig_len, flat_len wd l, List.length_cons, Nat.mul_add]; omega
theorem flatten_snoc {α : Type} {l : List (List α)} {k : Nat} {x : List α} (h : l[k]? = some x) : (l.take (k + 1)).flatten = (l.take k).flatten ++ x := by rw [take_snoc h, List.flatten_append]; simp
theorem flatten_le {α : Type} : ∀ (l : List (List α)) (k : Nat), (l.take k).flatten.length ≤ l.flatten.length
  | [], k => by simp
  | x :: l, 0 => by simp
  | x :: l, k + 1 => by rw [List.take_succ_cons, List.flatten_cons, List.flatten_cons, List.length_append, List.length_append]; have := flatten_le l k; omega
set_option maxHeartbeats 4000000 in
set_option maxRecDepth 100000 in
theorem writeLengths_is (w : World) (B : Nat) (hB : B ≤ w.heap.size) (v : Value) (l : List Nat) (hv : w.ownsRow B 5 1 v l.length (bV l)) (wd : Nat) (hw : wd ≤ 8) (cv : Value) (cs : List Nat) (hc : UL w cv cs) (hx : ∀ x ∈ cs, x < 18446744073709551616) (hn : cs.length ≤ 16777216) (hl : l.length ≤ 4294967296) :
    Calls Try.prog 105 #[v, .int .i64 (wd : Int), cv] w fun e w' => ∃ v', e = .returned v' ∧ App B 5 1 w w' v v' (l ++ (dig 2 cs.length ++ cs.flatMap (dig wd))).length (bV (l ++ (dig 2 cs.length ++ cs.flatMap (dig wd)))) := by
  obtain ⟨ca, rfl⟩ := hc.len
  have HV : Hid (w.ownsRow B 5 1 v l.length (bV l)) := hv
  have HC : Hid (UL w (.slice ca cs.length cs.length) cs) := hc
  have HX : Hid (∀ x ∈ cs, x < 18446744073709551616) := hx
  have HW : Hid (wd ≤ 8 ∧ l.length ≤ 4294967296 ∧ B ≤ w.heap.size) := ⟨hw, hl, hB⟩
  have nI : (cs.length : Int) ≤ 16777216 := by omega
  generalize hN : cs.length = n at *
  have EN : Hid (cs.length = n ∧ n ≤ 16777216) := ⟨hN, hn⟩
  have WN0 : Hid (Calls Try.prog 104 #[v, .int .i64 2, .int .u64 (n : Int)] w fun e w' => ∃ v', e = .returned v' ∧ App B 5 1 w w' v v' (l ++ dig 2 n).length (bV (l ++ dig 2 n))) := writeNumber_is w B hB v l hv 2 n (by omega) (by omega) (by omega)
  have wn : IntKind.u64.wrap (n : Int) = (n : Int) := by rw [IntKind.wrap_u64]; omega
  clear hv hc hx hw hl hB hN hn
  go_enter Try.func105, Try.ntmps105
  go_upto_region 2 with (go_at_call 104; refine (WN0.out).mono ?_; rintro e w' ⟨v', rfl, hA2⟩)
  have HA0 : Hid (App B 5 1 w w' v v' (l ++ dig 2 n).length (bV (l ++ dig 2 n))) := hA2
  clear hA2 WN0
  go_wp2
  go_loopw [0, 16] (fun s0 s16 wr => ∃ k : Nat, s16 = .int .i64 (k : Int) ∧ k ≤ n ∧ App B 5 1 w wr v s0 (l ++ (dig 2 n ++ (cs.take k).flatMap (dig wd))).length (bV (l ++ (dig 2 n ++ (cs.take k).flatMap (dig wd))))) (fun _ s16 _ => n - (intOf s16).toNat)
  case atStart => exact ⟨0, rfl, by omega, by simpa using HA0.out⟩
  case round =>
    obtain ⟨k, rfl, hk, hA⟩ := hrel
    have HA : Hid (App B 5 1 w wr v u0 (l ++ (dig 2 n ++ (cs.take k).flatMap (dig wd))).length (bV (l ++ (dig 2 n ++ (cs.take k).flatMap (dig wd))))) := hA
    clear hA HA0
    by_cases e : k = n
    · subst e
      go_wp2
      go_ret
      exact ⟨_, rfl, by have := HA.out; rwa [List.take_of_length_le (by have := EN.out; omega)] at this⟩
    · have kn : (k : Int) < (n : Int) := by omega
      obtain ⟨x, hx⟩ : ∃ x, cs[k]? = some x := ⟨cs[k]'(by have := EN.out; omega), List.getElem?_eq_getElem _⟩
      obtain ⟨g, rfl, hcell⟩ := (HC.out.app HA.out HV.out).get hx
      have W1 : Hid (Calls Try.prog 104 #[u0, .int .i64 (wd : Int), .int .u64 (x : Int)] wr fun e w' => ∃ v', e = .returned v' ∧ App B 5 1 wr w' u0 v' ((l ++ (dig 2 n ++ (cs.take k).flatMap (dig wd))) ++ dig wd x).length (bV ((l ++ (dig 2 n ++ (cs.take k).flatMap (dig wd))) ++ dig wd x))) :=
        writeNumber_is wr B (Nat.le_trans HW.out.2.2 HA.out.but.size) u0 _ HA.out.row wd x HW.out.1 (HX.out x (List.mem_of_getElem? hx)) (by
          have h1 := HW.out; have h2 := EN.out
          rw [List.length_append, List.length_append, flat_len, dig_len, List.length_take]
          have : wd * min k cs.length ≤ 8 * 16777216 := Nat.mul_le_mul h1.1 (by omega)
          omega)
      have HXX : Hid (cs[k]? = some x) := hx
      clear hx e
      go_wp2_with (go_at_call 104; refine (W1.out).mono ?_; rintro e w' ⟨v', rfl, hA2⟩)
      have HR : Hid (App B 5 1 w w' v v' (l ++ (dig 2 n ++ (cs.take (k + 1)).flatMap (dig wd))).length (bV (l ++ (dig 2 n ++ (cs.take (k + 1)).flatMap (dig wd))))) := by
        have h9 := HA.out.trans hA2
        rw [List.append_assoc, List.append_assoc, ← flat_snoc HXX.out] at h9
        exact h9
      clear hA2 W1 HA
      go_roundw
      case rel => exact ⟨k + 1, by first | rfl | go_num, by omega, HR.out⟩
      case measure => simp [intOf]; omega
set_option maxHeartbeats 4000000 in
set_option maxRecDepth 100000 in
theorem writePieces_is {P : Nat → Prop} (w : World) (B : Nat) (hB : B ≤ w.heap.size) (v : Value) (l : List Nat) (hv : w.ownsRow B 5 1 v l.length (bV l)) (pv : Value) (ll : List (List Nat)) (hp : PL P w pv ll) (hP : ∀ g, P g → ¬ OwnV v g) (hl : l.length + ll.flatten.length ≤ 1099511627776) :
    Calls Try.prog 77 #[v, pv] w fun e w' => ∃ v', e = .returned v' ∧ App B 5 1 w w' v v' (l ++ ll.flatten).length (bV (l ++ ll.flatten)) := by
  obtain ⟨pa, pc, rfl, _, hn⟩ := hp.len
  have HV : Hid (w.ownsRow B 5 1 v l.length (bV l)) := hv
  have HC : Hid (PL P w (.slice pa ll.length pc) ll) := hp
  have HP : Hid (∀ g, P g → ¬ OwnV v g) := hP
  have HW : Hid (l.length + ll.flatten.length ≤ 1099511627776 ∧ B ≤ w.heap.size) := ⟨hl, hB⟩
  have nI : (ll.length : Int) ≤ 1152921504606846976 := by omega
  generalize hN : ll.length = n at *
  have EN : Hid (ll.length = n) := hN
  clear hv hp hP hl hB hN hn
  go_enter Try.func77, Try.ntmps77
  go_wp2
  go_loopw [0, 9] (fun s0 s9 wr => ∃ k : Nat, s9 = .int .i64 (k : Int) ∧ k ≤ n ∧ App B 5 1 w wr v s0 (l ++ (ll.take k).flatten).length (bV (l ++ (ll.take k).flatten))) (fun _ s9 _ => n - (intOf s9).toNat)
  case atStart => exact ⟨0, rfl, by omega, by simpa using App.refl HV.out⟩
  case round =>
    obtain ⟨k, rfl, hk, hA⟩ := hrel
    have HA : Hid (App B 5 1 w wr v u0 (l ++ (ll.take k).flatten).length (bV (l ++ (ll.take k).flatten))) := hA
    clear hA
    by_cases e : k = n
    · subst e
      go_wp2
      go_ret
      exact ⟨_, rfl, by have := HA.out; rwa [List.take_of_length_le (by have := EN.out; omega)] at this⟩
    · have kn : (k : Int) < (n : Int) := by omega
      obtain ⟨x, hx⟩ : ∃ x, ll[k]? = some x := ⟨ll[k]'(by have := EN.out; omega), List.getElem?_eq_getElem _⟩
      obtain ⟨g, a, u, rfl, hcell, hb⟩ := (HC.out.but HA.out.but HP.out).get hx
      have HXX : Hid (ll[k]? = some x) := hx
      have HBx : Hid (BL P wr u x) := hb
      obtain ⟨_, _, eu, _⟩ := hb.len
      have HLen : Hid ((l ++ (ll.take k).flatten).length + x.length ≤ 2199023255552) := by
        unfold Hid
        have h1 := HW.out.1
        have h2 := flatten_le ll (k + 1)
        rw [flatten_snoc HXX.out, List.length_append] at h2
        rw [List.length_append]
        omega
      clear hx e hb eu
      go_wp2_with (at_builtin; refine wpList_appB rfl _ _ rfl B (Nat.le_trans HW.out.2 HA.out.but.size) u0 (l ++ (ll.take k).flatten) rfl HA.out.row u x rfl HBx.out HLen.out ?_; intro v' w' hA2)
      have HR : Hid (App B 5 1 w w' v v' (l ++ (ll.take (k + 1)).flatten).length (bV (l ++ (ll.take (k + 1)).flatten))) := by
        have h9 := HA.out.trans hA2
        rw [List.append_assoc, ← flatten_snoc HXX.out] at h9
        exact h9
      clear hA2 HA
      go_roundw
      case rel => exact ⟨k + 1, by first | rfl | go_num, by omega, HR.out⟩
      case measure => simp [intOf]; omega
end Go.Proofs.Ytndhabhlajldeaa
/- Package container: headerOf, the header's write. -/
namespace Go.Proofs.Ytndhabhlajldeaa
open Go.RowKit
theorem results_c {fn : Func} {p : Tmp} {ty : TypeId} (h : fn.results = #[.cell p ty]) (tmps : Array Value) (P : Program) (w : World) (a : Addr) (ha : tmps.getD p undef = .pointer (some a)) {v : Value} (hl : (loadVar ty a).run P w = .ok v w) : (results fn tmps).run P w = .ok v w := by
  have ha' : tmps[p]?.getD undef = .pointer (some a) := by simpa using ha
  simp only [results, h]
  simp [ha', hl, asAddr]
theorem results_ct {fn : Func} {p q : Tmp} {ty : TypeId} (h : fn.results = #[.cell p ty, .tmp q]) (tmps : Array Value) (P : Program) (w : World) (a : Addr) (ha : tmps.getD p undef = .pointer (some a)) {v u : Value} (hq : tmps.getD q undef = u) (hl : (loadVar ty a).run P w = .ok v w) : (results fn tmps).run P w = .ok (.tuple #[v, u]) w := by
  have ha' : tmps[p]?.getD undef = .pointer (some a) := by simpa using ha
  have hq' : tmps[q]?.getD undef = u := by simpa using hq
  simp only [results, h]
  simp [ha', hq', hl, asAddr]
theorem CBox.range {W : World} {B : Nat} {t : TypeId} {l : List Value} (h : CBox W B t l) : W.rangeAt B 0 l := fun j v hv => by rw [Nat.zero_add, h.cell]; exact hv
theorem CBox.app {B s n n' b : Nat} {W W' : World} {v v' : Value} {t : TypeId} {l cs cs' : List Value} (h : CBox W b t l) (k : App B 5 s W W' v v' n cs) (hv : W.ownsRow B 5 s v n' cs') (ht : t ≠ 5) : CBox W' b t l := by
  refine h.but k.but fun hg => ?_
  rcases hv.2 with ⟨rfl, _⟩ | ⟨g', c, cur, rfl, _, hh, _⟩
  · cases hg
  · injection hg with hg
    subst hg
    rw [show W.heap[g']? = _ from h] at hh
    cases hh
    exact ht rfl
/-- a header that is being written -/
structure Wr (B bx : Nat) (w W : World) (cv sv : Value) (cs ss : List Nat) (d : Nat) (v0 v : Value) (l : List Nat) : Prop where
  app : App B 5 1 w W v0 v l.length (bV l)
  box : CBox W bx 84 [cv, sv, .int .u64 (d : Int)]
  uc : UL W cv cs
  us : UL W sv ss
  hB : B ≤ w.heap.size
section
variable {B bx d : Nat} {w W W' : World} {cv sv v0 v v' : Value} {cs ss l l' : List Nat}
theorem Wr.le (h : Wr B bx w W cv sv cs ss d v0 v l) : B ≤ W.heap.size := Nat.le_trans h.hB h.app.but.size
theorem Wr.past (h : Wr B bx w W cv sv cs ss d v0 v l) (k : Below W.heap.size W W') : Wr B bx w W' cv sv cs ss d v0 v l := ⟨h.app.then k, h.box.past k, h.uc.past k, h.us.past k, h.hB⟩
theorem Wr.step (h : Wr B bx w W cv sv cs ss d v0 v l) (k : App B 5 1 W W' v v' l'.length (bV l')) : Wr B bx w W' cv sv cs ss d v0 v' l' := ⟨h.app.trans k, h.box.app k h.app.row (by decide), h.uc.app k h.app.row, h.us.app k h.app.row, h.hB⟩
end
set_option maxHeartbeats 4000000 in
set_option maxRecDepth 100000 in
theorem write_is (w : World) (B : Nat) (hB : B ≤ w.heap.size) (v : Value) (l : List Nat) (hv : w.ownsRow B 5 1 v l.length (bV l)) (cv sv : Value) (cs ss : List Nat) (d : Nat) (hc : UL w cv cs) (hs : UL w sv ss) (hx : ∀ x ∈ cs, x < 18446744073709551616) (hy : ∀ x ∈ ss, x < 18446744073709551616) (hn : cs.length ≤ 16777216) (hm : ss.length ≤ 16777216) (hd9 : d < 18446744073709551616) (hl : l.length ≤ 1048576) :
    Calls Try.prog 75 #[.agg #[cv, sv, .int .u64 (d : Int)], v] w fun e w' => ∃ v', e = .returned v' ∧ App B 5 1 w w' v v' (l ++ hd cs ss d).length (bV (l ++ hd cs ss d)) := by
  obtain ⟨ca, rfl⟩ := hc.len
  obtain ⟨sa, rfl⟩ := hs.len
  obtain ⟨F, hF⟩ : ∃ F, F = l ++ hd cs ss d := ⟨_, rfl⟩
  rw [← hF]
  unfold hd at hF
  have HW : Hid (cs.length ≤ 16777216 ∧ ss.length ≤ 16777216 ∧ l.length ≤ 1048576 ∧ d < 18446744073709551616) := ⟨hn, hm, hl, hd9⟩
  have HX : Hid ((∀ x ∈ cs, x < 18446744073709551616) ∧ ∀ x ∈ ss, x < 18446744073709551616) := ⟨hx, hy⟩
  generalize hN : cs.length = n at *
  generalize hM : ss.length = m at *
  have EN : Hid (cs.length = n ∧ ss.length = m) := ⟨hN, hM⟩
  have nI : (n : Int) ≤ 16777216 := by omega
  have mI : (m : Int) ≤ 16777216 := by omega
  have M : Hid (Wr B w.heap.size w (w.alloc (.cells #[.slice ca n n, .slice sa m m, .int .u64 (d : Int)] 84)) (.slice ca n n) (.slice sa m m) cs ss d v v l) := ⟨(App.refl hv).then (below_alloc _ _), CBox.new _ _ [_, _, _], hc.past (below_alloc _ _), hs.past (below_alloc _ _), hB⟩
  have HF : Hid (F = l ++ ([239, 0, 1] ++ ([1] ++ dig 2 (4 * n)) ++ ([2] ++ dig 2 n ++ cs.flatMap (dig 2)) ++ (if m = 0 then [] else [3] ++ dig 2 m ++ ss.flatMap (dig 4)) ++ ([255] ++ dig 2 d) ++ [0])) := hF
  obtain ⟨q, hq⟩ : ∃ q : Nat, q = 4 * n := ⟨_, rfl⟩
  have HLN : Hid ((dig 2 q).length = 2 ∧ (dig 2 cs.length).length = 2 ∧ (cs.flatMap (dig 2)).length = 2 * cs.length ∧ (dig 2 ss.length).length = 2 ∧ (ss.flatMap (dig 4)).length = 4 * ss.length ∧ (dig 2 d).length = 2) := ⟨dig_len _ _, dig_len _ _, flat_len _ _, dig_len _ _, flat_len _ _, dig_len _ _⟩
  have r1 : (4 : Int) * (n : Int) = (q : Int) := by omega
  have wn : IntKind.u64.wrap (n : Int) = (n : Int) := by rw [IntKind.wrap_u64]; omega
  have wq : IntKind.u64.wrap (q : Int) = (q : Int) := by rw [IntKind.wrap_u64]; omega
  have HQ : Hid (q = 4 * n) := hq
  clear hv hc hs hx hy hn hm hl hB hN hM hF hq hd9
  go_enter Try.func75, Try.ntmps75
  go_upto_region 1 with fail
  generalize w.alloc _ = W0 at M ⊢
  generalize w.heap.size = bx at M ⊢
  go_upto_region 2 with (at_builtin; refine wpList_appB (P := fun k => k = W0.heap.size) rfl _ _ rfl B (M.out.past (below_alloc _ _)).le v l rfl (M.out.past (below_alloc _ _)).app.row (.slice (some ⟨W0.heap.size, 0, none⟩) 3 3) [239, 0, 1] rfl (BL.new W0 [239, 0, 1] (by simp)) (by have := HW.out; simp; omega) ?_; intro v1 W1 hA1)
  have M1 : Hid (Wr B bx w W1 (.slice ca n n) (.slice sa m m) cs ss d v v1 (l ++ [239, 0, 1])) := (M.out.past (below_alloc _ _)).step hA1
  clear M hA1
  have M := M1
  clear M1
  refine wp_region_held_drew (S := fun V' => CBox V' bx 84 [.slice ca n n, .slice sa m m, .int .u64 (d : Int)]) (by kernel_rfl) (M.out.box.past below_drew) (fun hHeld => ?_)
  have M0 : Hid (Wr B bx w W1.drew (.slice ca n n) (.slice sa m m) cs ss d v v1 (l ++ [239, 0, 1])) := M.out.past below_drew
  clear M
  generalize W1.drew = z0 at hHeld M0 ⊢
  refine wpAnyH_take (i := 0) (v := v1) ov0 (by kernel_rfl) (by kernel_rfl) (by kernel_rfl) (fun _ _ _ h => h) (Or.inl ⟨by rfl, fun V' hS => ?_⟩) hHeld ?_
  · go_simp
  simp only [Act.put, List.setIfInBounds_toArray, List.set_cons_zero, List.set_cons_succ]
  refine wpAnyH_take (i := 3) (v := .pointer (some ⟨bx, 0, none⟩)) ov3 (by kernel_rfl) (by kernel_rfl) (by kernel_rfl) (fun _ _ _ h => h) (Or.inl ⟨by rfl, fun V' hS => ?_⟩) hHeld ?_
  · go_simp
  simp only [Act.put, List.setIfInBounds_toArray, List.set_cons_zero, List.set_cons_succ]
  refine wpAnyH_take (i := 4) (v := .slice ca n n) ov4 (by kernel_rfl) (by kernel_rfl) (by kernel_rfl) (fun _ _ _ h => h) (Or.inl ⟨by rfl, fun V' hS => ?_⟩) hHeld ?_
  · have c0 : V'.cell? ⟨bx, 0, none⟩ = some (.slice ca n n) := hS.cell 0
    go_simp
  simp only [Act.put, List.setIfInBounds_toArray, List.set_cons_zero, List.set_cons_succ]
  refine wpAnyH_take (i := 5) (v := .int .i64 (n : Int)) ov5 (by kernel_rfl) (by kernel_rfl) (by kernel_rfl) (fun _ _ _ h => h) (Or.inl ⟨by rfl, fun V' hS => ?_⟩) hHeld ?_
  · go_simp
  simp only [Act.put, List.setIfInBounds_toArray, List.set_cons_zero, List.set_cons_succ]
  refine wpAnyH_take (i := 6) (v := .int .u64 (n : Int)) ov6 (by kernel_rfl) (by kernel_rfl) (by kernel_rfl) (fun _ _ _ h => h) (Or.inl ⟨by rfl, fun V' hS => ?_⟩) hHeld ?_
  · go_simp
  simp only [Act.put, List.setIfInBounds_toArray, List.set_cons_zero, List.set_cons_succ]
  refine wpAnyH_take (i := 7) (v := .int .u64 (q : Int)) ov7 (by kernel_rfl) (by kernel_rfl) (by kernel_rfl) (fun _ _ _ h => h) (Or.inl ⟨by rfl, fun V' hS => ?_⟩) hHeld ?_
  · go_simp
  simp only [Act.put, List.setIfInBounds_toArray, List.set_cons_zero, List.set_cons_succ]
  refine wpAnyH_ready (rs := [1]) (by kernel_rfl) (by simp) ?_
  refine AllReadyH.cons ov1 (fun K hK => ?_) AllReadyH.nil
  rw [if_pos (by rfl)]
  go_simp
  refine hK.out _ (z0.alloc (.cells #[.int .u8 1] 5)) (hHeld.past (below_alloc _ _)) (fun _ => ?_)
  clear hK K
  (try simp only [Act.put, List.setIfInBounds_toArray, List.set_cons_zero, List.set_cons_succ])
  refine wpAnyH_ready (rs := [2]) (by kernel_rfl) (by simp) ?_
  refine AllReadyH.cons ov2 (fun K hK => ?_) AllReadyH.nil
  rw [if_pos (by rfl)]
  refine wp_appB (P := fun k => k = z0.heap.size) _ _ rfl B (M0.out.past (below_alloc _ _)).le v1 (l ++ [239, 0, 1]) rfl (M0.out.past (below_alloc _ _)).app.row (.slice (some ⟨z0.heap.size, 0, none⟩) 1 1) [1] rfl (BL.new z0 [1] (by simp)) (by have := HW.out; have := EN.out; have := HLN.out; simp only [List.length_append, List.length_cons, List.length_nil]; omega) ?_
  intro zv2 z2 hA2
  have M2 : Hid (Wr B bx w z2 (.slice ca n n) (.slice sa m m) cs ss d v zv2 (l ++ [239, 0, 1] ++ [1])) := (M0.out.past (below_alloc _ _)).step hA2
  refine hK.out _ z2 M2.out.box (fun _ => ?_)
  clear hK K
  (try simp only [Act.put, List.setIfInBounds_toArray, List.set_cons_zero, List.set_cons_succ])
  clear hA2
  refine wpAnyH_ready (rs := [8]) (by kernel_rfl) (by simp) ?_
  refine AllReadyH.cons ov8 (fun K hK => ?_) AllReadyH.nil
  rw [if_pos (by rfl)]
  go_simp
  refine (writeNumber_is z2 B M2.out.le zv2 (l ++ [239, 0, 1] ++ [1]) M2.out.app.row 2 q (by omega) (by have := HW.out; omega) (by have := HW.out; have := HQ.out; have := EN.out; have := HLN.out; simp only [List.length_append, List.length_cons, List.length_nil]; omega)).mono ?_
  rintro e z3 ⟨zv3, rfl, hA3⟩
  have M3 : Hid (Wr B bx w z3 (.slice ca n n) (.slice sa m m) cs ss d v zv3 ((l ++ [239, 0, 1] ++ [1]) ++ dig 2 q)) := M2.out.step hA3
  clear hA3
  (try go_wp2_with fail)
  refine hK.out _ _ M3.out.box (fun _ => ?_)
  clear hK K
  (try simp only [Act.put, List.setIfInBounds_toArray, List.set_cons_zero, List.set_cons_succ])
  refine wpAnyH_take (i := 9) (v := zv3) ov9 (by kernel_rfl) (by kernel_rfl) (by kernel_rfl) (fun _ _ _ h => h) (Or.inl ⟨by rfl, fun V' hS => ?_⟩) M3.out.box ?_
  · go_simp
  simp only [Act.put, List.setIfInBounds_toArray, List.set_cons_zero, List.set_cons_succ]
  refine wpAnyH_done (by kernel_rfl) ?_ _
  clear hHeld M0 M2
  have M := M3
  clear M3
  go_upto_region 3 with fail
  refine wp_region_held_drew (S := fun V' => CBox V' bx 84 [.slice ca n n, .slice sa m m, .int .u64 (d : Int)]) (by kernel_rfl) (M.out.box.past below_drew) (fun hHeld => ?_)
  have M0 : Hid (Wr B bx w z3.drew (.slice ca n n) (.slice sa m m) cs ss d v zv3 ((l ++ [239, 0, 1] ++ [1]) ++ dig 2 q)) := M.out.past below_drew
  clear M
  generalize z3.drew = y0 at hHeld M0 ⊢
  refine wpAnyH_take (i := 0) (v := zv3) ov0 (by kernel_rfl) (by kernel_rfl) (by kernel_rfl) (fun _ _ _ h => h) (Or.inl ⟨by rfl, fun V' hS => ?_⟩) hHeld ?_
  · go_simp
  simp only [Act.put, List.setIfInBounds_toArray, List.set_cons_zero, List.set_cons_succ]
  refine wpAnyH_take (i := 3) (v := .pointer (some ⟨bx, 0, none⟩)) ov3 (by kernel_rfl) (by kernel_rfl) (by kernel_rfl) (fun _ _ _ h => h) (Or.inl ⟨by rfl, fun V' hS => ?_⟩) hHeld ?_
  · go_simp
  simp only [Act.put, List.setIfInBounds_toArray, List.set_cons_zero, List.set_cons_succ]
  refine wpAnyH_take (i := 4) (v := .slice ca n n) ov4 (by kernel_rfl) (by kernel_rfl) (by kernel_rfl) (fun _ _ _ h => h) (Or.inl ⟨by rfl, fun V' hS => ?_⟩) hHeld ?_
  · have c0 : V'.cell? ⟨bx, 0, none⟩ = some (.slice ca n n) := hS.cell 0
    go_simp
  simp only [Act.put, List.setIfInBounds_toArray, List.set_cons_zero, List.set_cons_succ]
  refine wpAnyH_ready (rs := [1]) (by kernel_rfl) (by simp) ?_
  refine AllReadyH.cons ov1 (fun K hK => ?_) AllReadyH.nil
  rw [if_pos (by rfl)]
  go_simp
  refine hK.out _ (y0.alloc (.cells #[.int .u8 2] 5)) (hHeld.past (below_alloc _ _)) (fun _ => ?_)
  clear hK K
  (try simp only [Act.put, List.setIfInBounds_toArray, List.set_cons_zero, List.set_cons_succ])
  refine wpAnyH_ready (rs := [2]) (by kernel_rfl) (by simp) ?_
  refine AllReadyH.cons ov2 (fun K hK => ?_) AllReadyH.nil
  rw [if_pos (by rfl)]
  refine wp_appB (P := fun k => k = y0.heap.size) _ _ rfl B (M0.out.past (below_alloc _ _)).le zv3 ((l ++ [239, 0, 1] ++ [1]) ++ dig 2 q) rfl (M0.out.past (below_alloc _ _)).app.row (.slice (some ⟨y0.heap.size, 0, none⟩) 1 1) [2] rfl (BL.new y0 [2] (by simp)) (by have := HW.out; have := EN.out; have := HLN.out; simp only [List.length_append, List.length_cons, List.length_nil]; omega) ?_
  intro yv2 y2 hA2
  have M2 : Hid (Wr B bx w y2 (.slice ca n n) (.slice sa m m) cs ss d v yv2 ((l ++ [239, 0, 1] ++ [1]) ++ dig 2 q ++ [2])) := (M0.out.past (below_alloc _ _)).step hA2
  refine hK.out _ y2 M2.out.box (fun _ => ?_)
  clear hK K
  (try simp only [Act.put, List.setIfInBounds_toArray, List.set_cons_zero, List.set_cons_succ])
  clear hA2
  refine wpAnyH_ready (rs := [5]) (by kernel_rfl) (by simp) ?_
  refine AllReadyH.cons ov5 (fun K hK => ?_) AllReadyH.nil
  rw [if_pos (by rfl)]
  go_simp
  refine (writeLengths_is y2 B M2.out.le yv2 ((l ++ [239, 0, 1] ++ [1]) ++ dig 2 q ++ [2]) M2.out.app.row 2 (by omega) (.slice ca n n) cs M2.out.uc HX.out.1 (by have := HW.out; have := EN.out; omega) (by have := HW.out; have := HQ.out; have := EN.out; have := EN.out; have := HLN.out; simp only [List.length_append, List.length_cons, List.length_nil]; omega)).mono ?_
  rintro e y3 ⟨yv3, rfl, hA3⟩
  have M3 : Hid (Wr B bx w y3 (.slice ca n n) (.slice sa m m) cs ss d v yv3 (((l ++ [239, 0, 1] ++ [1]) ++ dig 2 q ++ [2]) ++ (dig 2 cs.length ++ cs.flatMap (dig 2)))) := M2.out.step hA3
  clear hA3
  (try go_wp2_with fail)
  refine hK.out _ _ M3.out.box (fun _ => ?_)
  clear hK K
  (try simp only [Act.put, List.setIfInBounds_toArray, List.set_cons_zero, List.set_cons_succ])
  refine wpAnyH_take (i := 6) (v := yv3) ov6 (by kernel_rfl) (by kernel_rfl) (by kernel_rfl) (fun _ _ _ h => h) (Or.inl ⟨by rfl, fun V' hS => ?_⟩) M3.out.box ?_
  · go_simp
  simp only [Act.put, List.setIfInBounds_toArray, List.set_cons_zero, List.set_cons_succ]
  refine wpAnyH_done (by kernel_rfl) ?_ _
  clear hHeld M0 M2
  have M := M3
  clear M3
  have c1 : y3.cell? ⟨bx, 1, none⟩ = some (.slice sa m m) := M.out.box.cell 1
  by_cases em : m = 0
  · have EM : Hid (m = 0) := em
    have m0 : ¬ (0 : Int) < (m : Int) := by omega
    clear em
    go_upto_region 6 with fail
    clear c1
    refine wp_region_held_drew (S := fun V' => CBox V' bx 84 [.slice ca n n, .slice sa m m, .int .u64 (d : Int)]) (by kernel_rfl) (M.out.box.past below_drew) (fun hHeld => ?_)
    have M0 : Hid (Wr B bx w y3.drew (.slice ca n n) (.slice sa m m) cs ss d v yv3 (((l ++ [239, 0, 1] ++ [1]) ++ dig 2 q ++ [2]) ++ (dig 2 cs.length ++ cs.flatMap (dig 2)))) := M.out.past below_drew
    clear M
    generalize y3.drew = x0 at hHeld M0 ⊢
    refine wpAnyH_take (i := 0) (v := yv3) ov0 (by kernel_rfl) (by kernel_rfl) (by kernel_rfl) (fun _ _ _ h => h) (Or.inl ⟨by rfl, fun V' hS => ?_⟩) hHeld ?_
    · go_simp
    simp only [Act.put, List.setIfInBounds_toArray, List.set_cons_zero, List.set_cons_succ]
    refine wpAnyH_take (i := 3) (v := .pointer (some ⟨bx, 2, none⟩)) ov3 (by kernel_rfl) (by kernel_rfl) (by kernel_rfl) (fun _ _ _ h => h) (Or.inl ⟨by rfl, fun V' hS => ?_⟩) hHeld ?_
    · go_simp
    simp only [Act.put, List.setIfInBounds_toArray, List.set_cons_zero, List.set_cons_succ]
    refine wpAnyH_take (i := 4) (v := .int .u64 (d : Int)) ov4 (by kernel_rfl) (by kernel_rfl) (by kernel_rfl) (fun _ _ _ h => h) (Or.inl ⟨by rfl, fun V' hS => ?_⟩) hHeld ?_
    · have c0 : V'.cell? ⟨bx, 2, none⟩ = some (.int .u64 (d : Int)) := hS.cell 2
      go_simp
    simp only [Act.put, List.setIfInBounds_toArray, List.set_cons_zero, List.set_cons_succ]
    refine wpAnyH_ready (rs := [1]) (by kernel_rfl) (by simp) ?_
    refine AllReadyH.cons ov1 (fun K hK => ?_) AllReadyH.nil
    rw [if_pos (by rfl)]
    go_simp
    refine hK.out _ (x0.alloc (.cells #[.int .u8 255] 5)) (hHeld.past (below_alloc _ _)) (fun _ => ?_)
    clear hK K
    (try simp only [Act.put, List.setIfInBounds_toArray, List.set_cons_zero, List.set_cons_succ])
    refine wpAnyH_ready (rs := [2]) (by kernel_rfl) (by simp) ?_
    refine AllReadyH.cons ov2 (fun K hK => ?_) AllReadyH.nil
    rw [if_pos (by rfl)]
    refine wp_appB (P := fun k => k = x0.heap.size) _ _ rfl B (M0.out.past (below_alloc _ _)).le yv3 (((l ++ [239, 0, 1] ++ [1]) ++ dig 2 q ++ [2]) ++ (dig 2 cs.length ++ cs.flatMap (dig 2))) rfl (M0.out.past (below_alloc _ _)).app.row (.slice (some ⟨x0.heap.size, 0, none⟩) 1 1) [255] rfl (BL.new x0 [255] (by simp)) (by have := HW.out; have := EN.out; have := HLN.out; simp only [List.length_append, List.length_cons, List.length_nil]; omega) ?_
    intro xv2 x2 hA2
    have M2 : Hid (Wr B bx w x2 (.slice ca n n) (.slice sa m m) cs ss d v xv2 (((l ++ [239, 0, 1] ++ [1]) ++ dig 2 q ++ [2]) ++ (dig 2 cs.length ++ cs.flatMap (dig 2)) ++ [255])) := (M0.out.past (below_alloc _ _)).step hA2
    refine hK.out _ x2 M2.out.box (fun _ => ?_)
    clear hK K
    (try simp only [Act.put, List.setIfInBounds_toArray, List.set_cons_zero, List.set_cons_succ])
    clear hA2
    refine wpAnyH_ready (rs := [5]) (by kernel_rfl) (by simp) ?_
    refine AllReadyH.cons ov5 (fun K hK => ?_) AllReadyH.nil
    rw [if_pos (by rfl)]
    go_simp
    refine (writeNumber_is x2 B M2.out.le xv2 (((l ++ [239, 0, 1] ++ [1]) ++ dig 2 q ++ [2]) ++ (dig 2 cs.length ++ cs.flatMap (dig 2)) ++ [255]) M2.out.app.row 2 d (by omega) (by have := HW.out; omega) (by have := HW.out; have := HQ.out; have := EN.out; have := HLN.out; simp only [List.length_append, List.length_cons, List.length_nil]; omega)).mono ?_
    rintro e x3 ⟨xv3, rfl, hA3⟩
    have M3 : Hid (Wr B bx w x3 (.slice ca n n) (.slice sa m m) cs ss d v xv3 ((((l ++ [239, 0, 1] ++ [1]) ++ dig 2 q ++ [2]) ++ (dig 2 cs.length ++ cs.flatMap (dig 2)) ++ [255]) ++ dig 2 d)) := M2.out.step hA3
    clear hA3
    (try go_wp2_with fail)
    refine hK.out _ _ M3.out.box (fun _ => ?_)
    clear hK K
    (try simp only [Act.put, List.setIfInBounds_toArray, List.set_cons_zero, List.set_cons_succ])
    refine wpAnyH_take (i := 6) (v := xv3) ov6 (by kernel_rfl) (by kernel_rfl) (by kernel_rfl) (fun _ _ _ h => h) (Or.inl ⟨by rfl, fun V' hS => ?_⟩) M3.out.box ?_
    · go_simp
    simp only [Act.put, List.setIfInBounds_toArray, List.set_cons_zero, List.set_cons_succ]
    refine wpAnyH_done (by kernel_rfl) ?_ _
    clear hHeld M0 M2
    go_wp2_with (at_builtin; refine wpList_appB (P := fun k => k = x3.heap.size) rfl _ _ rfl B (M3.out.past (below_alloc _ _)).le xv3 ((((l ++ [239, 0, 1] ++ [1]) ++ dig 2 q ++ [2]) ++ (dig 2 cs.length ++ cs.flatMap (dig 2)) ++ [255]) ++ dig 2 d) rfl (M3.out.past (below_alloc _ _)).app.row (.slice (some ⟨x3.heap.size, 0, none⟩) 1 1) [0] rfl (BL.new x3 [0] (by simp)) (by have := HW.out; have := EN.out; have := EN.out; have := HLN.out; simp only [List.length_append, List.length_cons, List.length_nil]; omega) ?_; intro v9 W9 hA9)
    have M9 := ((M3.out.past (below_alloc _ _)).step hA9).app
    go_ret
    refine ⟨_, rfl, ?_⟩
    have EF : ((((l ++ [239, 0, 1] ++ [1]) ++ dig 2 q ++ [2]) ++ (dig 2 cs.length ++ cs.flatMap (dig 2)) ++ [255]) ++ dig 2 d) ++ [0] = F := by rw [HF.out, HQ.out, ← EN.out.1]; rw [if_pos EM.out]; simp only [List.append_assoc, List.nil_append]
    rw [← EF]
    exact M9
  · have EM : Hid (¬ m = 0) := em
    have m0 : (0 : Int) < (m : Int) := by omega
    clear em
    go_upto_region 5 with fail
    clear c1
    refine wp_region_held_drew (S := fun V' => CBox V' bx 84 [.slice ca n n, .slice sa m m, .int .u64 (d : Int)]) (by kernel_rfl) (M.out.box.past below_drew) (fun hHeld => ?_)
    have M0 : Hid (Wr B bx w y3.drew (.slice ca n n) (.slice sa m m) cs ss d v yv3 (((l ++ [239, 0, 1] ++ [1]) ++ dig 2 q ++ [2]) ++ (dig 2 cs.length ++ cs.flatMap (dig 2)))) := M.out.past below_drew
    clear M
    generalize y3.drew = x0 at hHeld M0 ⊢
    refine wpAnyH_take (i := 0) (v := yv3) ov0 (by kernel_rfl) (by kernel_rfl) (by kernel_rfl) (fun _ _ _ h => h) (Or.inl ⟨by rfl, fun V' hS => ?_⟩) hHeld ?_
    · go_simp
    simp only [Act.put, List.setIfInBounds_toArray, List.set_cons_zero, List.set_cons_succ]
    refine wpAnyH_take (i := 3) (v := .pointer (some ⟨bx, 1, none⟩)) ov3 (by kernel_rfl) (by kernel_rfl) (by kernel_rfl) (fun _ _ _ h => h) (Or.inl ⟨by rfl, fun V' hS => ?_⟩) hHeld ?_
    · go_simp
    simp only [Act.put, List.setIfInBounds_toArray, List.set_cons_zero, List.set_cons_succ]
    refine wpAnyH_take (i := 4) (v := .slice sa m m) ov4 (by kernel_rfl) (by kernel_rfl) (by kernel_rfl) (fun _ _ _ h => h) (Or.inl ⟨by rfl, fun V' hS => ?_⟩) hHeld ?_
    · have c0 : V'.cell? ⟨bx, 1, none⟩ = some (.slice sa m m) := hS.cell 1
      go_simp
    simp only [Act.put, List.setIfInBounds_toArray, List.set_cons_zero, List.set_cons_succ]
    refine wpAnyH_ready (rs := [1]) (by kernel_rfl) (by simp) ?_
    refine AllReadyH.cons ov1 (fun K hK => ?_) AllReadyH.nil
    rw [if_pos (by rfl)]
    go_simp
    refine hK.out _ (x0.alloc (.cells #[.int .u8 3] 5)) (hHeld.past (below_alloc _ _)) (fun _ => ?_)
    clear hK K
    (try simp only [Act.put, List.setIfInBounds_toArray, List.set_cons_zero, List.set_cons_succ])
    refine wpAnyH_ready (rs := [2]) (by kernel_rfl) (by simp) ?_
    refine AllReadyH.cons ov2 (fun K hK => ?_) AllReadyH.nil
    rw [if_pos (by rfl)]
    refine wp_appB (P := fun k => k = x0.heap.size) _ _ rfl B (M0.out.past (below_alloc _ _)).le yv3 (((l ++ [239, 0, 1] ++ [1]) ++ dig 2 q ++ [2]) ++ (dig 2 cs.length ++ cs.flatMap (dig 2))) rfl (M0.out.past (below_alloc _ _)).app.row (.slice (some ⟨x0.heap.size, 0, none⟩) 1 1) [3] rfl (BL.new x0 [3] (by simp)) (by have := HW.out; have := EN.out; have := HLN.out; simp only [List.length_append, List.length_cons, List.length_nil]; omega) ?_
    intro xv2 x2 hA2
    have M2 : Hid (Wr B bx w x2 (.slice ca n n) (.slice sa m m) cs ss d v xv2 (((l ++ [239, 0, 1] ++ [1]) ++ dig 2 q ++ [2]) ++ (dig 2 cs.length ++ cs.flatMap (dig 2)) ++ [3])) := (M0.out.past (below_alloc _ _)).step hA2
    refine hK.out _ x2 M2.out.box (fun _ => ?_)
    clear hK K
    (try simp only [Act.put, List.setIfInBounds_toArray, List.set_cons_zero, List.set_cons_succ])
    clear hA2
    refine wpAnyH_ready (rs := [5]) (by kernel_rfl) (by simp) ?_
    refine AllReadyH.cons ov5 (fun K hK => ?_) AllReadyH.nil
    rw [if_pos (by rfl)]
    go_simp
    refine (writeLengths_is x2 B M2.out.le xv2 (((l ++ [239, 0, 1] ++ [1]) ++ dig 2 q ++ [2]) ++ (dig 2 cs.length ++ cs.flatMap (dig 2)) ++ [3]) M2.out.app.row 4 (by omega) (.slice sa m m) ss M2.out.us HX.out.2 (by have := HW.out; have := EN.out; omega) (by have := HW.out; have := HQ.out; have := EN.out; have := EN.out; have := HLN.out; simp only [List.length_append, List.length_cons, List.length_nil]; omega)).mono ?_
    rintro e x3 ⟨xv3, rfl, hA3⟩
    have M3 : Hid (Wr B bx w x3 (.slice ca n n) (.slice sa m m) cs ss d v xv3 ((((l ++ [239, 0, 1] ++ [1]) ++ dig 2 q ++ [2]) ++ (dig 2 cs.length ++ cs.flatMap (dig 2)) ++ [3]) ++ (dig 2 ss.length ++ ss.flatMap (dig 4)))) := M2.out.step hA3
    clear hA3
    (try go_wp2_with fail)
    refine hK.out _ _ M3.out.box (fun _ => ?_)
    clear hK K
    (try simp only [Act.put, List.setIfInBounds_toArray, List.set_cons_zero, List.set_cons_succ])
    refine wpAnyH_take (i := 6) (v := xv3) ov6 (by kernel_rfl) (by kernel_rfl) (by kernel_rfl) (fun _ _ _ h => h) (Or.inl ⟨by rfl, fun V' hS => ?_⟩) M3.out.box ?_
    · go_simp
    simp only [Act.put, List.setIfInBounds_toArray, List.set_cons_zero, List.set_cons_succ]
    refine wpAnyH_done (by kernel_rfl) ?_ _
    clear hHeld M0 M2
    have M := M3
    clear M3
    go_upto_region 6 with fail
    refine wp_region_held_drew (S := fun V' => CBox V' bx 84 [.slice ca n n, .slice sa m m, .int .u64 (d : Int)]) (by kernel_rfl) (M.out.box.past below_drew) (fun hHeld => ?_)
    have M0 : Hid (Wr B bx w x3.drew (.slice ca n n) (.slice sa m m) cs ss d v xv3 ((((l ++ [239, 0, 1] ++ [1]) ++ dig 2 q ++ [2]) ++ (dig 2 cs.length ++ cs.flatMap (dig 2)) ++ [3]) ++ (dig 2 ss.length ++ ss.flatMap (dig 4)))) := M.out.past below_drew
    clear M
    generalize x3.drew = u0 at hHeld M0 ⊢
    refine wpAnyH_take (i := 0) (v := xv3) ov0 (by kernel_rfl) (by kernel_rfl) (by kernel_rfl) (fun _ _ _ h => h) (Or.inl ⟨by rfl, fun V' hS => ?_⟩) hHeld ?_
    · go_simp
    simp only [Act.put, List.setIfInBounds_toArray, List.set_cons_zero, List.set_cons_succ]
    refine wpAnyH_take (i := 3) (v := .pointer (some ⟨bx, 2, none⟩)) ov3 (by kernel_rfl) (by kernel_rfl) (by kernel_rfl) (fun _ _ _ h => h) (Or.inl ⟨by rfl, fun V' hS => ?_⟩) hHeld ?_
    · go_simp
    simp only [Act.put, List.setIfInBounds_toArray, List.set_cons_zero, List.set_cons_succ]
    refine wpAnyH_take (i := 4) (v := .int .u64 (d : Int)) ov4 (by kernel_rfl) (by kernel_rfl) (by kernel_rfl) (fun _ _ _ h => h) (Or.inl ⟨by rfl, fun V' hS => ?_⟩) hHeld ?_
    · have c0 : V'.cell? ⟨bx, 2, none⟩ = some (.int .u64 (d : Int)) := hS.cell 2
      go_simp
    simp only [Act.put, List.setIfInBounds_toArray, List.set_cons_zero, List.set_cons_succ]
    refine wpAnyH_ready (rs := [1]) (by kernel_rfl) (by simp) ?_
    refine AllReadyH.cons ov1 (fun K hK => ?_) AllReadyH.nil
    rw [if_pos (by rfl)]
    go_simp
    refine hK.out _ (u0.alloc (.cells #[.int .u8 255] 5)) (hHeld.past (below_alloc _ _)) (fun _ => ?_)
    clear hK K
    (try simp only [Act.put, List.setIfInBounds_toArray, List.set_cons_zero, List.set_cons_succ])
    refine wpAnyH_ready (rs := [2]) (by kernel_rfl) (by simp) ?_
    refine AllReadyH.cons ov2 (fun K hK => ?_) AllReadyH.nil
    rw [if_pos (by rfl)]
    refine wp_appB (P := fun k => k = u0.heap.size) _ _ rfl B (M0.out.past (below_alloc _ _)).le xv3 ((((l ++ [239, 0, 1] ++ [1]) ++ dig 2 q ++ [2]) ++ (dig 2 cs.length ++ cs.flatMap (dig 2)) ++ [3]) ++ (dig 2 ss.length ++ ss.flatMap (dig 4))) rfl (M0.out.past (below_alloc _ _)).app.row (.slice (some ⟨u0.heap.size, 0, none⟩) 1 1) [255] rfl (BL.new u0 [255] (by simp)) (by have := HW.out; have := EN.out; have := HLN.out; simp only [List.length_append, List.length_cons, List.length_nil]; omega) ?_
    intro uv2 u2 hA2
    have M2 : Hid (Wr B bx w u2 (.slice ca n n) (.slice sa m m) cs ss d v uv2 ((((l ++ [239, 0, 1] ++ [1]) ++ dig 2 q ++ [2]) ++ (dig 2 cs.length ++ cs.flatMap (dig 2)) ++ [3]) ++ (dig 2 ss.length ++ ss.flatMap (dig 4)) ++ [255])) := (M0.out.past (below_alloc _ _)).step hA2
    refine hK.out _ u2 M2.out.box (fun _ => ?_)
    clear hK K
    (try simp only [Act.put, List.setIfInBounds_toArray, List.set_cons_zero, List.set_cons_succ])
    clear hA2
    refine wpAnyH_ready (rs := [5]) (by kernel_rfl) (by simp) ?_
    refine AllReadyH.cons ov5 (fun K hK => ?_) AllReadyH.nil
    rw [if_pos (by rfl)]
    go_simp
    refine (writeNumber_is u2 B M2.out.le uv2 ((((l ++ [239, 0, 1] ++ [1]) ++ dig 2 q ++ [2]) ++ (dig 2 cs.length ++ cs.flatMap (dig 2)) ++ [3]) ++ (dig 2 ss.length ++ ss.flatMap (dig 4)) ++ [255]) M2.out.app.row 2 d (by omega) (by have := HW.out; omega) (by have := HW.out; have := HQ.out; have := EN.out; have := HLN.out; simp only [List.length_append, List.length_cons, List.length_nil]; omega)).mono ?_
    rintro e u3 ⟨uv3, rfl, hA3⟩
    have M3 : Hid (Wr B bx w u3 (.slice ca n n) (.slice sa m m) cs ss d v uv3 (((((l ++ [239, 0, 1] ++ [1]) ++ dig 2 q ++ [2]) ++ (dig 2 cs.length ++ cs.flatMap (dig 2)) ++ [3]) ++ (dig 2 ss.length ++ ss.flatMap (dig 4)) ++ [255]) ++ dig 2 d)) := M2.out.step hA3
    clear hA3
    (try go_wp2_with fail)
    refine hK.out _ _ M3.out.box (fun _ => ?_)
    clear hK K
    (try simp only [Act.put, List.setIfInBounds_toArray, List.set_cons_zero, List.set_cons_succ])
    refine wpAnyH_take (i := 6) (v := uv3) ov6 (by kernel_rfl) (by kernel_rfl) (by kernel_rfl) (fun _ _ _ h => h) (Or.inl ⟨by rfl, fun V' hS => ?_⟩) M3.out.box ?_
    · go_simp
    simp only [Act.put, List.setIfInBounds_toArray, List.set_cons_zero, List.set_cons_succ]
    refine wpAnyH_done (by kernel_rfl) ?_ _
    clear hHeld M0 M2
    go_wp2_with (at_builtin; refine wpList_appB (P := fun k => k = u3.heap.size) rfl _ _ rfl B (M3.out.past (below_alloc _ _)).le uv3 (((((l ++ [239, 0, 1] ++ [1]) ++ dig 2 q ++ [2]) ++ (dig 2 cs.length ++ cs.flatMap (dig 2)) ++ [3]) ++ (dig 2 ss.length ++ ss.flatMap (dig 4)) ++ [255]) ++ dig 2 d) rfl (M3.out.past (below_alloc _ _)).app.row (.slice (some ⟨u3.heap.size, 0, none⟩) 1 1) [0] rfl (BL.new u3 [0] (by simp)) (by have := HW.out; have := EN.out; have := EN.out; have := HLN.out; simp only [List.length_append, List.length_cons, List.length_nil]; omega) ?_; intro v9 W9 hA9)
    have M9 := ((M3.out.past (below_alloc _ _)).step hA9).app
    go_ret
    refine ⟨_, rfl, ?_⟩
    have EF : (((((l ++ [239, 0, 1] ++ [1]) ++ dig 2 q ++ [2]) ++ (dig 2 cs.length ++ cs.flatMap (dig 2)) ++ [3]) ++ (dig 2 ss.length ++ ss.flatMap (dig 4)) ++ [255]) ++ dig 2 d) ++ [0] = F := by rw [HF.out, HQ.out, ← EN.out.1]; rw [if_neg EM.out, ← EN.out.2]; simp only [List.append_assoc]
    rw [← EF]
    exact M9
end Go.Proofs.Ytndhabhlajldeaa
/- Package container: headerOf, writeTypes. -/
namespace Go.Proofs.Ytndhabhlajldeaa
open Go.RowKit
/-- the boxes of headerOf -/
structure HO (bw : Nat) (w V : World) (b1 b2 : Nat) (tv cv sv dv : Value) (z : Int) : Prop where
  bel : Below bw w V
  c1 : CBox V b1 28 [tv, cv, sv, dv, .int .i64 z]
  le : bw ≤ b2
  ge : bw ≤ w.heap.size
theorem HO.past {bw : Nat} {w V V' : World} {b1 b2 : Nat} {tv cv sv dv : Value} {z : Int} (h : HO bw w V b1 b2 tv cv sv dv z) (k : Below V.heap.size V V') : HO bw w V' b1 b2 tv cv sv dv z := ⟨h.bel.trans (k.mono (Nat.le_trans h.ge h.bel.size)), h.c1.past k, h.le, h.ge⟩
theorem UL.but2 {W W' : World} {v : Value} {l : List Nat} {b : Nat} {t : TypeId} {cs : List Value} (h : UL W v l) (k : But (fun i => i = b) W W') (hb : CBox W b t cs) (ht : t ≠ 73) : UL W' v l := by
  rcases h with h | ⟨g, e, h⟩
  · exact Or.inl h
  · refine Or.inr ⟨g, e, h.but k fun hg => ?_⟩
    subst hg
    have hb' : W.heap[g]? = _ := hb
    rw [show W.heap[g]? = _ from h] at hb'
    injection hb' with hb'
    injection hb' with _ hb' _
    exact ht hb'.symm
theorem HO.but2 {bw : Nat} {w V V' : World} {b1 b2 : Nat} {tv cv sv dv : Value} {z : Int} (h : HO bw w V b1 b2 tv cv sv dv z) (k : But (fun i => i = b2) V V') (hb : b1 ≠ b2) : HO bw w V' b1 b2 tv cv sv dv z :=
  ⟨h.bel.trans (k.below (fun i e => by rw [e]; exact h.le) (Nat.le_trans h.ge h.bel.size)), h.c1.but k hb, h.le, h.ge⟩
set_option maxHeartbeats 4000000 in
set_option maxRecDepth 100000 in
theorem headerOf_is {P : Nat → Prop} (w : World) (v : Value) (c : Con) (h : CW P w v c) (hn : 0 ≤ c.n ∧ c.n ≤ 65535) (hc : c.cs.length ≤ 16777216) (hs : c.ss.length ≤ 16777216) : Calls Try.prog 74 #[v] w fun e w' => ∃ u1 u2, e = .returned (.agg #[u1, u2, .int .u64 (c.n.toNat : Int)]) ∧ UL w' u1 (lns c.cs) ∧ UL w' u2 (lns c.ss) ∧ Below w.heap.size w w' := by
  obtain ⟨tv, cv, sv, dv, rfl, hT, hC, hS, hD⟩ := h
  have LC0 : ∀ W, Below w.heap.size w W → Calls Try.prog 103 #[cv] W fun e w' => ∃ a1, e = .returned (.slice a1 (lns c.cs).length (lns c.cs).length) ∧ UL w' (.slice a1 (lns c.cs).length (lns c.cs).length) (lns c.cs) ∧ Below W.heap.size W w' := fun W hW => (lengths_is W cv c.cs (hC.past hW) hc).mono fun e w' ⟨v', h1, h2, h3⟩ => by obtain ⟨a1, rfl⟩ := h2.len; exact ⟨a1, h1, h2, h3⟩
  have LS0 : ∀ W, Below w.heap.size w W → Calls Try.prog 103 #[sv] W fun e w' => ∃ a1, e = .returned (.slice a1 (lns c.ss).length (lns c.ss).length) ∧ UL w' (.slice a1 (lns c.ss).length (lns c.ss).length) (lns c.ss) ∧ Below W.heap.size W w' := fun W hW => (lengths_is W sv c.ss (hS.past hW) hs).mono fun e w' ⟨v', h1, h2, h3⟩ => by obtain ⟨a1, rfl⟩ := h2.len; exact ⟨a1, h1, h2, h3⟩
  generalize (lns c.cs).length = nc at LC0
  generalize (lns c.ss).length = ns at LS0
  obtain ⟨z, ez⟩ : ∃ z : Nat, c.n = (z : Int) := ⟨c.n.toNat, by omega⟩
  have HZ : Hid (c.n.toNat = z) := by unfold Hid; omega
  have zI : (z : Int) ≤ 65535 := by omega
  have wz : IntKind.u64.wrap (z : Int) = (z : Int) := by rw [IntKind.wrap_u64]; omega
  rw [ez]
  obtain ⟨ta, tc, rfl, _⟩ := hT.len
  obtain ⟨ca, cc, rfl, _⟩ := hC.len
  obtain ⟨sa, sc, rfl, _⟩ := hS.len
  obtain ⟨da, dc, rfl, _⟩ := hD.len
  generalize hbw : w.heap.size = bw at *
  have LC : Hid _ := LC0
  have LS : Hid _ := LS0
  have GB : Hid (w.heap.size = bw) := hbw
  generalize Value.slice ta _ tc = tv at *
  generalize Value.slice ca _ cc = cv at *
  generalize Value.slice sa _ sc = sv at *
  generalize Value.slice da _ dc = dv at *
  rw [← hbw]
  have H0 : Hid (HO w.heap.size w ((w.alloc (.cells #[tv, cv, sv, dv, .int .i64 (z : Int)] 28)).alloc (.cells #[.slice none 0 0, .slice none 0 0, .int .u64 0] 84)) w.heap.size (w.heap.size + 1) tv cv sv dv (z : Int) ∧ CBox ((w.alloc (.cells #[tv, cv, sv, dv, .int .i64 (z : Int)] 28)).alloc (.cells #[.slice none 0 0, .slice none 0 0, .int .u64 0] 84)) (w.heap.size + 1) 84 [.slice none 0 0, .slice none 0 0, .int .u64 0]) := by
    have b1 := below_alloc w (.cells #[tv, cv, sv, dv, .int .i64 (z : Int)] 28)
    have b2 := below_alloc (w.alloc (.cells #[tv, cv, sv, dv, .int .i64 (z : Int)] 28)) (.cells #[.slice none 0 0, .slice none 0 0, .int .u64 0] 84)
    refine ⟨⟨b1.trans (b2.mono b1.size), (CBox.new w 28 [tv, cv, sv, dv, .int .i64 (z : Int)]).past b2, by omega, Nat.le_refl _⟩, ?_⟩
    have := CBox.new (w.alloc (.cells #[tv, cv, sv, dv, .int .i64 (z : Int)] 28)) 84 [.slice none 0 0, .slice none 0 0, .int .u64 0]
    simpa using this
  clear hT hC hS hD ez hn hc hs LC0 LS0
  rw [hbw] at H0
  have NE : Hid (bw ≠ bw + 1) := by unfold Hid; omega
  go_enter Try.func74, Try.ntmps74
  go_upto_region 1 with fail
  clear hbw
  generalize (w.alloc _).alloc _ = W0 at H0 ⊢
  generalize hb2 : bw + 1 = b2 at H0 NE ⊢
  clear hb2
  refine wp_region_held_drew (S := fun V' => HO bw w V' bw b2 tv cv sv dv (z : Int)) (by kernel_rfl) (H0.out.1.past below_drew) (fun hHeld => ?_)
  have C2 : Hid (CBox W0.drew b2 84 [.slice none 0 0, .slice none 0 0, .int .u64 0]) := H0.out.2.past below_drew
  clear H0
  generalize W0.drew = z0 at hHeld C2 ⊢
  refine wpAnyH_take (i := 0) (v := .pointer (some ⟨bw, 1, none⟩)) ov0 (by kernel_rfl) (by kernel_rfl) (by kernel_rfl) (fun _ _ _ h => h) (Or.inl ⟨by rfl, fun V' hS => ?_⟩) hHeld ?_
  · go_simp
  simp only [Act.put, List.setIfInBounds_toArray, List.set_cons_zero, List.set_cons_succ]
  refine wpAnyH_take (i := 1) (v := cv) ov1 (by kernel_rfl) (by kernel_rfl) (by kernel_rfl) (fun _ _ _ h => h) (Or.inl ⟨by rfl, fun V' hS => ?_⟩) hHeld ?_
  · have c0 : V'.cell? ⟨bw, 1, none⟩ = some cv := hS.c1.cell 1
    go_simp
  simp only [Act.put, List.setIfInBounds_toArray, List.set_cons_zero, List.set_cons_succ]
  refine wpAnyH_take (i := 3) (v := .pointer (some ⟨bw, 2, none⟩)) ov3 (by kernel_rfl) (by kernel_rfl) (by kernel_rfl) (fun _ _ _ h => h) (Or.inl ⟨by rfl, fun V' hS => ?_⟩) hHeld ?_
  · go_simp
  simp only [Act.put, List.setIfInBounds_toArray, List.set_cons_zero, List.set_cons_succ]
  refine wpAnyH_take (i := 4) (v := sv) ov4 (by kernel_rfl) (by kernel_rfl) (by kernel_rfl) (fun _ _ _ h => h) (Or.inl ⟨by rfl, fun V' hS => ?_⟩) hHeld ?_
  · have c0 : V'.cell? ⟨bw, 2, none⟩ = some sv := hS.c1.cell 2
    go_simp
  simp only [Act.put, List.setIfInBounds_toArray, List.set_cons_zero, List.set_cons_succ]
  refine wpAnyH_take (i := 6) (v := .pointer (some ⟨bw, 4, none⟩)) ov6 (by kernel_rfl) (by kernel_rfl) (by kernel_rfl) (fun _ _ _ h => h) (Or.inl ⟨by rfl, fun V' hS => ?_⟩) hHeld ?_
  · go_simp
  simp only [Act.put, List.setIfInBounds_toArray, List.set_cons_zero, List.set_cons_succ]
  refine wpAnyH_take (i := 7) (v := .int .i64 (z : Int)) ov7 (by kernel_rfl) (by kernel_rfl) (by kernel_rfl) (fun _ _ _ h => h) (Or.inl ⟨by rfl, fun V' hS => ?_⟩) hHeld ?_
  · have c0 : V'.cell? ⟨bw, 4, none⟩ = some (.int .i64 (z : Int)) := hS.c1.cell 4
    go_simp
  simp only [Act.put, List.setIfInBounds_toArray, List.set_cons_zero, List.set_cons_succ]
  refine wpAnyH_take (i := 8) (v := .int .u64 (z : Int)) ov8 (by kernel_rfl) (by kernel_rfl) (by kernel_rfl) (fun _ _ _ h => h) (Or.inl ⟨by rfl, fun V' hS => ?_⟩) hHeld ?_
  · go_simp
  simp only [Act.put, List.setIfInBounds_toArray, List.set_cons_zero, List.set_cons_succ]
  refine wpAnyH_ready (rs := [2]) (by kernel_rfl) (by simp) ?_
  refine AllReadyH.cons ov2 (fun K hK => ?_) AllReadyH.nil
  rw [if_pos (by rfl)]
  go_simp
  refine (LC.out _ hHeld.bel).mono ?_
  rintro e z1 ⟨a1, rfl, hU1, hB1⟩
  have H1 := hHeld.past hB1
  have C3 : Hid (CBox z1 b2 84 [.slice none 0 0, .slice none 0 0, .int .u64 0]) := C2.out.past hB1
  (try go_wp2_with fail)
  refine hK.out _ _ H1 (fun _ => ?_)
  clear hK K
  (try simp only [Act.put, List.setIfInBounds_toArray, List.set_cons_zero, List.set_cons_succ])
  refine wpAnyH_ready (rs := [5]) (by kernel_rfl) (by simp) ?_
  refine AllReadyH.cons ov5 (fun K hK => ?_) AllReadyH.nil
  rw [if_pos (by rfl)]
  go_simp
  refine (LS.out _ H1.bel).mono ?_
  rintro e z2 ⟨a2, rfl, hU2, hB2⟩
  have H2 := H1.past hB2
  have hU1 := hU1.past hB2
  have C4 : Hid (CBox z2 b2 84 [.slice none 0 0, .slice none 0 0, .int .u64 0]) := C3.out.past hB2
  (try go_wp2_with fail)
  refine hK.out _ _ H2 (fun _ => ?_)
  clear hK K
  (try simp only [Act.put, List.setIfInBounds_toArray, List.set_cons_zero, List.set_cons_succ])
  refine wpAnyH_take (i := 9) (v := (.agg #[.slice a1 nc nc, .slice a2 ns ns, .int .u64 (z : Int)])) ov9 (by kernel_rfl) (by kernel_rfl) (by kernel_rfl) (fun _ _ _ h => h) (Or.inl ⟨by rfl, fun V' hS => ?_⟩) H2 ?_
  · go_simp
  simp only [Act.put, List.setIfInBounds_toArray, List.set_cons_zero, List.set_cons_succ]
  refine wpAnyH_ready (rs := [10]) (by kernel_rfl) (by simp) ?_
  refine AllReadyH.cons ov10 (fun K hK => ?_) AllReadyH.nil
  rw [if_pos (by rfl)]
  have k0 : z2.cell? ⟨b2, 0, none⟩ = some (.slice none 0 0) := C4.out.cell 0
  have k1 : z2.cell? ⟨b2, 1, none⟩ = some (.slice none 0 0) := C4.out.cell 1
  have k2 : z2.cell? ⟨b2, 2, none⟩ = some (.int .u64 0) := C4.out.cell 2
  have f0 := C4.out.frozen 0
  have f1 := C4.out.frozen 1
  have f2 := C4.out.frozen 2
  go_simp
  have HB : But (fun k => k = b2) z2 (((z2.setCell ⟨b2, 0, none⟩ (.slice a1 nc nc)).setCell ⟨b2, 1, none⟩ (.slice a2 ns ns)).setCell ⟨b2, 2, none⟩ (.int .u64 (z : Int))) := (((But.refl (fun k => k = b2) z2).setCell ⟨b2, 0, none⟩ _ (Or.inl rfl)).setCell ⟨b2, 1, none⟩ _ (Or.inl rfl)).setCell ⟨b2, 2, none⟩ _ (Or.inl rfl)
  have HN : Hid (CBox (((z2.setCell ⟨b2, 0, none⟩ (.slice a1 nc nc)).setCell ⟨b2, 1, none⟩ (.slice a2 ns ns)).setCell ⟨b2, 2, none⟩ (.int .u64 (z : Int))) b2 84 [.slice a1 nc nc, .slice a2 ns ns, .int .u64 (z : Int)] ∧ UL (((z2.setCell ⟨b2, 0, none⟩ (.slice a1 nc nc)).setCell ⟨b2, 1, none⟩ (.slice a2 ns ns)).setCell ⟨b2, 2, none⟩ (.int .u64 (z : Int))) (.slice a1 nc nc) (lns c.cs) ∧ UL (((z2.setCell ⟨b2, 0, none⟩ (.slice a1 nc nc)).setCell ⟨b2, 1, none⟩ (.slice a2 ns ns)).setCell ⟨b2, 2, none⟩ (.int .u64 (z : Int))) (.slice a2 ns ns) (lns c.ss) ∧ HO bw w (((z2.setCell ⟨b2, 0, none⟩ (.slice a1 nc nc)).setCell ⟨b2, 1, none⟩ (.slice a2 ns ns)).setCell ⟨b2, 2, none⟩ (.int .u64 (z : Int))) bw b2 tv cv sv dv (z : Int)) := ⟨((C4.out.set 0 _).set 1 _).set 2 _, hU1.but2 HB C4.out (by decide), hU2.but2 HB C4.out (by decide), H2.but2 HB NE.out⟩
  refine hK.out _ (((z2.setCell ⟨b2, 0, none⟩ (.slice a1 nc nc)).setCell ⟨b2, 1, none⟩ (.slice a2 ns ns)).setCell ⟨b2, 2, none⟩ (.int .u64 (z : Int))) HN.out.2.2.2 (fun _ => ?_)
  clear hK K
  (try simp only [Act.put, List.setIfInBounds_toArray, List.set_cons_zero, List.set_cons_succ])
  clear k0 k1 k2 f0 f1 f2 HB
  generalize (((z2.setCell ⟨b2, 0, none⟩ (.slice a1 nc nc)).setCell ⟨b2, 1, none⟩ (.slice a2 ns ns)).setCell ⟨b2, 2, none⟩ (.int .u64 (z : Int))) = z3 at HN ⊢
  refine wpAnyH_done (by kernel_rfl) ?_ _
  go_wp2
  refine bodyPost_ret (v := .agg #[.slice a1 nc nc, .slice a2 ns ns, .int .u64 (z : Int)]) (results_c (p := 2) (ty := 84) Try.results74 _ _ _ ⟨b2, 0, none⟩ rfl (run_loadVar_mid z3 b2 0 84 [.slice a1 nc nc, .slice a2 ns ns, .int .u64 (z : Int)] _ HN.out.1.range Try.underlying84 rfl (by kernel_rfl))) rfl ?_
  exact ⟨.slice a1 nc nc, .slice a2 ns ns, by rw [Int.toNat_natCast], HN.out.2.1, HN.out.2.2.1, by rw [GB.out]; exact HN.out.2.2.2.bel⟩
end Go.Proofs.Ytndhabhlajldeaa
/- Package container: writeTypes. -/
namespace Go.Proofs.Ytndhabhlajldeaa
open Go.RowKit
/-- types that are being written -/
structure WT (B bp : Nat) (w W : World) (v0 v : Value) (l : List Nat) : Prop where
  app : App B 5 1 w W v0 v l.length (bV l)
  cp : CBox W bp 109 partsL
  hB : B ≤ w.heap.size
section
variable {B bp : Nat} {w W W' : World} {v0 v v' : Value} {l l' : List Nat}
theorem WT.le (h : WT B bp w W v0 v l) : B ≤ W.heap.size := Nat.le_trans h.hB h.app.but.size
theorem WT.past (h : WT B bp w W v0 v l) (k : Below W.heap.size W W') : WT B bp w W' v0 v l := ⟨h.app.then k, h.cp.past k, h.hB⟩
theorem WT.step (h : WT B bp w W v0 v l) (k : App B 5 1 W W' v v' l'.length (bV l')) : WT B bp w W' v0 v' l' := ⟨h.app.trans k, h.cp.app k h.app.row (by decide), h.hB⟩
end
def TyOk (t : Ty) : Prop := (0 ≤ t.1 ∧ t.1 ≤ 65535) ∧ (0 ≤ t.2.1 ∧ t.2.1 ≤ 65535) ∧ (0 ≤ t.2.2 ∧ t.2.2 ≤ 65535)
theorem tyb_len (t : Ty) : (tyb t).length = 4 := by simp only [tyb, List.length_append, dig_len]
theorem tys_len : ∀ l : List Ty, (l.flatMap tyb).length = 4 * l.length
  | [] => rfl
  | t :: l => by rw [List.flatMap_cons, List.length_append, tyb_len, tys_len l, List.length_cons]; omega
/-- of a type the first j numbers' bytes -/
def tybj (a b c : Nat) : Nat → List Nat
  | 0 => []
  | 1 => dig 1 a
  | 2 => dig 1 a ++ dig 1 b
  | _ => dig 1 a ++ dig 1 b ++ dig 2 c
theorem tybj_len (a b c j : Nat) : (tybj a b c j).length ≤ 4 := by
  unfold tybj
  split <;> simp only [List.length_append, List.length_nil, dig_len] <;> omega
set_option maxHeartbeats 4000000 in
set_option maxRecDepth 100000 in
theorem writeTypes_is {P : Nat → Prop} (w : World) (B : Nat) (hB : B ≤ w.heap.size) (v : Value) (l : List Nat) (hv : w.ownsRow B 5 1 v l.length (bV l)) (tv : Value) (ts : List Ty) (h : TL P w tv ts) (hP : ∀ g, P g → ¬ OwnV v g) (hT : ∀ t ∈ ts, TyOk t) (hn : ts.length ≤ 16777216) (hl : l.length ≤ 4294967296) :
    Calls Try.prog 76 #[v, tv] w fun e w' => ∃ v', e = .returned v' ∧ App B 5 1 w w' v v' (l ++ ts.flatMap tyb).length (bV (l ++ ts.flatMap tyb)) := by
  obtain ⟨ad, cap, rfl, hc0, hc1⟩ := h.len
  have HP : Hid (TL P w (.slice ad ts.length cap) ts ∧ ∀ g, P g → ¬ OwnV v g) := ⟨h, hP⟩
  have HV : Hid (w.ownsRow B 5 1 v l.length (bV l)) := hv
  have HTy : Hid (∀ t ∈ ts, TyOk t) := hT
  have HW : Hid (ts.length ≤ 16777216 ∧ l.length ≤ 4294967296 ∧ B ≤ w.heap.size) := ⟨hn, hl, hB⟩
  have nI : (ts.length : Int) ≤ 16777216 := by omega
  generalize hN : ts.length = n at *
  have HN : Hid (ts.length = n) := hN
  clear h hc0 hc1 hN hP hv hT hn hl hB
  go_enter Try.func76, Try.ntmps76
  go_upto_region 2 with (go_at_call 87; refine (typeParts_is _).mono ?_; rintro e w1 ⟨rfl, hB1⟩; unfold partsV partsL pF)
  have C0 : Hid (WT B w1.heap.size w (w1.alloc (.cells partsL.toArray 109)) v v l) := ⟨(App.refl HV.out).then (hB1.trans ((below_alloc _ _).mono hB1.size)), CBox.new _ _ _, HW.out.2.2⟩
  unfold partsL pF at C0
  clear hB1
  generalize w1.alloc _ = V0 at C0 ⊢
  generalize w1.heap.size = bp at C0 ⊢
  go_wp2
  go_loopw [0, 13] (fun s0 s13 wr => ∃ k : Nat, s13 = .int .i64 (k : Int) ∧ k ≤ n ∧ WT B bp w wr v s0 (l ++ (ts.take k).flatMap tyb)) (fun _ s13 _ => n - (intOf s13).toNat)
  case atStart => exact ⟨0, rfl, by omega, by simpa using C0.out⟩
  case round =>
    obtain ⟨k, rfl, hk, hM⟩ := hrel
    have HM : Hid (WT B bp w wr v u0 (l ++ (ts.take k).flatMap tyb)) := hM
    clear C0 hM
    by_cases e : k = n
    · subst e
      have E0 : Hid (App B 5 1 w wr v u0 (l ++ ts.flatMap tyb).length (bV (l ++ ts.flatMap tyb))) := by have := HM.out.app; rwa [List.take_of_length_le (by have := HN.out; omega)] at this
      go_wp2
      go_ret
      exact ⟨_, rfl, E0.out⟩
    · have kn : k < n := by omega
      have knI : (k : Int) < (n : Int) := by omega
      obtain ⟨⟨y1, y2, y3⟩, hl⟩ : ∃ t, ts[k]? = some t := ⟨ts[k]'(by have := HN.out; omega), List.getElem?_eq_getElem _⟩
      have ok := HTy.out _ (List.mem_of_getElem? hl)
      unfold TyOk at ok
      obtain ⟨t1, e1⟩ : ∃ t1 : Nat, y1 = (t1 : Int) := ⟨y1.toNat, by have := ok.1; simp only at this; omega⟩
      obtain ⟨t2, e2⟩ : ∃ t2 : Nat, y2 = (t2 : Int) := ⟨y2.toNat, by have := ok.2.1; simp only at this; omega⟩
      obtain ⟨t3, e3⟩ : ∃ t3 : Nat, y3 = (t3 : Int) := ⟨y3.toNat, by have := ok.2.2; simp only at this; omega⟩
      subst e1 e2 e3
      have HT : Hid (t1 ≤ 65535 ∧ t2 ≤ 65535 ∧ t3 ≤ 65535) := by unfold Hid; simp only at ok; omega
      obtain ⟨g, a, rfl, f0, f1, f2⟩ := (HP.out.1.but HM.out.app.but HP.out.2).get hl
      have w1 : IntKind.u64.wrap (t1 : Int) = (t1 : Int) := by rw [IntKind.wrap_u64]; have := HT.out; omega
      have w2 : IntKind.u64.wrap (t2 : Int) = (t2 : Int) := by rw [IntKind.wrap_u64]; have := HT.out; omega
      have w3 : IntKind.u64.wrap (t3 : Int) = (t3 : Int) := by rw [IntKind.wrap_u64]; have := HT.out; omega
      have EL : Hid ((ts.take (k + 1)).flatMap tyb = (ts.take k).flatMap tyb ++ tybj t1 t2 t3 3) := by unfold Hid; rw [flat_snoc hl]; simp [tyb, tybj]
      have CT : Hid (WT B bp w (wr.alloc (.cells #[.int .i64 (t1 : Int), .int .i64 (t2 : Int), .int .i64 (t3 : Int)] 77)) v u0 (l ++ ((ts.take k).flatMap tyb ++ tybj t1 t2 t3 0)) ∧ CBox (wr.alloc (.cells #[.int .i64 (t1 : Int), .int .i64 (t2 : Int), .int .i64 (t3 : Int)] 77)) wr.heap.size 77 [.int .i64 (t1 : Int), .int .i64 (t2 : Int), .int .i64 (t3 : Int)]) := ⟨by simpa [tybj] using HM.out.past (below_alloc _ _), CBox.new _ _ [_, _, _]⟩
      clear hl ok HM
      go_upto_region 5 with fail
      generalize wr.alloc _ = V1 at CT ⊢
      generalize wr.heap.size = bt at CT ⊢
      clear f0 f1 f2
      have p0 : V1.cell? ⟨bp, 0, none⟩ = some (.int .i64 1) := CT.out.1.cp.cell 0
      have p1 : V1.cell? ⟨bp, 1, none⟩ = some (.func (.func 106) #[] #[]) := CT.out.1.cp.cell 1
      have p2 : V1.cell? ⟨bp, 2, none⟩ = some (.func (.func 107) #[] #[]) := CT.out.1.cp.cell 2
      have p3 : V1.cell? ⟨bp, 3, none⟩ = some (.int .i64 1) := CT.out.1.cp.cell 3
      have p4 : V1.cell? ⟨bp, 4, none⟩ = some (.func (.func 108) #[] #[]) := CT.out.1.cp.cell 4
      have p5 : V1.cell? ⟨bp, 5, none⟩ = some (.func (.func 109) #[] #[]) := CT.out.1.cp.cell 5
      have p6 : V1.cell? ⟨bp, 6, none⟩ = some (.int .i64 2) := CT.out.1.cp.cell 6
      have p7 : V1.cell? ⟨bp, 7, none⟩ = some (.func (.func 110) #[] #[]) := CT.out.1.cp.cell 7
      have p8 : V1.cell? ⟨bp, 8, none⟩ = some (.func (.func 111) #[] #[]) := CT.out.1.cp.cell 8
      go_wp2
      clear p0 p1 p2 p3 p4 p5 p6 p7 p8
      go_loopw [0, 18] (fun s0 s18 wq => ∃ j : Nat, s18 = .int .i64 (j : Int) ∧ j ≤ 3 ∧ WT B bp w wq v s0 (l ++ ((ts.take k).flatMap tyb ++ tybj t1 t2 t3 j)) ∧ CBox wq bt 77 [.int .i64 (t1 : Int), .int .i64 (t2 : Int), .int .i64 (t3 : Int)]) (fun _ s18 _ => 3 - (intOf s18).toNat)
      case atStart => exact ⟨0, rfl, by omega, CT.out⟩
      case round =>
        obtain ⟨j, rfl, hj, hM, hC⟩ := hrel
        clear CT
        generalize hvq : (u0 : Value) = vq at *
        obtain rfl | rfl | rfl | rfl : j = 3 ∨ j = 0 ∨ j = 1 ∨ j = 2 := by omega
        · have E0 : Hid (WT B bp w wr v vq (l ++ (ts.take (k + 1)).flatMap tyb)) := by unfold Hid; rw [EL.out]; exact hM
          clear hM hC
          go_wp2
          go_roundw
          case rel => exact ⟨k + 1, by first | rfl | go_num, by omega, E0.out⟩
          case measure => simp [intOf]; omega
        · have C7 : Hid (WT B bp w (wr.alloc (.cells #[.int .i64 1, .func (.func 106) #[] #[], .func (.func 107) #[] #[]] 108)) v vq (l ++ ((ts.take k).flatMap tyb ++ tybj t1 t2 t3 0)) ∧ CBox (wr.alloc (.cells #[.int .i64 1, .func (.func 106) #[] #[], .func (.func 107) #[] #[]] 108)) bt 77 [.int .i64 (t1 : Int), .int .i64 (t2 : Int), .int .i64 (t3 : Int)] ∧ CBox (wr.alloc (.cells #[.int .i64 1, .func (.func 106) #[] #[], .func (.func 107) #[] #[]] 108)) wr.heap.size 108 [.int .i64 1, .func (.func 106) #[] #[], .func (.func 107) #[] #[]]) := ⟨hM.past (below_alloc _ _), hC.past (below_alloc _ _), CBox.new _ _ [_, _, _]⟩
          have ix := ixp0 wr
          clear hM hC
          go_upto_region 8 with fail
          clear ix
          generalize wr.alloc _ = V7 at C7 ⊢
          generalize wr.heap.size = b9 at C7 ⊢
          have S7 : CBox V7.drew bt 77 [.int .i64 (t1 : Int), .int .i64 (t2 : Int), .int .i64 (t3 : Int)] ∧ CBox V7.drew b9 108 [.int .i64 1, .func (.func 106) #[] #[], .func (.func 107) #[] #[]] := ⟨C7.out.2.1.past below_drew, C7.out.2.2.past below_drew⟩
          refine wp_region_held_drew (S := fun V' => CBox V' bt 77 [.int .i64 (t1 : Int), .int .i64 (t2 : Int), .int .i64 (t3 : Int)] ∧ CBox V' b9 108 [.int .i64 1, .func (.func 106) #[] #[], .func (.func 107) #[] #[]]) (by kernel_rfl) S7 (fun hHeld => ?_)
          have M0 : Hid (WT B bp w V7.drew v vq (l ++ ((ts.take k).flatMap tyb ++ tybj t1 t2 t3 0))) := C7.out.1.past below_drew
          clear C7 S7
          generalize V7.drew = z0 at hHeld M0 ⊢
          refine wpAnyH_take (i := 0) (v := vq) ov0 (by kernel_rfl) (by kernel_rfl) (by kernel_rfl) (fun _ _ _ h => h) (Or.inl ⟨by rfl, fun V' hS => ?_⟩) hHeld ?_
          · go_simp
          simp only [Act.put, List.setIfInBounds_toArray, List.set_cons_zero, List.set_cons_succ]
          refine wpAnyH_take (i := 1) (v := .pointer (some ⟨b9, 0, none⟩)) ov1 (by kernel_rfl) (by kernel_rfl) (by kernel_rfl) (fun _ _ _ h => h) (Or.inl ⟨by rfl, fun V' hS => ?_⟩) hHeld ?_
          · go_simp
          simp only [Act.put, List.setIfInBounds_toArray, List.set_cons_zero, List.set_cons_succ]
          refine wpAnyH_take (i := 2) (v := .int .i64 1) ov2 (by kernel_rfl) (by kernel_rfl) (by kernel_rfl) (fun _ _ _ h => h) (Or.inl ⟨by rfl, fun V' hS => ?_⟩) hHeld ?_
          · have c2 : V'.cell? ⟨b9, 0, none⟩ = some (.int .i64 1) := hS.2.cell 0
            go_simp
          simp only [Act.put, List.setIfInBounds_toArray, List.set_cons_zero, List.set_cons_succ]
          refine wpAnyH_take (i := 3) (v := .pointer (some ⟨b9, 1, none⟩)) ov3 (by kernel_rfl) (by kernel_rfl) (by kernel_rfl) (fun _ _ _ h => h) (Or.inl ⟨by rfl, fun V' hS => ?_⟩) hHeld ?_
          · go_simp
          simp only [Act.put, List.setIfInBounds_toArray, List.set_cons_zero, List.set_cons_succ]
          refine wpAnyH_take (i := 4) (v := .func (.func 106) #[] #[]) ov4 (by kernel_rfl) (by kernel_rfl) (by kernel_rfl) (fun _ _ _ h => h) (Or.inl ⟨by rfl, fun V' hS => ?_⟩) hHeld ?_
          · have c1 : V'.cell? ⟨b9, 1, none⟩ = some (.func (.func 106) #[] #[]) := hS.2.cell 1
            go_simp
          simp only [Act.put, List.setIfInBounds_toArray, List.set_cons_zero, List.set_cons_succ]
          refine wpAnyH_ready (rs := [5]) (by kernel_rfl) (by simp) ?_
          refine AllReadyH.cons ov5 (fun K hK => ?_) AllReadyH.nil
          rw [if_pos (by rfl)]
          go_simp
          refine (of0_is _ bt 0).mono ?_
          rintro e w' ⟨rfl, hw⟩
          have hw2 := hw.symm
          clear hw
          subst hw2
          (try go_wp2_with fail)
          refine hK.out _ _ hHeld (fun _ => ?_)
          clear hK K
          (try simp only [Act.put, List.setIfInBounds_toArray, List.set_cons_zero, List.set_cons_succ])
          refine wpAnyH_take (i := 6) (v := .pointer (some ⟨bt, 0, none⟩)) ov6 (by kernel_rfl) (by kernel_rfl) (by kernel_rfl) (fun _ _ _ h => h) (Or.inl ⟨by rfl, fun V' hS => ?_⟩) hHeld ?_
          · go_simp
          simp only [Act.put, List.setIfInBounds_toArray, List.set_cons_zero, List.set_cons_succ]
          refine wpAnyH_take (i := 7) (v := .int .i64 (t1 : Int)) ov7 (by kernel_rfl) (by kernel_rfl) (by kernel_rfl) (fun _ _ _ h => h) (Or.inl ⟨by rfl, fun V' hS => ?_⟩) hHeld ?_
          · have ct : V'.cell? ⟨bt, 0, none⟩ = some (.int .i64 (t1 : Int)) := hS.1.cell 0
            go_simp
          simp only [Act.put, List.setIfInBounds_toArray, List.set_cons_zero, List.set_cons_succ]
          refine wpAnyH_take (i := 8) (v := .int .u64 (t1 : Int)) ov8 (by kernel_rfl) (by kernel_rfl) (by kernel_rfl) (fun _ _ _ h => h) (Or.inl ⟨by rfl, fun V' hS => ?_⟩) hHeld ?_
          · go_simp
          simp only [Act.put, List.setIfInBounds_toArray, List.set_cons_zero, List.set_cons_succ]
          refine wpAnyH_ready (rs := [9]) (by kernel_rfl) (by simp) ?_
          refine AllReadyH.cons ov9 (fun K hK => ?_) AllReadyH.nil
          rw [if_pos (by rfl)]
          go_simp
          refine (writeNumber_is _ B M0.out.le vq (l ++ ((ts.take k).flatMap tyb ++ tybj t1 t2 t3 0)) M0.out.app.row 1 t1 (by omega) (by have := HT.out; omega) (by have h1 := HW.out; have h2 := tys_len (ts.take k); have h3 := tybj_len t1 t2 t3 0; have h4 := HN.out; rw [List.length_append, List.length_append]; rw [List.length_take] at h2; omega)).mono ?_
          rintro e z3 ⟨v3, rfl, hA3⟩
          have M3 : Hid (WT B bp w z3 v v3 ((l ++ ((ts.take k).flatMap tyb ++ tybj t1 t2 t3 0)) ++ dig 1 t1)) := M0.out.step hA3
          have H3 := (⟨hHeld.1.app hA3 M0.out.app.row (by decide), hHeld.2.app hA3 M0.out.app.row (by decide)⟩ : _ ∧ _)
          clear hA3
          (try go_wp2_with fail)
          refine hK.out _ _ H3 (fun _ => ?_)
          clear hK K
          (try simp only [Act.put, List.setIfInBounds_toArray, List.set_cons_zero, List.set_cons_succ])
          refine wpAnyH_take (i := 10) (v := v3) ov10 (by kernel_rfl) (by kernel_rfl) (by kernel_rfl) (fun _ _ _ h => h) (Or.inl ⟨by rfl, fun V' hS => ?_⟩) H3 ?_
          · go_simp
          simp only [Act.put, List.setIfInBounds_toArray, List.set_cons_zero]
          refine wpAnyH_done (by kernel_rfl) ?_ _
          have E3 : Hid (WT B bp w z3 v v3 (l ++ ((ts.take k).flatMap tyb ++ tybj t1 t2 t3 1)) ∧ CBox z3 bt 77 [.int .i64 (t1 : Int), .int .i64 (t2 : Int), .int .i64 (t3 : Int)]) := ⟨by have := M3.out; rw [List.append_assoc, List.append_assoc] at this; rw [tybj, List.nil_append] at this; exact this, H3.1⟩
          clear M3 H3 hHeld M0
          go_wp2
          go_roundw
          case rel => exact ⟨1, by first | rfl | go_num, by omega, E3.out⟩
          case measure => simp [intOf]
        · have C7 : Hid (WT B bp w (wr.alloc (.cells #[.int .i64 1, .func (.func 108) #[] #[], .func (.func 109) #[] #[]] 108)) v vq (l ++ ((ts.take k).flatMap tyb ++ tybj t1 t2 t3 1)) ∧ CBox (wr.alloc (.cells #[.int .i64 1, .func (.func 108) #[] #[], .func (.func 109) #[] #[]] 108)) bt 77 [.int .i64 (t1 : Int), .int .i64 (t2 : Int), .int .i64 (t3 : Int)] ∧ CBox (wr.alloc (.cells #[.int .i64 1, .func (.func 108) #[] #[], .func (.func 109) #[] #[]] 108)) wr.heap.size 108 [.int .i64 1, .func (.func 108) #[] #[], .func (.func 109) #[] #[]]) := ⟨hM.past (below_alloc _ _), hC.past (below_alloc _ _), CBox.new _ _ [_, _, _]⟩
          have ix := ixp1 wr
          clear hM hC
          go_upto_region 8 with fail
          clear ix
          generalize wr.alloc _ = V7 at C7 ⊢
          generalize wr.heap.size = b9 at C7 ⊢
          have S7 : CBox V7.drew bt 77 [.int .i64 (t1 : Int), .int .i64 (t2 : Int), .int .i64 (t3 : Int)] ∧ CBox V7.drew b9 108 [.int .i64 1, .func (.func 108) #[] #[], .func (.func 109) #[] #[]] := ⟨C7.out.2.1.past below_drew, C7.out.2.2.past below_drew⟩
          refine wp_region_held_drew (S := fun V' => CBox V' bt 77 [.int .i64 (t1 : Int), .int .i64 (t2 : Int), .int .i64 (t3 : Int)] ∧ CBox V' b9 108 [.int .i64 1, .func (.func 108) #[] #[], .func (.func 109) #[] #[]]) (by kernel_rfl) S7 (fun hHeld => ?_)
          have M0 : Hid (WT B bp w V7.drew v vq (l ++ ((ts.take k).flatMap tyb ++ tybj t1 t2 t3 1))) := C7.out.1.past below_drew
          clear C7 S7
          generalize V7.drew = z0 at hHeld M0 ⊢
          refine wpAnyH_take (i := 0) (v := vq) ov0 (by kernel_rfl) (by kernel_rfl) (by kernel_rfl) (fun _ _ _ h => h) (Or.inl ⟨by rfl, fun V' hS => ?_⟩) hHeld ?_
          · go_simp
          simp only [Act.put, List.setIfInBounds_toArray, List.set_cons_zero, List.set_cons_succ]
          refine wpAnyH_take (i := 1) (v := .pointer (some ⟨b9, 0, none⟩)) ov1 (by kernel_rfl) (by kernel_rfl) (by kernel_rfl) (fun _ _ _ h => h) (Or.inl ⟨by rfl, fun V' hS => ?_⟩) hHeld ?_
          · go_simp
          simp only [Act.put, List.setIfInBounds_toArray, List.set_cons_zero, List.set_cons_succ]
          refine wpAnyH_take (i := 2) (v := .int .i64 1) ov2 (by kernel_rfl) (by kernel_rfl) (by kernel_rfl) (fun _ _ _ h => h) (Or.inl ⟨by rfl, fun V' hS => ?_⟩) hHeld ?_
          · have c2 : V'.cell? ⟨b9, 0, none⟩ = some (.int .i64 1) := hS.2.cell 0
            go_simp
          simp only [Act.put, List.setIfInBounds_toArray, List.set_cons_zero, List.set_cons_succ]
          refine wpAnyH_take (i := 3) (v := .pointer (some ⟨b9, 1, none⟩)) ov3 (by kernel_rfl) (by kernel_rfl) (by kernel_rfl) (fun _ _ _ h => h) (Or.inl ⟨by rfl, fun V' hS => ?_⟩) hHeld ?_
          · go_simp
          simp only [Act.put, List.setIfInBounds_toArray, List.set_cons_zero, List.set_cons_succ]
          refine wpAnyH_take (i := 4) (v := .func (.func 108) #[] #[]) ov4 (by kernel_rfl) (by kernel_rfl) (by kernel_rfl) (fun _ _ _ h => h) (Or.inl ⟨by rfl, fun V' hS => ?_⟩) hHeld ?_
          · have c1 : V'.cell? ⟨b9, 1, none⟩ = some (.func (.func 108) #[] #[]) := hS.2.cell 1
            go_simp
          simp only [Act.put, List.setIfInBounds_toArray, List.set_cons_zero, List.set_cons_succ]
          refine wpAnyH_ready (rs := [5]) (by kernel_rfl) (by simp) ?_
          refine AllReadyH.cons ov5 (fun K hK => ?_) AllReadyH.nil
          rw [if_pos (by rfl)]
          go_simp
          refine (of1_is _ bt 0).mono ?_
          rintro e w' ⟨rfl, hw⟩
          have hw2 := hw.symm
          clear hw
          subst hw2
          (try go_wp2_with fail)
          refine hK.out _ _ hHeld (fun _ => ?_)
          clear hK K
          (try simp only [Act.put, List.setIfInBounds_toArray, List.set_cons_zero, List.set_cons_succ])
          refine wpAnyH_take (i := 6) (v := .pointer (some ⟨bt, 1, none⟩)) ov6 (by kernel_rfl) (by kernel_rfl) (by kernel_rfl) (fun _ _ _ h => h) (Or.inl ⟨by rfl, fun V' hS => ?_⟩) hHeld ?_
          · go_simp
          simp only [Act.put, List.setIfInBounds_toArray, List.set_cons_zero, List.set_cons_succ]
          refine wpAnyH_take (i := 7) (v := .int .i64 (t2 : Int)) ov7 (by kernel_rfl) (by kernel_rfl) (by kernel_rfl) (fun _ _ _ h => h) (Or.inl ⟨by rfl, fun V' hS => ?_⟩) hHeld ?_
          · have ct : V'.cell? ⟨bt, 1, none⟩ = some (.int .i64 (t2 : Int)) := hS.1.cell 1
            go_simp
          simp only [Act.put, List.setIfInBounds_toArray, List.set_cons_zero, List.set_cons_succ]
          refine wpAnyH_take (i := 8) (v := .int .u64 (t2 : Int)) ov8 (by kernel_rfl) (by kernel_rfl) (by kernel_rfl) (fun _ _ _ h => h) (Or.inl ⟨by rfl, fun V' hS => ?_⟩) hHeld ?_
          · go_simp
          simp only [Act.put, List.setIfInBounds_toArray, List.set_cons_zero, List.set_cons_succ]
          refine wpAnyH_ready (rs := [9]) (by kernel_rfl) (by simp) ?_
          refine AllReadyH.cons ov9 (fun K hK => ?_) AllReadyH.nil
          rw [if_pos (by rfl)]
          go_simp
          refine (writeNumber_is _ B M0.out.le vq (l ++ ((ts.take k).flatMap tyb ++ tybj t1 t2 t3 1)) M0.out.app.row 1 t2 (by omega) (by have := HT.out; omega) (by have h1 := HW.out; have h2 := tys_len (ts.take k); have h3 := tybj_len t1 t2 t3 1; have h4 := HN.out; rw [List.length_append, List.length_append]; rw [List.length_take] at h2; omega)).mono ?_
          rintro e z3 ⟨v3, rfl, hA3⟩
          have M3 : Hid (WT B bp w z3 v v3 ((l ++ ((ts.take k).flatMap tyb ++ tybj t1 t2 t3 1)) ++ dig 1 t2)) := M0.out.step hA3
          have H3 := (⟨hHeld.1.app hA3 M0.out.app.row (by decide), hHeld.2.app hA3 M0.out.app.row (by decide)⟩ : _ ∧ _)
          clear hA3
          (try go_wp2_with fail)
          refine hK.out _ _ H3 (fun _ => ?_)
          clear hK K
          (try simp only [Act.put, List.setIfInBounds_toArray, List.set_cons_zero, List.set_cons_succ])
          refine wpAnyH_take (i := 10) (v := v3) ov10 (by kernel_rfl) (by kernel_rfl) (by kernel_rfl) (fun _ _ _ h => h) (Or.inl ⟨by rfl, fun V' hS => ?_⟩) H3 ?_
          · go_simp
          simp only [Act.put, List.setIfInBounds_toArray, List.set_cons_zero]
          refine wpAnyH_done (by kernel_rfl) ?_ _
          have E3 : Hid (WT B bp w z3 v v3 (l ++ ((ts.take k).flatMap tyb ++ tybj t1 t2 t3 2)) ∧ CBox z3 bt 77 [.int .i64 (t1 : Int), .int .i64 (t2 : Int), .int .i64 (t3 : Int)]) := ⟨by have := M3.out; rw [List.append_assoc, List.append_assoc] at this; exact this, H3.1⟩
          clear M3 H3 hHeld M0
          go_wp2
          go_roundw
          case rel => exact ⟨2, by first | rfl | go_num, by omega, E3.out⟩
          case measure => simp [intOf]
        · have C7 : Hid (WT B bp w (wr.alloc (.cells #[.int .i64 2, .func (.func 110) #[] #[], .func (.func 111) #[] #[]] 108)) v vq (l ++ ((ts.take k).flatMap tyb ++ tybj t1 t2 t3 2)) ∧ CBox (wr.alloc (.cells #[.int .i64 2, .func (.func 110) #[] #[], .func (.func 111) #[] #[]] 108)) bt 77 [.int .i64 (t1 : Int), .int .i64 (t2 : Int), .int .i64 (t3 : Int)] ∧ CBox (wr.alloc (.cells #[.int .i64 2, .func (.func 110) #[] #[], .func (.func 111) #[] #[]] 108)) wr.heap.size 108 [.int .i64 2, .func (.func 110) #[] #[], .func (.func 111) #[] #[]]) := ⟨hM.past (below_alloc _ _), hC.past (below_alloc _ _), CBox.new _ _ [_, _, _]⟩
          have ix := ixp2 wr
          clear hM hC
          go_upto_region 8 with fail
          clear ix
          generalize wr.alloc _ = V7 at C7 ⊢
          generalize wr.heap.size = b9 at C7 ⊢
          have S7 : CBox V7.drew bt 77 [.int .i64 (t1 : Int), .int .i64 (t2 : Int), .int .i64 (t3 : Int)] ∧ CBox V7.drew b9 108 [.int .i64 2, .func (.func 110) #[] #[], .func (.func 111) #[] #[]] := ⟨C7.out.2.1.past below_drew, C7.out.2.2.past below_drew⟩
          refine wp_region_held_drew (S := fun V' => CBox V' bt 77 [.int .i64 (t1 : Int), .int .i64 (t2 : Int), .int .i64 (t3 : Int)] ∧ CBox V' b9 108 [.int .i64 2, .func (.func 110) #[] #[], .func (.func 111) #[] #[]]) (by kernel_rfl) S7 (fun hHeld => ?_)
          have M0 : Hid (WT B bp w V7.drew v vq (l ++ ((ts.take k).flatMap tyb ++ tybj t1 t2 t3 2))) := C7.out.1.past below_drew
          clear C7 S7
          generalize V7.drew = z0 at hHeld M0 ⊢
          refine wpAnyH_take (i := 0) (v := vq) ov0 (by kernel_rfl) (by kernel_rfl) (by kernel_rfl) (fun _ _ _ h => h) (Or.inl ⟨by rfl, fun V' hS => ?_⟩) hHeld ?_
          · go_simp
          simp only [Act.put, List.setIfInBounds_toArray, List.set_cons_zero, List.set_cons_succ]
          refine wpAnyH_take (i := 1) (v := .pointer (some ⟨b9, 0, none⟩)) ov1 (by kernel_rfl) (by kernel_rfl) (by kernel_rfl) (fun _ _ _ h => h) (Or.inl ⟨by rfl, fun V' hS => ?_⟩) hHeld ?_
          · go_simp
          simp only [Act.put, List.setIfInBounds_toArray, List.set_cons_zero, List.set_cons_succ]
          refine wpAnyH_take (i := 2) (v := .int .i64 2) ov2 (by kernel_rfl) (by kernel_rfl) (by kernel_rfl) (fun _ _ _ h => h) (Or.inl ⟨by rfl, fun V' hS => ?_⟩) hHeld ?_
          · have c2 : V'.cell? ⟨b9, 0, none⟩ = some (.int .i64 2) := hS.2.cell 0
            go_simp
          simp only [Act.put, List.setIfInBounds_toArray, List.set_cons_zero, List.set_cons_succ]
          refine wpAnyH_take (i := 3) (v := .pointer (some ⟨b9, 1, none⟩)) ov3 (by kernel_rfl) (by kernel_rfl) (by kernel_rfl) (fun _ _ _ h => h) (Or.inl ⟨by rfl, fun V' hS => ?_⟩) hHeld ?_
          · go_simp
          simp only [Act.put, List.setIfInBounds_toArray, List.set_cons_zero, List.set_cons_succ]
          refine wpAnyH_take (i := 4) (v := .func (.func 110) #[] #[]) ov4 (by kernel_rfl) (by kernel_rfl) (by kernel_rfl) (fun _ _ _ h => h) (Or.inl ⟨by rfl, fun V' hS => ?_⟩) hHeld ?_
          · have c1 : V'.cell? ⟨b9, 1, none⟩ = some (.func (.func 110) #[] #[]) := hS.2.cell 1
            go_simp
          simp only [Act.put, List.setIfInBounds_toArray, List.set_cons_zero, List.set_cons_succ]
          refine wpAnyH_ready (rs := [5]) (by kernel_rfl) (by simp) ?_
          refine AllReadyH.cons ov5 (fun K hK => ?_) AllReadyH.nil
          rw [if_pos (by rfl)]
          go_simp
          refine (of2_is _ bt 0).mono ?_
          rintro e w' ⟨rfl, hw⟩
          have hw2 := hw.symm
          clear hw
          subst hw2
          (try go_wp2_with fail)
          refine hK.out _ _ hHeld (fun _ => ?_)
          clear hK K
          (try simp only [Act.put, List.setIfInBounds_toArray, List.set_cons_zero, List.set_cons_succ])
          refine wpAnyH_take (i := 6) (v := .pointer (some ⟨bt, 2, none⟩)) ov6 (by kernel_rfl) (by kernel_rfl) (by kernel_rfl) (fun _ _ _ h => h) (Or.inl ⟨by rfl, fun V' hS => ?_⟩) hHeld ?_
          · go_simp
          simp only [Act.put, List.setIfInBounds_toArray, List.set_cons_zero, List.set_cons_succ]
          refine wpAnyH_take (i := 7) (v := .int .i64 (t3 : Int)) ov7 (by kernel_rfl) (by kernel_rfl) (by kernel_rfl) (fun _ _ _ h => h) (Or.inl ⟨by rfl, fun V' hS => ?_⟩) hHeld ?_
          · have ct : V'.cell? ⟨bt, 2, none⟩ = some (.int .i64 (t3 : Int)) := hS.1.cell 2
            go_simp
          simp only [Act.put, List.setIfInBounds_toArray, List.set_cons_zero, List.set_cons_succ]
          refine wpAnyH_take (i := 8) (v := .int .u64 (t3 : Int)) ov8 (by kernel_rfl) (by kernel_rfl) (by kernel_rfl) (fun _ _ _ h => h) (Or.inl ⟨by rfl, fun V' hS => ?_⟩) hHeld ?_
          · go_simp
          simp only [Act.put, List.setIfInBounds_toArray, List.set_cons_zero, List.set_cons_succ]
          refine wpAnyH_ready (rs := [9]) (by kernel_rfl) (by simp) ?_
          refine AllReadyH.cons ov9 (fun K hK => ?_) AllReadyH.nil
          rw [if_pos (by rfl)]
          go_simp
          refine (writeNumber_is _ B M0.out.le vq (l ++ ((ts.take k).flatMap tyb ++ tybj t1 t2 t3 2)) M0.out.app.row 2 t3 (by omega) (by have := HT.out; omega) (by have h1 := HW.out; have h2 := tys_len (ts.take k); have h3 := tybj_len t1 t2 t3 2; have h4 := HN.out; rw [List.length_append, List.length_append]; rw [List.length_take] at h2; omega)).mono ?_
          rintro e z3 ⟨v3, rfl, hA3⟩
          have M3 : Hid (WT B bp w z3 v v3 ((l ++ ((ts.take k).flatMap tyb ++ tybj t1 t2 t3 2)) ++ dig 2 t3)) := M0.out.step hA3
          have H3 := (⟨hHeld.1.app hA3 M0.out.app.row (by decide), hHeld.2.app hA3 M0.out.app.row (by decide)⟩ : _ ∧ _)
          clear hA3
          (try go_wp2_with fail)
          refine hK.out _ _ H3 (fun _ => ?_)
          clear hK K
          (try simp only [Act.put, List.setIfInBounds_toArray, List.set_cons_zero, List.set_cons_succ])
          refine wpAnyH_take (i := 10) (v := v3) ov10 (by kernel_rfl) (by kernel_rfl) (by kernel_rfl) (fun _ _ _ h => h) (Or.inl ⟨by rfl, fun V' hS => ?_⟩) H3 ?_
          · go_simp
          simp only [Act.put, List.setIfInBounds_toArray, List.set_cons_zero]
          refine wpAnyH_done (by kernel_rfl) ?_ _
          have E3 : Hid (WT B bp w z3 v v3 (l ++ ((ts.take k).flatMap tyb ++ tybj t1 t2 t3 3)) ∧ CBox z3 bt 77 [.int .i64 (t1 : Int), .int .i64 (t2 : Int), .int .i64 (t3 : Int)]) := ⟨by have := M3.out; rw [List.append_assoc, List.append_assoc] at this; exact this, H3.1⟩
          clear M3 H3 hHeld M0
          go_wp2
          go_roundw
          case rel => exact ⟨3, by first | rfl | go_num, by omega, E3.out⟩
          case measure => simp [intOf]
end Go.Proofs.Ytndhabhlajldeaa
/- Containers that may be: what follows of Check; how many bytes there are. -/
namespace Go.Proofs.Ytndhabhlajldeaa
open Go.RowKit
/-- not too great for the laws -/
def Small (c : Con) : Prop := c.ts.length + c.cs.length + c.ss.length + c.d.length + c.cs.flatten.length + c.ss.flatten.length ≤ 16777216
theorem chkT_ok : ∀ (l : List Ty) (i : Nat), chkT i l = 0 → ∀ t ∈ l, TyOk t
  | [], _, _ => fun t ht => by cases ht
  | x :: l, i, h => by
    unfold chkT at h
    split at h
    · exact absurd h (by decide)
    · rename_i hb
      intro t ht
      rcases List.mem_cons.1 ht with rfl | ht
      · have h0 : okIn i t.1 = true := by
          cases e : okIn i t.1
          · exact absurd (by unfold tyBad; rw [if_pos e]; omega) hb
          · rfl
        have h1 : okOut i t.2.1 = true := by
          cases e : okOut i t.2.1
          · exact absurd (by unfold tyBad; rw [if_neg (by rw [h0]; decide), if_pos e]; omega) hb
          · rfl
        have h2 : okMost t.2.2 = true := by
          cases e : okMost t.2.2
          · exact absurd (by unfold tyBad; rw [if_neg (by rw [h0]; decide), if_neg (by rw [h1]; decide), if_pos e]; omega) hb
          · rfl
        unfold okIn at h0
        unfold okOut at h1
        unfold okMost at h2
        simp at h0 h1 h2
        unfold TyOk
        omega
      · exact chkT_ok l (i + 1) h t ht
theorem chkP_ok (m : Nat) : ∀ l : List (List Nat), chkP m l = 0 → ∀ x ∈ l, 0 < x.length ∧ x.length ≤ m
  | [], _ => fun x hx => by cases hx
  | y :: l, h => by
    unfold chkP at h
    split at h
    · exact absurd h (by decide)
    · split at h
      · exact absurd h (by decide)
      · intro x hx
        rcases List.mem_cons.1 hx with rfl | hx
        · omega
        · exact chkP_ok m l h x hx
/-- what Check asks -/
structure May (c : Con) : Prop where
  n1 : 0 < c.cs.length
  n2 : c.cs.length ≤ 1024
  nt : c.ts.length = c.cs.length
  pc : chkP 65535 c.cs = 0
  ns : c.ss.length ≤ 256
  ps : chkP 4294967295 c.ss = 0
  z1 : c.n ≤ 65535
  z2 : (c.d.length : Int) ≤ c.n
  ty : chkT 0 c.ts = 0
theorem chk_may {c : Con} (h : chk c = 0) : May c := by
  unfold chk at h
  split at h
  · exact absurd h (by decide)
  rename_i h1
  split at h
  · exact absurd h (by decide)
  rename_i h2
  split at h
  · exact absurd h (by assumption)
  rename_i h3
  split at h
  · exact absurd h (by decide)
  rename_i h4
  split at h
  · exact absurd h (by assumption)
  rename_i h5
  split at h
  · exact absurd h (by decide)
  rename_i h6
  split at h
  · exact absurd h (by decide)
  rename_i h7
  exact ⟨by omega, by omega, by omega, by simpa using h3, by omega, by simpa using h5, by omega, by omega, h⟩
theorem may_chk {c : Con} (h : May c) : chk c = 0 := by
  have := h.n1; have := h.n2; have := h.nt; have := h.ns; have := h.z1; have := h.z2
  unfold chk
  rw [if_neg (by omega), if_neg (by omega), if_neg (by rw [h.pc]; simp), if_neg (by omega), if_neg (by rw [h.ps]; simp), if_neg (by omega), if_neg (by omega)]
  exact h.ty
theorem sum_lns : ∀ l : List (List Nat), sumL (lns l) = l.flatten.length
  | [] => rfl
  | x :: l => by rw [lns, List.map_cons, sumL_cons, List.flatten_cons, List.length_append, ← sum_lns l]; rfl
theorem hd_len (cs ss : List Nat) (n : Nat) : (hd cs ss n).length = 13 + 2 * cs.length + (if ss.length = 0 then 0 else 3 + 4 * ss.length) := by
  unfold hd
  split
  · simp only [List.length_append, List.length_cons, List.length_nil, dig_len, flat_len]; omega
  · simp only [List.length_append, List.length_cons, List.length_nil, dig_len, flat_len]; omega
theorem lns_len (l : List (List Nat)) : (lns l).length = l.length := by simp [lns]
theorem ser_len {c : Con} (h : May c) : (ser c).length = (hd (lns c.cs) (lns c.ss) c.n.toNat).length + (4 * (lns c.cs).length + sumL (lns c.cs) + sumL (lns c.ss)) + c.d.length := by
  unfold ser
  simp only [List.length_append, tys_len, sum_lns, lns_len, h.nt]
  omega
theorem ser_small {c : Con} (h : May c) (hs : Small c) : (ser c).length ≤ 67108864 := by
  rw [ser_len h, hd_len, sum_lns, sum_lns, lns_len, lns_len]
  unfold Small at hs
  have := h.n2
  have := h.ns
  split <;> omega
theorem lns_lt {c : Con} (hs : Small c) : (∀ x ∈ lns c.cs, x < 18446744073709551616) ∧ ∀ x ∈ lns c.ss, x < 18446744073709551616 := by
  have key : ∀ (l : List (List Nat)) (x : Nat), x ∈ lns l → x ≤ l.flatten.length := by
    intro l x hx
    obtain ⟨y, hy, rfl⟩ := List.mem_map.1 hx
    exact (List.sublist_flatten_of_mem hy).length_le
  unfold Small at hs
  exact ⟨fun x hx => by have := key _ x hx; omega, fun x hx => by have := key _ x hx; omega⟩
theorem App.nil_below {B : Nat} {t : TypeId} {s : Nat} {W W' : World} {v' : Value} {n c : Nat} {cs : List Value} (h : App B t s W W' (.slice none 0 c) v' n cs) : Below W.heap.size W W' := ⟨h.but.os, h.but.tape, h.but.output, h.but.size, fun k hk => h.but.block k hk fun e => by cases e⟩
theorem make0 (W : World) (M : Nat) (hM : M ≤ 140737488355328) : ∃ W1, Sem.run Try.prog (Instr.makeSlice 22 (.int .i64 0) (.int .i64 (M : Int))) W = .ok (.slice (some ⟨W.heap.size, 0, none⟩) 0 M) W1 ∧ W1.ownsRow W.heap.size 5 1 (.slice (some ⟨W.heap.size, 0, none⟩) 0 M) 0 (bV []) ∧ Below W.heap.size W W1 := by
  obtain ⟨i0, hi0, hz0, hz1, hz2⟩ := info_parts Try.info8
  have h := run_make (P := Try.prog) W 22 5 i0 (.int .u8 0) Try.underlying22 hi0 hz0 .i64 .i64 0 (M : Int) (by omega) (by omega) (by rw [hz2]; omega) (by omega)
  rw [hz1, Int.toNat_natCast, Nat.mul_one] at h
  refine ⟨_, h, ⟨rfl, Or.inr ⟨W.heap.size, M, madeCells (Value.int .u8 0).cells M, rfl, Nat.le_refl _, heap_alloc_new W _, Nat.zero_le _, by unfold maxLen; omega, by rw [size_madeCells]; omega, by simp [bV]⟩⟩, below_alloc _ _⟩
end Go.Proofs.Ytndhabhlajldeaa
