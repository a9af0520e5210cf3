/- Bytes of one's own, to which others are appended; package container: writeNumber, lengths, behind, writeLengths, writePieces. -/
import Derived.Test.YtndhabhlajldeaaBke
import Derived.Laws.MakeOwn
namespace Go.Proofs.Ytndhabhlajldeaa
open Go.RowKit
def OwnV (v : Value) (k : Nat) : Prop := v.ownBlock = some k
theorem own_iff {ad : Option Addr} {n c k : Nat} : Own ad k ↔ OwnV (.slice ad n c) k := by
  constructor
  · rintro ⟨a, rfl, rfl⟩; rfl
  · intro h
    cases ad with
    | none => cases h
    | some a => injection h with h; exact ⟨a, rfl, h.symm⟩
/-- v is a row of one's own, at B or above, that holds these elements of s cells -/
def RW (B : Nat) (t : TypeId) (s : Nat) (W : World) (v : Value) (n : Nat) (cs : List Value) : Prop := W.ownsRow B t s v n cs
/-- v' is what has become of v -/
structure App (B : Nat) (t : TypeId) (s : Nat) (W W' : World) (v v' : Value) (n : Nat) (cs : List Value) : Prop where
  row : W'.ownsRow B t s v' n cs
  but : But (OwnV v) W W'
  new : ∀ k, OwnV v' k → OwnV v k ∨ W.heap.size ≤ k
theorem App.refl {B : Nat} {t : TypeId} {s : Nat} {W : World} {v : Value} {n : Nat} {cs : List Value} (h : W.ownsRow B t s v n cs) : App B t s W W v v n cs := ⟨h, But.refl _ _, fun _ h => Or.inl h⟩
theorem App.trans {B : Nat} {t : TypeId} {s : Nat} {W W1 W2 : World} {v v1 v2 : Value} {n n' : Nat} {cs cs' : List Value} (h : App B t s W W1 v v1 n cs) (k : App B t s W1 W2 v1 v2 n' cs') : App B t s W W2 v v2 n' cs' := by
  refine ⟨k.row, ⟨k.but.os.trans h.but.os, k.but.tape.trans h.but.tape, k.but.output.trans h.but.output, Nat.le_trans h.but.size k.but.size, fun i hi hn => ?_⟩, fun i hi => ?_⟩
  · refine (k.but.block i (Nat.lt_of_lt_of_le hi h.but.size) fun e => ?_).trans (h.but.block i hi hn)
    rcases h.new i e with e1 | e1
    · exact hn e1
    · omega
  · rcases k.new i hi with e1 | e1
    · exact h.new i e1
    · exact Or.inr (Nat.le_trans h.but.size e1)
theorem App.below {B : Nat} {t : TypeId} {s : Nat} {W W' : World} {v v' : Value} {n m : Nat} {cs cs' : List Value} (h : App B t s W W' v v' n cs) (hv : W.ownsRow B t s v m cs') (hB : B ≤ W.heap.size) : Below B W W' :=
  h.but.below (fun k e => (hv.lt k e).1) hB
/-- worlds go on (new blocks alone), then something is appended -/
theorem App.past {B : Nat} {t : TypeId} {s : Nat} {W W1 W' : World} {v v' : Value} {n : Nat} {cs : List Value} (h : App B t s W1 W' v v' n cs) (k : Below W.heap.size W W1) : App B t s W W' v v' n cs :=
  ⟨h.row, ⟨h.but.os.trans k.os, h.but.tape.trans k.tape, h.but.output.trans k.output, Nat.le_trans k.size h.but.size, fun i hi hn => (h.but.block i (Nat.lt_of_lt_of_le hi k.size) hn).trans (k.block i hi)⟩, fun i hi => by
    rcases h.new i hi with e | e
    · exact Or.inl e
    · exact Or.inr (Nat.le_trans k.size e)⟩
theorem App.then {B : Nat} {t : TypeId} {s : Nat} {W W1 W' : World} {v v' : Value} {n : Nat} {cs : List Value} (h : App B t s W W1 v v' n cs) (k : Below W1.heap.size W1 W') : App B t s W W' v v' n cs :=
  ⟨owns_row_blockB h.row fun i hi => k.block i (h.row.lt i hi).2, ⟨k.os.trans h.but.os, k.tape.trans h.but.tape, k.output.trans h.but.output, Nat.le_trans h.but.size k.size, fun i hi hn => (k.block i (Nat.lt_of_lt_of_le hi h.but.size)).trans (h.but.block i hi hn)⟩, h.new⟩
theorem owns_past {B : Nat} {t : TypeId} {s : Nat} {W W' : World} {v : Value} {n : Nat} {cs : List Value} (h : W.ownsRow B t s v n cs) (k : Below W.heap.size W W') : W'.ownsRow B t s v n cs := owns_row_blockB h fun i hi => k.block i (h.lt i hi).2
theorem owns_sl {B : Nat} {t : TypeId} {s : Nat} {W : World} {v : Value} {n : Nat} {cs : List Value} (h : W.ownsRow B t s v n cs) : ∃ ad cap, v = .slice ad n cap := by
  rcases h.2 with ⟨rfl, rfl⟩ | ⟨g, c, cur, rfl, _⟩
  · exact ⟨_, _, rfl⟩
  · exact ⟨_, _, rfl⟩
/-- append(v, u...) of bytes -/
theorem wp_appB {P : Nat → Prop} {w : World} {o : Oper} {a : Act} {K : Act → World → Prop} {Q : Exit → Act → World → Prop} (s x : Operand)
    (ho : o.op = .call { callee := .builtin .append, args := #[s, x], argTypes := #[22, 22] }) (B : Nat) (hB : B ≤ w.heap.size) (v : Value) (l : List Nat) (hs : a.eval s = v) (hown : w.ownsRow B 5 1 v l.length (bV l))
    (u : Value) (m : List Nat) (hx : a.eval x = u) (hu : BL P w u m) (hn : l.length + m.length ≤ 2199023255552)
    (h : ∀ v' w', App B 5 1 w w' v v' (l ++ m).length (bV (l ++ m)) → K (a.put o.dst v') w') : o.wp Try.prog a w K Q := by
  obtain ⟨ad, cap, rfl⟩ := owns_sl hown
  obtain ⟨_, ad2, cap2, rfl, h0, h1, hz, h2⟩ := hu
  cases ad2 with
  | none =>
    have e0 : cap2 = 0 := hz rfl
    have e1 : m.length = 0 := by omega
    obtain rfl := List.eq_nil_of_length_eq_zero e1
    subst e0
    have hrun := run_append_owned_none (P := Try.prog) (w := w) B 22 o.type 5 (info_parts Try.info8).choose 1 Try.underlying22 (info_parts Try.info8).choose_spec.1 _ _ _ hown
    unfold Oper.wp
    simp [execOp, ho, resolve, invoke, builtin, hs, hx, hrun, Result.andThen]
    refine h _ _ ?_
    rw [List.append_nil]
    exact App.refl hown
  | some a2 =>
    refine wp_apps s x 22 5 ho (.int .u8 0) 1 1 Try.underlying22 Try.info8 rfl (by omega) (by omega) B hB ad l.length cap (bV l) hs hown a2 m.length cap2 (bV m) hx (by rw [bV_len]; omega) (fun j c hj => ?_) (bV_one m) hn (fun ad' cap' w' q1 q2 q3 => h _ _ ⟨?_, ?_, fun k hk => ?_⟩)
    · have hm : 0 < m.length := by have := (List.getElem?_eq_some_iff.1 hj).1; rw [bV_len] at this; omega
      obtain ⟨g, b, e, _, _, h3⟩ := h2 hm
      injection e with e
      subst e
      rw [Addr.add_mid]
      exact h3 j c hj
    · rw [List.length_append, bV_app]; exact q1
    · exact q2.mono fun k hk => own_iff.1 hk
    · rcases q3.own (own_iff.2 hk) with e | e
      · exact Or.inl (own_iff.1 e)
      · exact Or.inr e
theorem wpList_appB {P : Nat → Prop} {w : World} {ops : Array Oper} {rest : List Oper} {o : Oper} {a : Act} {Q : Exit → Act → World → Prop} (hgd : o.guard = none) (s x : Operand)
    (ho : o.op = .call { callee := .builtin .append, args := #[s, x], argTypes := #[22, 22] }) (B : Nat) (hB : B ≤ w.heap.size) (v : Value) (l : List Nat) (hs : a.eval s = v) (hown : w.ownsRow B 5 1 v l.length (bV l))
    (u : Value) (m : List Nat) (hx : a.eval x = u) (hu : BL P w u m) (hn : l.length + m.length ≤ 2199023255552)
    (h : ∀ v' w', App B 5 1 w w' v v' (l ++ m).length (bV (l ++ m)) → wpList Try.prog ops Q rest (a.put o.dst v') w') : wpList Try.prog ops Q (o :: rest) a w :=
  wpList_plain hgd fun _ hK => wp_appB s x ho B hB v l hs hown u m hx hu hn fun v' w' q => hK _ _ (h v' w' q)
/-- a literal row of bytes in a new block -/
theorem BL.new (W : World) (l : List Nat) (hl : l.length ≤ 1152921504606846976) : BL (fun k => k = W.heap.size) (W.alloc (.cells (bV l).toArray 5)) (.slice (some ⟨W.heap.size, 0, none⟩) l.length l.length) l :=
  SL.box (CBox.new W 5 (bV l)) (by rw [bV_len]; omega) hl rfl
theorem dig_get : ∀ (w n i : Nat), i < w → (dig w n)[i]? = some (n / 256 ^ (w - 1 - i) % 256)
  | 0, n, i, h => by omega
  | w + 1, n, i, h => by
    rw [dig]
    by_cases e : i < w
    · rw [List.getElem?_append_left (by rw [dig_len]; exact e), dig_get w _ i e, Nat.div_div_eq_div_mul, show w + 1 - 1 - i = (w - 1 - i) + 1 by omega, Nat.pow_succ, Nat.mul_comm 256]
    · have : i = w := by omega
      subst this
      rw [List.getElem?_append_right (by rw [dig_len]; omega), dig_len]
      simp
theorem take_snoc {α : Type} {l : List α} {i : Nat} {x : α} (h : l[i]? = some x) : l.take (i + 1) = l.take i ++ [x] := by
  rw [List.take_add_one, h]; rfl
set_option maxHeartbeats 4000000 in
set_option maxRecDepth 100000 in
theorem writeNumber_is (w : World) (B : Nat) (hB : B ≤ w.heap.size) (v : Value) (l : List Nat) (hv : w.ownsRow B 5 1 v l.length (bV l)) (wd z : Nat) (hw : wd ≤ 8) (hz : z < 18446744073709551616) (hl : l.length ≤ 1099511627776) :
    Calls Try.prog 104 #[v, .int .i64 (wd : Int), .int .u64 (z : Int)] w fun e w' => ∃ v', e = .returned v' ∧ App B 5 1 w w' v v' (l ++ dig wd z).length (bV (l ++ dig wd z)) := by
  have HV : Hid (w.ownsRow B 5 1 v l.length (bV l)) := hv
  have HL : Hid (l.length ≤ 1099511627776) := hl
  have wI : (wd : Int) ≤ 8 := by omega
  have zI : (z : Int) < 18446744073709551616 := by omega
  have HB : Hid (B ≤ w.heap.size) := hB
  clear hv hl hB
  go_enter Try.func104, Try.ntmps104
  go_wp2
  go_loopw [0, 9] (fun s0 s9 wr => ∃ i : Nat, s9 = .int .i64 (i : Int) ∧ i ≤ wd ∧ App B 5 1 w wr v s0 (l ++ (dig wd z).take i).length (bV (l ++ (dig wd z).take i))) (fun _ s9 _ => wd - (intOf s9).toNat)
  case atStart => exact ⟨0, rfl, by omega, by simpa using App.refl HV.out⟩
  case round =>
    obtain ⟨i, rfl, hi, hA⟩ := hrel
    have HA : Hid (App B 5 1 w wr v u0 (l ++ (dig wd z).take i).length (bV (l ++ (dig wd z).take i))) := hA
    clear hA
    by_cases e : i = wd
    · subst e
      go_wp2
      go_ret
      exact ⟨_, rfl, by have := HA.out; rwa [List.take_of_length_le (by rw [dig_len]; omega)] at this⟩
    · have iI : (i : Int) < (wd : Int) := by omega
      obtain ⟨a, ha⟩ : ∃ a : Nat, a = wd - 1 := ⟨_, rfl⟩
      obtain ⟨q, hq⟩ : ∃ q : Nat, q = a - i := ⟨_, rfl⟩
      obtain ⟨s, hs⟩ : ∃ s : Nat, s = 8 * q := ⟨_, rfl⟩
      obtain ⟨y, hy⟩ : ∃ y : Nat, y = z / 2 ^ s := ⟨_, rfl⟩
      obtain ⟨x, hx⟩ : ∃ x : Nat, x = y % 256 := ⟨_, rfl⟩
      have r1 : (wd : Int) - 1 = (a : Int) := by omega
      have r2 : (a : Int) - (i : Int) = (q : Int) := by omega
      have r3 : (8 : Int) * (q : Int) = (s : Int) := by omega
      have s64 : (s : Int) ≤ 64 := by omega
      have wa : IntKind.i64.wrap (a : Int) = (a : Int) := by rw [IntKind.wrap_i64]; omega
      have wq : IntKind.i64.wrap (q : Int) = (q : Int) := by rw [IntKind.wrap_i64]; omega
      have ws : IntKind.i64.wrap (s : Int) = (s : Int) := by rw [IntKind.wrap_i64]; omega
      have r4 : (z : Int) / 2 ^ s = (y : Int) := by rw [hy, Int.natCast_ediv, Int.natCast_pow]; rfl
      have r5 : IntKind.u8.wrap (y : Int) = (x : Int) := by rw [IntKind.wrap_u8]; omega
      have HX : Hid ((dig wd z)[i]? = some x) := by
        unfold Hid
        rw [dig_get wd z i (by omega), hx, hy, hs, hq, ha, Nat.pow_mul, show (2 : Nat) ^ 8 = 256 by decide]
      clear ha hq hs hy hx e
      have BX : Hid (BL (fun k => k = wr.heap.size) (wr.alloc (.cells #[.int .u8 (x : Int)] 5)) (.slice (some ⟨wr.heap.size, 0, none⟩) 1 1) [x]) := BL.new wr [x] (by simp)
      have PX : Hid (Below wr.heap.size wr (wr.alloc (.cells #[.int .u8 (x : Int)] 5))) := below_alloc _ _
      go_wp2_with (at_builtin; refine wpList_appB rfl _ _ rfl B (Nat.le_trans (Nat.le_trans HB.out HA.out.but.size) PX.out.size) u0 (l ++ (dig wd z).take i) rfl (owns_past HA.out.row PX.out) (.slice (some ⟨wr.heap.size, 0, none⟩) 1 1) [x] rfl BX.out (by have := HL.out; simp [dig_len]; omega) ?_; intro v' w' hA2)
      have HR : Hid (App B 5 1 w w' v v' (l ++ (dig wd z).take (i + 1)).length (bV (l ++ (dig wd z).take (i + 1)))) := by
        have h9 := (HA.out.then PX.out).trans hA2
        rw [List.append_assoc, ← take_snoc HX.out] at h9
        exact h9
      clear hA2 BX PX HA
      go_roundw
      case rel => exact ⟨i + 1, by first | rfl | go_num, by omega, HR.out⟩
      case measure => simp [intOf]; omega
end Go.Proofs.Ytndhabhlajldeaa
