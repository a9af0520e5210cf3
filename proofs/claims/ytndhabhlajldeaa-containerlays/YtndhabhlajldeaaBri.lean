/- The document's containers: more: a list of fields that grows. -/
import Derived.Test.YtndhabhlajldeaaBrh
namespace Go.Proofs.Ytndhabhlajldeaa
open Go.RowKit
theorem Try.infoF : (Try.prog.info? 123).map (fun i => (i.zero, i.size, i.bytes)) = some (some (.agg #[.int .i64 0, .int .i64 0]), 2, 16) := by kernel_rfl
/-- fields as cells -/
def fV (l : List (Nat × Nat)) : List Value := l.flatMap fun p => [.int .i64 (p.1 : Int), .int .i64 (p.2 : Int)]
theorem fV_app (l m : List (Nat × Nat)) : fV (l ++ m) = fV l ++ fV m := by simp [fV]
theorem fV_len : ∀ l : List (Nat × Nat), (fV l).length = l.length * 2
  | [] => rfl
  | p :: l => by
    show ([Value.int .i64 (p.1 : Int), .int .i64 (p.2 : Int)] ++ fV l).length = _
    rw [List.length_append, fV_len l, List.length_cons]
    simp
    omega
theorem fV_one (l : List (Nat × Nat)) : ∀ u ∈ fV l, u.oneCell' = true := fun u hu => by
  obtain ⟨p, _, hp⟩ := List.mem_flatMap.1 hu
  simp at hp
  rcases hp with rfl | rfl <;> rfl
theorem fV_get : ∀ (l : List (Nat × Nat)) (i : Nat) (p : Nat × Nat), l[i]? = some p → (fV l)[i * 2]? = some (.int .i64 (p.1 : Int)) ∧ (fV l)[i * 2 + 1]? = some (.int .i64 (p.2 : Int))
  | [], i, p, h => by simp at h
  | q :: l, 0, p, h => by
    simp at h
    subst h
    exact ⟨rfl, rfl⟩
  | q :: l, i + 1, p, h => by
    obtain ⟨h1, h2⟩ := fV_get l i p (by simpa using h)
    show ([Value.int .i64 (q.1 : Int), .int .i64 (q.2 : Int)] ++ fV l)[(i + 1) * 2]? = _ ∧ ([Value.int .i64 (q.1 : Int), .int .i64 (q.2 : Int)] ++ fV l)[(i + 1) * 2 + 1]? = _
    rw [List.getElem?_append_right (by simp; omega), List.getElem?_append_right (by simp; omega)]
    exact ⟨by rw [show (i + 1) * 2 - [Value.int .i64 (q.1 : Int), .int .i64 (q.2 : Int)].length = i * 2 by simp; omega]; exact h1, by rw [show (i + 1) * 2 + 1 - [Value.int .i64 (q.1 : Int), .int .i64 (q.2 : Int)].length = i * 2 + 1 by simp; omega]; exact h2⟩
/-- a list of fields of one's own -/
def FO (B : Nat) (W : World) (v : Value) (l : List (Nat × Nat)) : Prop := W.ownsRow B 123 2 v l.length (fV l)
theorem FO.past {B : Nat} {W W' : World} {v : Value} {l : List (Nat × Nat)} (h : FO B W v l) (k : Below W.heap.size W W') : FO B W' v l := owns_past h k
/-- append of fields that were laid into a new block -/
theorem wpList_appF {w : World} {ops : Array Oper} {rest : List Oper} {o : Oper} {a : Act} {Q : Exit → Act → World → Prop} (hgd : o.guard = none) (s x : Operand)
    (ho : o.op = .call { callee := .builtin .append, args := #[s, x], argTypes := #[124, 124] }) (B : Nat) (hB : B ≤ w.heap.size) (v : Value) (l : List (Nat × Nat)) (hs : a.eval s = v) (hown : FO B w v l)
    (y : List (Nat × Nat)) (m : Nat) (hm : y.length = m) (hx : a.eval x = .slice (some ⟨w.heap.size, 0, none⟩) m m) (hn : l.length + m ≤ 2199023255552)
    (h : ∀ v' w', App B 123 2 w w' v v' (l ++ y).length (fV (l ++ y)) → wpList Try.prog ops Q rest (a.put o.dst v') w') : wpList Try.prog ops Q (o :: rest) a (w.alloc (.cells (fV y).toArray 123)) :=
  wpList_plain hgd fun _ hK => by
    obtain ⟨ad, cap, rfl⟩ := owns_sl hown
    subst hm
    refine wp_apps s x 124 123 ho (.agg #[.int .i64 0, .int .i64 0]) 2 16 Try.underlying124 Try.infoF rfl (by omega) (by omega) B (Nat.le_trans hB (below_alloc _ _).size) ad l.length cap (fV l) hs (owns_past hown (below_alloc _ _)) ⟨w.heap.size, 0, none⟩ y.length y.length (fV y) hx (fV_len y) (fun j c hj => ?_) (fV_one y) hn (fun ad' cap' w' q1 q2 q3 => hK _ _ (h _ _ ⟨?_, ?_, fun k hk => ?_⟩))
    · rw [Addr.add_mid, Nat.zero_add]
      exact ((CBox.new w 123 (fV y)).cell j).trans hj
    · rw [List.length_append, fV_app]; exact q1
    · have b1 : But (OwnV (.slice ad l.length cap)) w (w.alloc (.cells (fV y).toArray 123)) := below_but (below_alloc _ _)
      exact b1.trans (q2.mono fun k hk => own_iff.1 hk)
    · rcases q3.own (own_iff.2 hk) with e | e
      · exact Or.inl (own_iff.1 e)
      · exact Or.inr (Nat.le_trans (below_alloc _ _).size e)
set_option maxHeartbeats 4000000 in
set_option maxRecDepth 100000 in
theorem more_is (w : World) (B : Nat) (hB : B ≤ w.heap.size) (v : Value) (l : List (Nat × Nat)) (hv : FO B w v l) (n y z : Nat) (hn : n ≤ 16777216) (hl : l.length ≤ 1073741824) :
    Calls Try.prog 102 #[v, .int .i64 (n : Int), .agg #[.int .i64 (y : Int), .int .i64 (z : Int)]] w fun e w' => ∃ v', e = .returned v' ∧ App B 123 2 w w' v v' (l ++ List.replicate n (y, z)).length (fV (l ++ List.replicate n (y, z))) := by
  have C0 : Hid (CBox (w.alloc (.cells #[.int .i64 (y : Int), .int .i64 (z : Int)] 123)) w.heap.size 123 [.int .i64 (y : Int), .int .i64 (z : Int)]) := CBox.new w _ [_, _]
  have M0 : Hid (App B 123 2 w (w.alloc (.cells #[.int .i64 (y : Int), .int .i64 (z : Int)] 123)) v v l.length (fV l)) := (App.refl hv).then (below_alloc _ _)
  have NO : Hid (∀ g, OwnV v g → g < w.heap.size) := fun g hg => (World.ownsRow.lt hv g hg).2
  have HL : Hid (l.length ≤ 1073741824 ∧ n ≤ 16777216 ∧ B ≤ w.heap.size) := ⟨hl, hn, hB⟩
  have nI : (n : Int) ≤ 16777216 := by omega
  clear hv hn hl hB
  go_enter Try.func102, Try.ntmps102
  go_upto_region 1 with fail
  generalize w.alloc _ = W0 at C0 M0 ⊢
  generalize hb : w.heap.size = bx at C0 NO ⊢
  have GB : Hid (w.heap.size = bx) := hb
  clear hb
  go_wp2
  go_loopw [0, 7] (fun s0 s7 wr => ∃ k : Nat, s7 = .int .i64 (k : Int) ∧ k ≤ n ∧ App B 123 2 w wr v s0 (l ++ List.replicate k (y, z)).length (fV (l ++ List.replicate k (y, z))) ∧ CBox wr bx 123 [.int .i64 (y : Int), .int .i64 (z : Int)] ∧ ¬ OwnV s0 bx) (fun _ s7 _ => n - (intOf s7).toNat)
  case atStart => exact ⟨0, rfl, by omega, by simpa using M0.out, C0.out, fun e => by have := NO.out _ e; omega⟩
  case round =>
    obtain ⟨k, rfl, hk, hM, hC, hO⟩ := hrel
    have M : Hid (App B 123 2 w wr v u0 (l ++ List.replicate k (y, z)).length (fV (l ++ List.replicate k (y, z))) ∧ CBox wr bx 123 [.int .i64 (y : Int), .int .i64 (z : Int)] ∧ ¬ OwnV u0 bx) := ⟨hM, hC, hO⟩
    clear hM hC hO M0 C0
    by_cases e : k = n
    · subst e
      go_wp2
      go_ret
      exact ⟨_, rfl, M.out.1⟩
    · have kn : (k : Int) < (n : Int) := by omega
      have c0 : wr.cell? ⟨bx, 0, none⟩ = some (.int .i64 (y : Int)) := M.out.2.1.cell 0
      have c1 : wr.cell? ⟨bx, 1, none⟩ = some (.int .i64 (z : Int)) := M.out.2.1.cell 1
      have HLe : Hid ((l ++ List.replicate k (y, z)).length + 1 ≤ 2199023255552) := by unfold Hid; rw [List.length_append, List.length_replicate]; have := HL.out; omega
      clear e
      go_wp2_with (at_builtin; refine wpList_appF rfl _ _ rfl B (Nat.le_trans HL.out.2.2 M.out.1.but.size) u0 (l ++ List.replicate k (y, z)) rfl M.out.1.row [(y, z)] 1 rfl rfl HLe.out ?_; intro v' w' hA)
      have HR : Hid (App B 123 2 w w' v v' (l ++ List.replicate (k + 1) (y, z)).length (fV (l ++ List.replicate (k + 1) (y, z))) ∧ CBox w' bx 123 [.int .i64 (y : Int), .int .i64 (z : Int)] ∧ ¬ OwnV v' bx) := by
        refine ⟨?_, M.out.2.1.but hA.but M.out.2.2, fun e => ?_⟩
        · have h9 := M.out.1.trans hA
          rw [List.append_assoc, show List.replicate k (y, z) ++ [(y, z)] = List.replicate (k + 1) (y, z) from (List.replicate_succ' ..).symm] at h9
          exact h9
        · rcases hA.new _ e with e1 | e1
          · exact M.out.2.2 e1
          · have := M.out.2.1.lt; omega
      clear hA M c0 c1
      go_roundw
      case rel => exact ⟨k + 1, by first | rfl | go_num, by omega, HR.out⟩
      case measure => simp [intOf]; omega
end Go.Proofs.Ytndhabhlajldeaa
