/- SpongePlays' helpers: steps, which; an append of a piece in a drawn region. -/
import Derived.Test.YteggikojfkmbkaaDoorVv
namespace Go.Proofs.YteggikojfkmbkaaDoor
open Go.RowKit
/-- a list of steps -/
def SqAt (W : World) (la : Option Addr) (n : Nat) (Kd Wh : Nat → Int) (bv : Nat → Value) : Prop := n ≠ 0 → ∃ pb po, la = some ⟨pb, po, none⟩ ∧ ∀ i, i < n → W.cell? ⟨pb, po + i * 3, none⟩ = some (.int .i64 (Kd i)) ∧ W.cell? ⟨pb, po + i * 3 + 1, none⟩ = some (.int .i64 (Wh i)) ∧ W.cell? ⟨pb, po + i * 3 + 2, none⟩ = some (bv i)
set_option maxHeartbeats 2000000 in
set_option maxRecDepth 100000 in
theorem steps_is (w : World) (pa : Option Addr) (n cap : Nat) (Kd Wh : Nat → Int) (ad : Nat → Option Addr) (ln cp : Nat → Nat) (hn : n ≤ 140737488355328) (hp : SqAt w pa n Kd Wh fun i => .slice (ad i) (ln i) (cp i)) (hl : ∀ i, i < n → ln i ≤ 140737488355328) :
    Calls Tryd.prog 20 #[.slice pa n cap] w fun e w' => WRes n ln e ∧ w' = w := by
  have HP : Hid (SqAt w pa n Kd Wh fun i => .slice (ad i) (ln i) (cp i)) := hp
  have HL : Hid (∀ i, i < n → ln i ≤ 140737488355328) := hl
  have nI : (n : Int) ≤ 140737488355328 := by omega
  clear hp hl
  go_enter Tryd.func20, Tryd.ntmps20
  go_wp2
  go_loopw [3, 4] (fun m s wr => ∃ k : Nat, k ≤ n ∧ s = .int .i64 (k : Int) ∧ m = .int .i64 ((n + lenSum ln k : Nat) : Int) ∧ n + lenSum ln k ≤ 281474976710656 ∧ wr = w) (fun _ s _ => n - (intOf s).toNat)
  case atStart => exact ⟨0, Nat.zero_le _, rfl, rfl, by rw [lenSum]; omega, rfl⟩
  case round =>
    obtain ⟨k, hk, rfl, rfl, hb, rfl⟩ := hrel
    by_cases hk5 : k < n
    · have kI : (k : Int) < (n : Int) := by omega
      by_cases hm : n + lenSum ln k ≤ 16777216
      · obtain ⟨pb, po, rfl, hc⟩ := HP.out (by omega)
        have ck := (hc k hk5).2.2
        have lk := HL.out k hk5
        have hs : n + lenSum ln (k + 1) = n + lenSum ln k + ln k := by rw [lenSum]; omega
        obtain ⟨m, em⟩ : ∃ m, n + lenSum ln k = m := ⟨_, rfl⟩
        obtain ⟨m2, em2⟩ : ∃ m, n + lenSum ln (k + 1) = m := ⟨_, rfl⟩
        rw [em] at hb hm hs ⊢
        rw [em2] at hs
        have HM2 : Hid (n + lenSum ln (k + 1) = m2) := em2
        have hb2 : m2 ≤ 281474976710656 := by omega
        dsimp only at ck
        generalize ad k = a at ck
        generalize cp k = c at ck
        generalize ln k = x at ck lk hs
        have mI : (m : Int) ≤ 16777216 := by omega
        have s1 : (m : Int) + (x : Int) = (m2 : Int) := by omega
        have w1 : IntKind.i64.wrap (m2 : Int) = (m2 : Int) := by rw [IntKind.wrap_i64]; omega
        clear em em2 hs hm hb hc hk lk
        go_wp2
        go_roundw
        case rel => exact ⟨k + 1, by omega, by go_num, by rw [HM2.out], by rw [HM2.out]; exact hb2, trivial⟩
        case measure => simp [intOf]; omega
      · obtain ⟨m, em⟩ : ∃ m, n + lenSum ln k = m := ⟨_, rfl⟩
        have HLE : Hid (m ≤ n + lenSum ln n) := by
          have := lenSum_mono ln k (n - k)
          rw [show k + (n - k) = n by omega] at this
          unfold Hid; omega
        rw [em] at hm ⊢
        have mI : ¬ ((m : Int) ≤ 16777216) := by omega
        clear em hb
        go_wp2
        go_ret
        exact ⟨⟨m, rfl, Or.inl (by omega), HLE.out⟩, rfl⟩
    · obtain rfl : k = n := by omega
      have kI : ¬ ((k : Int) < (k : Int)) := by omega
      obtain ⟨m, em⟩ : ∃ m, k + lenSum ln k = m := ⟨_, rfl⟩
      have EM : Hid (k + lenSum ln k = m) := em
      rw [em]
      clear em hb
      go_wp2
      go_ret
      exact ⟨⟨m, rfl, Or.inr EM.out.symm, Nat.le_of_eq EM.out.symm⟩, rfl⟩
def whN (z : Int) : Nat := (Int.tmod z 3).natAbs
theorem whN_lt (z : Int) : whN z < 3 := by
  unfold whN
  have h1 := Int.tmod_lt_of_pos z (show (0 : Int) < 3 by omega)
  have h2 : -3 < Int.tmod z 3 := by have := Int.lt_tmod_of_pos z (show (0 : Int) < 3 by omega); omega
  omega
set_option maxHeartbeats 1000000 in
set_option maxRecDepth 100000 in
theorem which_is (w : World) (z : Int) : Calls Tryd.prog 22 #[.int .i64 z] w fun e w' => e = .returned (.int .i64 (whN z : Int)) ∧ w' = w := by
  have hlt := whN_lt z
  obtain ⟨r, er⟩ : ∃ r, Int.tmod z 3 = r := ⟨_, rfl⟩
  have hk : whN z = r.natAbs := by unfold whN; rw [er]
  have HK : Hid (whN z = r.natAbs) := hk
  rw [hk] at hlt
  have w1 : IntKind.i64.wrap r = r := by rw [IntKind.wrap_i64]; omega
  by_cases hr : r < 0
  · have w2 : IntKind.i64.wrap (-r) = -r := by rw [IntKind.wrap_i64]; omega
    have e2 : Hid ((r.natAbs : Int) = -r) := by unfold Hid; omega
    rw [hk]
    clear hk hlt
    go_enter Tryd.func22, Tryd.ntmps22
    go_wp2
    go_ret
    exact ⟨by rw [e2.out]; rfl, rfl⟩
  · have e2 : Hid ((r.natAbs : Int) = r) := by unfold Hid; omega
    rw [hk]
    clear hk hlt
    go_enter Tryd.func22, Tryd.ntmps22
    go_wp2
    go_ret
    exact ⟨by rw [e2.out]; rfl, rfl⟩
/-- an append of a piece: one operation -/
theorem wp_append_seg {w : World} {o : Oper} {a : Act} {K : Act → World → Prop} {Q : Exit → Act → World → Prop} (s x : Operand)
    (ho : o.op = .call { callee := .builtin .append, args := #[s, x], argTypes := #[29, 29] }) (base : Nat) (v : Value) (n : Nat) (xs : List Value) (hs : a.eval s = v) (hown : w.ownsRow base 5 1 v n xs)
    (vx : Value) (l : List Nat) (hx : a.eval x = vx) (hseg : Seg w vx l) (hlen : n + l.length ≤ 1000000000) (hbase : base ≤ w.heap.size)
    (h : ∀ v' w', w'.ownsRow base 5 1 v' (n + l.length) (xs ++ bytesL l) → (v' = .slice none 0 0 ↔ v = .slice none 0 0 ∧ l.length = 0) → Grew w w' v v' (n + l.length) → K (a.put o.dst v') w') : o.wp Tryd.prog a w K Q := by
  obtain ⟨i0, hi, hz0, hz1, hz2⟩ := info_parts Tryd.info8
  obtain ⟨ad, cap, rfl, h1, h2, h3, h4⟩ := hseg
  rcases ad with _ | ad
  · obtain rfl := h4 rfl
    have hl0 : l = [] := Classical.byContradiction fun h => by obtain ⟨_, _, h', _⟩ := h3 h; cases h'
    subst hl0
    have hrun := run_append_owned_none (P := Tryd.prog) (w := w) base 29 o.type 5 i0 1 Tryd.underlying29 hi v n xs hown
    unfold Oper.wp
    have hx' : a.eval x = .slice none 0 0 := hx
    simp only [execOp, ho, resolve, invoke, builtin, Sem.run_bind, Sem.run_pure, Result.andThen_ok, List.map_toArray, List.map_cons, List.map_nil, hs, hx', hrun]
    refine h v w (by simpa [bytesL] using hown) (by simp) (Or.inl ⟨⟨rfl, rfl, rfl, Nat.le_refl _, fun _ _ _ => rfl⟩, rfl, fun q m c e => ?_⟩)
    obtain ⟨_, ⟨h5, h6⟩ | ⟨g, c', cur, h5, _⟩⟩ := id hown
    · rw [e] at h5; cases h5; subst h6; exact e
    · rw [e] at h5; cases h5; exact e
  · refine wp_append_strong s x 29 ho base 5 i0 (.int .u8 0) 1 1 Tryd.underlying29 hi hz0 hz1 hz2 rfl (by decide) v n xs hs hown ad l.length cap (bytesL l) hx (by rw [bytesL_len]; omega) ?_ (bytesL_one l) (by unfold maxLen; omega) (by omega) hbase h
    intro j u hj
    obtain ⟨hj', rfl⟩ := bytesL_at l j u hj
    obtain ⟨sb, so, ha, hby⟩ := h3 (by intro e; rw [e] at hj'; simp at hj')
    obtain rfl := Option.some.inj ha
    rw [Addr.add_mid]
    exact hby j hj'
theorem PL.pcell {w : World} {gl cl gt ct : Nat} {sb : Nat → Nat} {sk tk : Nat → List Nat} {tv : Nat → Value} {W : World} (h : PL w gl cl gt ct sb sk tk tv W) {k : Nat} (hk : k < 3) : W.cell? ⟨gl, k, none⟩ = some (.pointer (some ⟨sb k, 0, none⟩)) ∧ W.frozen? ⟨gl, k, none⟩ = false :=
  ⟨by rw [h.row.cellAt k (by omega), get3 (fun j => ptr (sb j)) k hk]; rfl, h.row.frozenAt k⟩
theorem PL.tcell {w : World} {gl cl gt ct : Nat} {sb : Nat → Nat} {sk tk : Nat → List Nat} {tv : Nat → Value} {W : World} (h : PL w gl cl gt ct sb sk tk tv W) {k : Nat} (hk : k < 3) : W.cell? ⟨gt, k, none⟩ = some (tv k) ∧ W.frozen? ⟨gt, k, none⟩ = false ∧ ∃ a c, tv k = .slice a (tk k).length c ∧ Seg W (tv k) (tk k) := by
  refine ⟨by rw [h.tak.cellAt k (by omega), get3 tv k hk], h.tak.frozenAt k, ?_⟩
  have hs := (owns_seg (h.own k hk).1).1
  obtain ⟨a, c, e, _⟩ := id hs
  exact ⟨a, c, e, hs⟩
/-- while the three sponges are made -/
def QL (w : World) (gt k : Nat) (sb : Nat → Nat) (vl : Value) (W : World) : Prop := Below w.heap.size w W ∧ W.ownsRow w.heap.size 42 1 vl k ((List.range k).map fun j => ptr (sb j)) ∧ W.ownsRow w.heap.size 29 1 (.slice (some ⟨gt, 0, none⟩) 3 3) 3 [.slice none 0 0, .slice none 0 0, .slice none 0 0] ∧ (∀ j, j < k → Spo W (sb j) zeroK 0 ∧ w.heap.size ≤ sb j) ∧ (∀ i j, i < k → j < k → i ≠ j → sb i ≠ sb j) ∧ (vl = .slice none 0 0 ∨ k ≠ 0)
theorem QL.past {w : World} {gt k : Nat} {sb : Nat → Nat} {vl : Value} {W W' : World} (h : QL w gt k sb vl W) (q : Below W.heap.size W W') : QL w gt k sb vl W' :=
  ⟨h.1.trans (q.mono h.1.size), row_pastP h.2.1 q, row_pastP h.2.2.1 q, fun j hj => ⟨(h.2.2.2.1 j hj).1.below q (h.2.2.2.1 j hj).1.lt, (h.2.2.2.1 j hj).2⟩, h.2.2.2.2⟩
theorem QL.more {w : World} {gt k : Nat} {sb : Nat → Nat} {vl vl' : Value} {W W1 W2 : World} {o : Obj} (h : QL w gt k sb vl W) (hB : Below W.heap.size W W1) (hs : Spo W1 W.heap.size zeroK 0) (ho : W2.ownsRow w.heap.size 42 1 vl' (k + 1) ((List.range k).map (fun j => ptr (sb j)) ++ [ptr W.heap.size])) (hg : (W1.alloc o).grownBy W2 vl.ownBlock) : QL w gt (k + 1) (upd sb k W.heap.size) vl' W2 := by
  have hb : Below W1.heap.size W1 (W1.alloc o) := (Below.refl _ _).alloc (Nat.le_refl _) o
  have h' := (h.past hB).past hb
  have hs' : Spo (W1.alloc o) W.heap.size zeroK 0 := hs.below hb hs.lt
  generalize W1.alloc o = U at h' hs' hg
  have hne : ∀ j, j < k → vl.ownBlock ≠ some (sb j) := fun j hj => spo_row (h'.2.2.2.1 j hj).1 h'.2.1 (by omega) (fun z e => by
    have h0 : 0 < k := by omega
    simp [h0, ptr] at e)
  have hn0 : vl.ownBlock ≠ some W.heap.size := fun e => by have := (h.2.1.lt _ e).2; omega
  have el : (List.range k).map (fun j => ptr (upd sb k W.heap.size j)) = (List.range k).map (fun j => ptr (sb j)) := by
    apply List.map_congr_left; intro j hj
    rw [upd_ne _ _ _ _ (by have := List.mem_range.1 hj; omega)]
  refine ⟨Below.grown h'.1 hg h'.1.size (fun q hq => (h'.2.1.lt q hq).1), ?_, h'.2.2.1.kept hg ?_, fun j hj => ?_, fun i j hi hj hij => ?_, Or.inr (by omega)⟩
  · rw [List.range_succ, List.map_append, el, List.map_cons, List.map_nil, upd_same]; exact ho
  · exact Or.inr (fun e => rows_ne h'.2.2.1 h'.2.1 (by decide) gt rfl e.symm)
  · by_cases e : j = k
    · subst e; rw [upd_same]; exact ⟨hs'.grown hg hn0, h.1.size⟩
    · rw [upd_ne _ _ _ _ e]; exact ⟨(h'.2.2.2.1 j (by omega)).1.grown hg (hne j (by omega)), (h'.2.2.2.1 j (by omega)).2⟩
  · by_cases e : i = k
    · subst e; rw [upd_same, upd_ne _ _ _ _ (fun e2 => hij e2.symm)]; have := (h.2.2.2.1 j (by omega)).1.lt; omega
    · rw [upd_ne _ _ _ _ e]
      by_cases e2 : j = k
      · subst e2; rw [upd_same]; have := (h.2.2.2.1 i (by omega)).1.lt; omega
      · rw [upd_ne _ _ _ _ e2]; exact h.2.2.2.2.1 i j (by omega) (by omega) hij
theorem QL.all {w : World} {gt : Nat} {sb : Nat → Nat} {vl : Value} {W : World} (h : QL w gt 3 sb vl W) : ∃ gl cl, vl = .slice (some ⟨gl, 0, none⟩) 3 cl ∧ PL w gl cl gt 3 sb (fun _ => []) (fun _ => []) (fun _ => .slice none 0 0) W := by
  obtain ⟨h1, h2, h3, h4, h5, _⟩ := h
  obtain ⟨_, ⟨_, e⟩ | ⟨g, c, cur, rfl, _⟩⟩ := id h2
  · omega
  · exact ⟨g, c, rfl, h1, h2, h3, h4, h5, fun j hj => ⟨World.ownsRow_nil _ _ _ _, Or.inl rfl⟩, fun i j _ _ _ q hq => by simp [Value.ownBlock] at hq⟩
theorem infPtr : (Tryd.prog.info? 42).map (fun i => (i.zero, i.size, i.bytes)) = some (some (.pointer none), 1, 8) := by kernel_rfl
end Go.Proofs.YteggikojfkmbkaaDoor
