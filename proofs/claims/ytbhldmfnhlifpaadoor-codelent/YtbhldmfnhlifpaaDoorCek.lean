/- CodeLent: rows of numbers in blocks of their own; what is written into them and behind them. -/
import Derived.Test.YtbhldmfnhlifpaaDoorRows
import Derived.Laws.AppendOwn
import Derived.Laws.OwnMore
import Derived.OwnWalk
import Derived.Test.YtbhldmfnhlifpaaDoorCej
namespace Go.Proofs.YtbhldmfnhlifpaaDoor
/-- what an append has done -/
def Grew (w w' : World) (v v' : Value) (k : Nat) : Prop := (w.grownBy w' v.ownBlock ∧ v'.ownBlock = v.ownBlock ∧ (∀ q n c, v = .slice q n c → v' = .slice q k c)) ∨ (w.grownBy w' none ∧ ∃ c, v' = .slice (some ⟨w.heap.size, 0, none⟩) k c)
theorem grown_alloc (w : World) (o : Obj) : w.grownBy (w.drew.alloc o) none := ⟨rfl, rfl, rfl, by simp, fun k hk _ => (by first | exact heap_alloc_old w.drew o k hk | exact heap_alloc_old w.drew o hk)⟩
theorem run_append_strong {P : Program} (w : World) (base : Nat) (t ty e : TypeId) (i : TypeInfo) (z : Value) (size bytes : Nat) (ht : P.underlying t = some (.slice e)) (hi : P.info? e = some i) (hz : i.zero = some z)
    (hsize : i.size = size) (hby : i.bytes = bytes) (hzs : z.cells.size = size) (hsz : 0 < size) (v : Value) (n : Nat) (xs : List Value) (hown : w.ownsRow base e size v n xs)
    (a : Addr) (m c : Nat) (news : List Value) (hl : news.length = m * size) (hnews : ∀ j u, news[j]? = some u → w.cell? (a.add j) = some u) (h1 : ∀ u ∈ news, u.oneCell' = true)
    (h63 : n + m ≤ maxLen) (hbytes : (n + m) * bytes ≤ 140737488355328) (hbase : base ≤ w.heap.size) :
    ∃ v' w', (Builtin.append_ #[t, t] ty #[v, .slice (some a) m c]).run P w = .ok v' w' ∧ w'.ownsRow base e size v' (n + m) (xs ++ news) ∧ (v' = .slice none 0 0 ↔ v = .slice none 0 0 ∧ m = 0) ∧ Grew w w' v v' (n + m) := by
  obtain ⟨v', w', hr, h2, h3, h4⟩ := run_append_own (P := P) w base t ty e i z size bytes ht hi hz hsize hby hzs hsz v n xs hown a m c news hl hnews h1 h63 hbytes hbase
  refine ⟨v', w', hr, h2, h4, ?_⟩
  subst hsize hby
  have hsmall : n + m ≤ 9223372036854775807 := by simp only [maxLen] at h63; omega
  rcases hown.2 with ⟨rfl, rfl⟩ | ⟨g, cap, cur, rfl, hbg, hg, hnc, hcm, hcs, htake⟩
  · by_cases hm : m = 0
    · subst hm
      obtain rfl := h4.2 ⟨rfl, rfl⟩
      exact Or.inl ⟨h3, rfl, fun q n c e => by cases e; rfl⟩
    · have hn := run_append_nil (P := P) w t ty e i z ht hi hz a m c news hl hnews (by omega) (by omega) (by have hb := hbytes; simp only [Nat.zero_add] at hb; omega)
      rw [hr] at hn
      injection hn with e1 e2
      subst e1 e2
      exact Or.inr ⟨grown_alloc w _, _, by rw [Nat.zero_add]⟩
  · by_cases hroom : n + m ≤ cap
    · have hfit : n * i.size + news.length ≤ cur.size := by rw [hl, hcs, ← Nat.add_mul]; exact Nat.mul_le_mul_right _ hroom
      have hn := run_append_room (P := P) w t ty e i ht hi g n cap cur hg a m c news hl hnews h1 hroom hfit
      rw [hr] at hn
      injection hn with e1 e2
      subst e1 e2
      exact Or.inl ⟨h3, rfl, fun q n c e => by cases e; rfl⟩
    · have holds : ∀ j u, xs[j]? = some u → w.cell? ((⟨g, 0, none⟩ : Addr).add j) = some u := hown.cells (g := g) rfl
      have hn := run_append_grow (P := P) w t ty e i z ht hi hz ⟨g, 0, none⟩ n cap xs hown.1 holds a m c news hl hnews (by omega) (by omega) (growslice_fits (by omega) hbytes)
      rw [hr] at hn
      injection hn with e1 e2
      subst e1 e2
      exact Or.inr ⟨grown_alloc w _, _, rfl⟩
/-- the law of one operation -/
theorem wp_append_strong {P : Program} {w : World} {o : Oper} {a : Act} {K : Act → World → Prop} {Q : Exit → Act → World → Prop} (s x : Operand) (t : TypeId)
    (ho : o.op = .call { callee := .builtin .append, args := #[s, x], argTypes := #[t, t] })
    (base : Nat) (e : TypeId) (i : TypeInfo) (z : Value) (size bytes : Nat) (ht : P.underlying t = some (.slice e)) (hi : P.info? e = some i) (hz : i.zero = some z)
    (hsize : i.size = size) (hby : i.bytes = bytes) (hzs : z.cells.size = size) (hsz : 0 < size)
    (v : Value) (n : Nat) (xs : List Value) (hs : a.eval s = v) (hown : w.ownsRow base e size v n xs)
    (ad : Addr) (m c : Nat) (news : List Value) (hx : a.eval x = .slice (some ad) m c) (hl : news.length = m * size) (hnews : ∀ j u, news[j]? = some u → w.cell? (ad.add j) = some u) (h1 : ∀ u ∈ news, u.oneCell' = true)
    (h63 : n + m ≤ maxLen) (hbytes : (n + m) * bytes ≤ 140737488355328) (hbase : base ≤ w.heap.size)
    (h : ∀ v' w', w'.ownsRow base e size v' (n + m) (xs ++ news) → (v' = .slice none 0 0 ↔ v = .slice none 0 0 ∧ m = 0) → Grew w w' v v' (n + m) → K (a.put o.dst v') w') : o.wp P a w K Q := by
  obtain ⟨v', w', hr, h2, h3, h4⟩ := run_append_strong (P := P) w base t o.type e i z size bytes ht hi hz hsize hby hzs hsz v n xs hown ad m c news hl hnews h1 h63 hbytes hbase
  unfold Oper.wp execOp
  simp only [ho, resolve, invoke, builtin, Sem.run_bind, Sem.run_pure, Result.andThen_ok, List.map_toArray, List.map_cons, List.map_nil, hs, hx, hr]
  exact h v' w' h2 h3 h4
theorem wpList_append_strong {P : Program} {w : World} {ops : Array Oper} {rest : List Oper} {o : Oper} {a : Act} {Q : Exit → Act → World → Prop} (hgd : o.guard = none) (s x : Operand) (t : TypeId)
    (ho : o.op = .call { callee := .builtin .append, args := #[s, x], argTypes := #[t, t] })
    (base : Nat) (e : TypeId) (i : TypeInfo) (z : Value) (size bytes : Nat) (ht : P.underlying t = some (.slice e)) (hi : P.info? e = some i) (hz : i.zero = some z)
    (hsize : i.size = size) (hby : i.bytes = bytes) (hzs : z.cells.size = size) (hsz : 0 < size)
    (v : Value) (n : Nat) (xs : List Value) (hs : a.eval s = v) (hown : w.ownsRow base e size v n xs)
    (ad : Addr) (m c : Nat) (news : List Value) (hx : a.eval x = .slice (some ad) m c) (hl : news.length = m * size) (hnews : ∀ j u, news[j]? = some u → w.cell? (ad.add j) = some u) (h1 : ∀ u ∈ news, u.oneCell' = true)
    (h63 : n + m ≤ maxLen) (hbytes : (n + m) * bytes ≤ 140737488355328) (hbase : base ≤ w.heap.size)
    (h : ∀ v' w', w'.ownsRow base e size v' (n + m) (xs ++ news) → (v' = .slice none 0 0 ↔ v = .slice none 0 0 ∧ m = 0) → Grew w w' v v' (n + m) → wpList P ops Q rest (a.put o.dst v') w') : wpList P ops Q (o :: rest) a w :=
  wpList_plain hgd fun _ hK => wp_append_strong s x t ho base e i z size bytes ht hi hz hsize hby hzs hsz v n xs hs hown ad m c news hx hl hnews h1 h63 hbytes hbase fun v' w' h2 h3 h4 => hK _ _ (h v' w' h2 h3 h4)
end Go.Proofs.YtbhldmfnhlifpaaDoor
namespace Go.Proofs.YtbhldmfnhlifpaaDoor
open Go.RowKit
def upd {α : Type} (f : Nat → α) (k : Nat) (x : α) (n : Nat) : α := if n = k then x else f n
theorem upd_same {α : Type} (f : Nat → α) (k : Nat) (x : α) : upd f k x k = x := if_pos rfl
theorem upd_ne {α : Type} (f : Nat → α) (k n : Nat) (x : α) (h : n ≠ k) : upd f k x n = f n := if_neg h
theorem grown_any {w w' : World} (h : w.grownBy w' none) (r : Option Nat) : w.grownBy w' r := ⟨h.os, h.tape, h.output, h.size, fun k hk _ => h.block k hk (by simp)⟩
/-- rows of numbers, each in a block of its own -/
def Rw (B K : Nat) (V : Nat → Value) (N : Nat → Nat) (l : Nat → List Value) (W : World) : Prop := (∀ n, n < K → W.ownsRow B 3 1 (V n) (N n) (l n)) ∧ ∀ n n', n < K → n' < K → n ≠ n' → ∀ q, (V n).ownBlock = some q → (V n').ownBlock ≠ some q
theorem Rw.past {B K : Nat} {V : Nat → Value} {N : Nat → Nat} {l : Nat → List Value} {W W' : World} (h : Rw B K V N l W) (k : Below W.heap.size W W') : Rw B K V N l W' := ⟨fun n hn => ownsRow_past (h.1 n hn) k, h.2⟩
theorem Rw.put {B K : Nat} {V : Nat → Value} {N : Nat → Nat} {l : Nat → List Value} {W W' : World} (h : Rw B K V N l W) {k : Nat} (hk : k < K) (hg : W.grownBy W' (V k).ownBlock) {v' : Value} {n' : Nat} {l' : List Value} (ho : W'.ownsRow B 3 1 v' n' l')
    (hb : v'.ownBlock = (V k).ownBlock ∨ ∀ q, v'.ownBlock = some q → W.heap.size ≤ q) : Rw B K (upd V k v') (upd N k n') (upd l k l') W' := by
  have keep : ∀ n, n < K → n ≠ k → ∀ q, v'.ownBlock = some q → (V n).ownBlock ≠ some q := fun n hn hne q hq e => by
    rcases hb with hb | hb
    · exact h.2 n k hn hk hne q e (by rw [← hb]; exact hq)
    · have h1 := ((h.1 n hn).lt q e).2
      have h2 := hb q hq
      omega
  refine ⟨fun n hn => ?_, fun n m hn hm hne q hq => ?_⟩
  · by_cases e : n = k
    · subst e; rw [upd_same, upd_same, upd_same]; exact ho
    · rw [upd_ne _ _ _ _ e, upd_ne _ _ _ _ e, upd_ne _ _ _ _ e]
      refine (h.1 n hn).kept hg ?_
      cases hv : (V n).ownBlock with
      | none => exact Or.inl rfl
      | some q => exact Or.inr (fun e2 => h.2 n k hn hk e q hv e2.symm)
  · by_cases e : n = k
    · subst e
      rw [upd_same] at hq
      rw [upd_ne _ _ _ _ (fun e2 => hne e2.symm)]
      exact keep m hm (fun e2 => hne e2.symm) q hq
    · rw [upd_ne _ _ _ _ e] at hq
      by_cases e2 : m = k
      · subst e2; rw [upd_same]; exact fun e3 => keep n hn e q e3 hq
      · rw [upd_ne _ _ _ _ e2]; exact h.2 n m hn hm hne q hq
/-- one row more -/
theorem Rw.snoc {B K : Nat} {V : Nat → Value} {N : Nat → Nat} {l : Nat → List Value} {W W' : World} (h : Rw B K V N l W) (k : Below W.heap.size W W') {v' : Value} {n' : Nat} {l' : List Value} (ho : W'.ownsRow W.heap.size 3 1 v' n' l') (hB : B ≤ W.heap.size) : Rw B (K + 1) (upd V K v') (upd N K n') (upd l K l') W' := by
  refine ⟨fun n hn => ?_, fun n m hn hm hne q hq => ?_⟩
  · by_cases e : n = K
    · subst e; rw [upd_same, upd_same, upd_same]; exact owns_lower ho hB
    · rw [upd_ne _ _ _ _ e, upd_ne _ _ _ _ e, upd_ne _ _ _ _ e]; exact ownsRow_past (h.1 n (by omega)) k
  · by_cases e : n = K
    · subst e
      rw [upd_same] at hq
      rw [upd_ne _ _ _ _ (fun e2 => hne e2.symm)]
      intro e3
      have h1 := ((h.1 m (by omega)).lt q e3).2
      have h2 := (ho.lt q hq).1
      omega
    · rw [upd_ne _ _ _ _ e] at hq
      by_cases e2 : m = K
      · subst e2; rw [upd_same]
        intro e3
        have h1 := ((h.1 n (by omega)).lt q hq).2
        have h2 := (ho.lt q e3).1
        omega
      · rw [upd_ne _ _ _ _ e2]; exact h.2 n m (by omega) (by omega) hne q hq
theorem Rw.none (B : Nat) (V : Nat → Value) (N : Nat → Nat) (l : Nat → List Value) (W : World) : Rw B 0 V N l W := ⟨fun n hn => absurd hn (by omega), fun n m hn => absurd hn (by omega)⟩
def cv (n : Nat) : Value := .int .i64 (-1000000 - (n : Int))
/-- the lists' own cells hold their marks -/
def PF (gs N0 : Nat → Nat) (W : World) : Prop := ∀ n, n < 3 → ∀ j, j < N0 n → W.cell? ⟨gs n, j, Option.none⟩ = some (cv n)
theorem PF.past {gs N0 : Nat → Nat} {W W' : World} (h : PF gs N0 W) (k : Below W.heap.size W W') : PF gs N0 W' := fun n hn j hj =>
  (k.cell (p := ⟨gs n, j, Option.none⟩) (World.block_lt_of_cell? _ _ (h n hn j hj))).trans (h n hn j hj)
/-- no other row lies in a list's block -/
def XB (gs N0 : Nat → Nat) (V : Nat → Value) : Prop := ∀ n, n < 3 → N0 n ≠ 0 → ∀ m, m < 4 → m ≠ n → (V m).ownBlock ≠ some (gs n)
def LS (w : World) (gs N0 : Nat → Nat) (V : Nat → Value) (N : Nat → Nat) (l : Nat → List Value) (W : World) : Prop := Below w.heap.size w W ∧ Rw w.heap.size 4 V N l W ∧ PF gs N0 W ∧ XB gs N0 V
theorem LS.past {w : World} {gs N0 : Nat → Nat} {V : Nat → Value} {N : Nat → Nat} {l : Nat → List Value} {W W' : World} (h : LS w gs N0 V N l W) (k : Below W.heap.size W W') : LS w gs N0 V N l W' :=
  ⟨h.1.trans (k.mono h.1.size), h.2.1.past k, h.2.2.1.past k, h.2.2.2⟩
/-- a mark is put behind a row -/
theorem LS.append {w : World} {gs N0 : Nat → Nat} {V : Nat → Value} {N : Nat → Nat} {l : Nat → List Value} {W W' : World} {o : Obj} {k c : Nat} {v' : Value} (h : LS w gs N0 V N l W) (hk : k < 3) (hl : l k = List.replicate (N0 k + c) (cv k)) (hN : N k = N0 k + c)
    (ho : W'.ownsRow w.heap.size 3 1 v' (N k + 1) (l k ++ [cv k])) (hG : Grew (W.alloc o) W' (V k) v' (N k + 1)) : LS w gs N0 (upd V k v') (upd N k (N0 k + (c + 1))) (upd l k (List.replicate (N0 k + (c + 1)) (cv k))) W' := by
  have h' := h.past ((Below.refl _ _).alloc (Nat.le_refl _) o)
  generalize W.alloc o = U at h' hG
  have hl' : l k ++ [cv k] = List.replicate (N0 k + (c + 1)) (cv k) := by rw [hl, ← List.replicate_succ', Nat.add_assoc]
  have hn' : N k + 1 = N0 k + (c + 1) := by omega
  rw [hl', hn'] at ho
  have hg : U.grownBy W' (V k).ownBlock := by
    rcases hG with ⟨h1, _⟩ | ⟨h1, _⟩
    · exact h1
    · exact grown_any h1 _
  have hb : v'.ownBlock = (V k).ownBlock ∨ ∀ q, v'.ownBlock = some q → U.heap.size ≤ q := by
    rcases hG with ⟨_, h2, _⟩ | ⟨_, c', h2⟩
    · exact Or.inl h2
    · right; intro q hq; rw [h2] at hq; simp only [Value.ownBlock, Option.some.injEq] at hq; omega
  have hrow := h'.2.1.1 k (by omega)
  refine ⟨Below.grown h'.1 hg h'.1.size (fun q hq => (hrow.lt q hq).1), h'.2.1.put (by omega) hg ho hb, fun n hn j hj => ?_, fun n hn hne m hm hmn => ?_⟩
  · by_cases e : (V k).ownBlock = some (gs n)
    · by_cases hnk : n = k
      · subst hnk
        rcases hG with ⟨_, h2, _⟩ | ⟨h1, _⟩
        · obtain ⟨_, ⟨h0, _⟩ | ⟨g, cap, cur, hv, _⟩⟩ := id ho
          · rw [h0, e] at h2; simp [Value.ownBlock] at h2
          · rw [hv, e] at h2
            simp only [Value.ownBlock, Option.some.injEq] at h2
            subst h2
            rw [hv] at ho
            rw [ho.cellAt j (by omega)]
            simp [List.getElem?_replicate]
            omega
        · exact h1.cell (h'.2.2.1 n hn j hj) (by simp)
      · exact absurd e (h'.2.2.2 n hn (by omega) k (by omega) (fun e2 => hnk e2.symm))
    · exact hg.cell (h'.2.2.1 n hn j hj) (fun e2 => e e2.symm)
  · by_cases e : m = k
    · subst e; rw [upd_same]
      intro e2
      rcases hb with hb | hb
      · exact h'.2.2.2 n hn hne m hm hmn (by rw [← hb]; exact e2)
      · have h1 := World.block_lt_of_cell? _ _ (h'.2.2.1 n hn 0 (by omega))
        have h2 := hb _ e2
        have h3 : gs n < U.heap.size := h1
        omega
    · rw [upd_ne _ _ _ _ e]; exact h'.2.2.2 n hn hne m hm hmn
end Go.Proofs.YtbhldmfnhlifpaaDoor
