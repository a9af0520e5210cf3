/- One memory, a row of the law's own beside it, and a step's box: what MachKeeps keeps. -/
import Derived.Test.YtlemnjhdnciddaaGqz
import Derived.Test.YtlemnjhdnciddaaGqa
import Derived.Test.YtlemnjhdnciddaaAps
import Derived.Test.YtlemnjhdnciddaaUm2
import Derived.Test.YtlemnjhdnciddaaUl
namespace Go.Proofs.Ytlemnjhdnciddaa
open Go.RowKit
/-- between two rounds: the memory and the law's own row hold the same bytes -/
structure KR (w W : World) (b n : Nat) (u : Nat → Nat) (oa : Option Addr) (oc : Nat) : Prop where
  ex : ∃ B x cx, Mem W b B x n cx u ∧ ∀ q, OwnB b x q → w.heap.size ≤ q ∧ ∀ a, oa = some a → q ≠ a.block
  own : W.ownsRow w.heap.size 5 1 (.slice oa n oc) n (bD u n)
  bel : Below w.heap.size w W
  u8 : ∀ i, u i < 256
  m32 : n % 32 = 0
/-- within a round -/
structure KS (w W : World) (ob b n : Nat) (u : Nat → Nat) (oa : Option Addr) (k oc : Nat) (f : Nat → Nat) (o : OpR) : Prop where
  ex : ∃ B x cx, Mem W b B x n cx u ∧ ∀ q, OwnB b x q → w.heap.size ≤ q ∧ q ≠ ob ∧ ∀ a, oa = some a → q ≠ a.block
  own : W.ownsRow w.heap.size 5 1 (.slice oa k oc) k (bD f k)
  nob : ∀ a, oa = some a → a.block ≠ ob
  op : OpAt W ob 0 o
  bel : Below w.heap.size w W
  lob : w.heap.size ≤ ob
  u8 : ∀ i, u i < 256
theorem own_but {S : Nat → Prop} {W W' : World} {B k oc : Nat} {oa : Option Addr} {xs : List Value} (h : W.ownsRow B 5 1 (.slice oa k oc) k xs) (kb : But S W W') (hs : ∀ a, oa = some a → ¬ S a.block) : W'.ownsRow B 5 1 (.slice oa k oc) k xs := by
  obtain ⟨hl, ⟨e1, e2⟩ | ⟨g, cp, cur, e, hbg, hg, hnc, hcm, hcs, ht⟩⟩ := h
  · exact ⟨hl, Or.inl ⟨e1, e2⟩⟩
  · have e0 := e
    injection e0 with e1 _ _
    have hgl : g < W.heap.size := (Array.getElem?_eq_some_iff.1 hg).1
    exact ⟨hl, Or.inr ⟨g, cp, cur, e, hbg, (kb.block g hgl (hs _ e1)).trans hg, hnc, hcm, hcs, ht⟩⟩
theorem OpAt.but {S : Nat → Prop} {W W' : World} {g a : Nat} {o : OpR} (h : OpAt W g a o) (k : But S W W') (hs : ¬ S g) : OpAt W' g a o := fun j x hx => (k.cell (p := ⟨g, a + j, none⟩) (World.block_lt_of_cell? W _ (h j x hx)) hs).trans (h j x hx)
theorem KS.lt {w W : World} {ob b n : Nat} {u : Nat → Nat} {oa : Option Addr} {k oc : Nat} {f : Nat → Nat} {o : OpR} (h : KS w W ob b n u oa k oc f o) : ob < W.heap.size := World.block_lt_of_cell? W _ (h.op 0 _ rfl)
theorem KS.past {w W W' : World} {ob b n : Nat} {u : Nat → Nat} {oa : Option Addr} {k oc : Nat} {f : Nat → Nat} {o : OpR} (h : KS w W ob b n u oa k oc f o) (kb : Below W.heap.size W W') : KS w W' ob b n u oa k oc f o := by
  obtain ⟨B, x, cx, h1, h2⟩ := h.ex
  exact ⟨⟨B, x, cx, h1.past kb, h2⟩, own_but h.own (below_but (S := fun _ => False) kb) (fun _ _ => id), h.nob, h.op.but (below_but (S := fun _ => False) kb) id, h.bel.trans (kb.mono h.bel.size), h.lob, h.u8⟩
theorem KS.drew {w W : World} {ob b n : Nat} {u : Nat → Nat} {oa : Option Addr} {k oc : Nat} {f : Nat → Nat} {o : OpR} (h : KS w W ob b n u oa k oc f o) : KS w W.drew ob b n u oa k oc f o := h.past ((Below.refl _ _).drew)
theorem KS.callM {w W : World} {ob b n : Nat} {u : Nat → Nat} {oa : Option Addr} {k oc : Nat} {f : Nat → Nat} {o : OpR} (h : KS w W ob b n u oa k oc f o) : ∃ B x cx, Mem W b B x n cx u ∧ (∀ q, OwnB b x q → w.heap.size ≤ q ∧ q ≠ ob ∧ ∀ a, oa = some a → q ≠ a.block) ∧ ∀ W' x' cx' n' u', Mem W' b B x' n' cx' u' → Off b x W W' → NewR W x x' → (∀ i, u' i < 256) → KS w W' ob b n' u' oa k oc f o := by
  obtain ⟨B, x, cx, h1, h2⟩ := h.ex
  refine ⟨B, x, cx, h1, h2, fun W' x' cx' n' u' k1 k2 k3 k4 => ⟨⟨B, x', cx', k1, fun q hq => ?_⟩, own_but h.own k2.but (fun a e e2 => (h2 _ e2).2.2 a e rfl), h.nob, h.op.but k2.but (fun e => (h2 _ e).2.1 rfl), h.bel.trans (k2.but.below (fun q hq => (h2 q hq).1) h.bel.size), h.lob, k4⟩⟩
  rcases k3.grown q hq with e | e
  · exact h2 q e
  · refine ⟨Nat.le_trans h.bel.size e, by have := h.lt; omega, fun a ea => ?_⟩
    have : a.block < W.heap.size := by subst ea; exact (h.own.lt a.block rfl).2
    omega
theorem KS.growM {w W : World} {ob b n : Nat} {u : Nat → Nat} {oa : Option Addr} {k oc : Nat} {f : Nat → Nat} {o : OpR} (h : KS w W ob b n u oa k oc f o) (i : Int) : Calls Try.prog 20 #[.pointer (some ⟨b, 0, none⟩), .int .i64 i] W fun e w' => e = .returned (.int .i64 (grE i)) ∧ KS w w' ob b (grN n i) (grU u n) oa k oc f o := by
  obtain ⟨B, x, cx, hM, _, kk⟩ := h.callM
  refine (grow_is W b B x n cx u hM i).mono ?_
  rintro e w' ⟨rfl, x', cx', a1, a2, a3⟩
  exact ⟨rfl, kk _ _ _ _ _ a1 a2 a3 (grU_lt h.u8 n)⟩
theorem KS.storeM {w W Z : World} {ob b n : Nat} {u : Nat → Nat} {oa : Option Addr} {k oc : Nat} {f : Nat → Nat} {o : OpR} (hz : KS w Z ob b n u oa k oc f o) (kz : Below Z.heap.size Z W) (i : Int) (hi : i ≤ 9223372036854775807) (z : W4) (hw : IsW (V z.a z.b z.c z.d) z.a z.b z.c z.d) : Calls Try.prog 22 #[.pointer (some ⟨b, 0, none⟩), .int .i64 i, z.v] W fun e w' => e = .returned (.int .i64 (lk n i 32)) ∧ KS w w' ob b n (if lk n i 32 = 0 then ins u i.toNat (bN z) 32 else u) oa k oc f o ∧ ∃ S, But S W w' ∧ ∀ q, S q → q < Z.heap.size := by
  obtain ⟨B, x, cx, hM, _, kk⟩ := hz.callM
  refine (store_is W b B x n cx u (hM.past kz) i hi z hw).mono ?_
  rintro e w' ⟨rfl, a1, a2⟩
  exact ⟨rfl, kk _ _ _ _ _ a1 (Off.past kz a2) (Or.inl rfl) (ite_lt (ins_lt hz.u8 (bN_lt z) _ _) hz.u8), OwnB b x, a2.but, fun q hq => hM.own_lt q hq⟩
theorem KS.store8M {w W : World} {ob b n : Nat} {u : Nat → Nat} {oa : Option Addr} {k oc : Nat} {f : Nat → Nat} {o : OpR} (h : KS w W ob b n u oa k oc f o) (i : Int) (hi : i ≤ 9223372036854775807) (z : Nat) (hz : z < 256) : Calls Try.prog 23 #[.pointer (some ⟨b, 0, none⟩), .int .i64 i, .int .u8 (z : Int)] W fun e w' => e = .returned (.int .i64 (lk n i 1)) ∧ KS w w' ob b n (if lk n i 1 = 0 then ins u i.toNat (fun _ => z) 1 else u) oa k oc f o := by
  obtain ⟨B, x, cx, hM, _, kk⟩ := h.callM
  refine (store8_is W b B x n cx u hM i hi z).mono ?_
  rintro e w' ⟨rfl, a1, a2⟩
  exact ⟨rfl, kk _ _ _ _ _ a1 a2 (Or.inl rfl) (ite_lt (ins_lt h.u8 (fun _ => hz) _ _) h.u8)⟩
theorem KS.writeM {w W : World} {ob b n : Nat} {u : Nat → Nat} {oa : Option Addr} {k oc : Nat} {f : Nat → Nat} {o : OpR} (h : KS w W ob b n u oa k oc f o) (i : Int) (hi : i ≤ 9223372036854775807) (vb : Value) (m : Nat) (t : Nat → Nat) (hb : By W vb m t) (ht : ∀ j, t j < 256) : Calls Try.prog 24 #[.pointer (some ⟨b, 0, none⟩), .int .i64 i, vb] W fun e w' => e = .returned (.int .i64 (lk n i m)) ∧ KS w w' ob b n (if lk n i m = 0 then ins u i.toNat t m else u) oa k oc f o := by
  obtain ⟨B, x, cx, hM, _, kk⟩ := h.callM
  refine (write_is W b B x n cx u hM i hi vb m t hb).mono ?_
  rintro e w' ⟨rfl, a1, a2⟩
  exact ⟨rfl, kk _ _ _ _ _ a1 a2 (Or.inl rfl) (ite_lt (ins_lt h.u8 ht _ _) h.u8)⟩
/-- Move, and what was read ahead of it stays -/
theorem KS.moveM {w W Z : World} {ob b n : Nat} {u : Nat → Nat} {oa : Option Addr} {k oc : Nat} {f : Nat → Nat} {o : OpR} (hz : KS w Z ob b n u oa k oc f o) (kz : Below Z.heap.size Z W) (i j m : Int) (hi : i ≤ 9223372036854775807) (hj : j ≤ 9223372036854775807) (hm : m ≤ 9223372036854775807) : Calls Try.prog 26 #[.pointer (some ⟨b, 0, none⟩), .int .i64 i, .int .i64 j, .int .i64 m] W fun e w' => e = .returned (.int .i64 (mvE n i j m)) ∧ KS w w' ob b n (if mvE n i j m = 0 then ins u i.toNat (fun l => u (j.toNat + l)) m.toNat else u) oa k oc f o ∧ ∃ S, But S W w' ∧ ∀ q, S q → q < Z.heap.size := by
  obtain ⟨B, x, cx, hM, h2, kk⟩ := hz.callM
  refine (move_is W b B x n cx u (hM.past kz) i j m hi hj hm).mono ?_
  rintro e w' ⟨rfl, a1, a2⟩
  have h := hz.past kz
  refine ⟨rfl, kk _ _ _ _ _ a1 (Off.past kz a2) (Or.inl rfl) (ite_lt (ins_lt h.u8 (fun l => h.u8 _) _ _) h.u8), OwnB b x, a2.but, fun q hq => hM.own_lt q hq⟩
theorem KS.lenM {w W : World} {ob b n : Nat} {u : Nat → Nat} {oa : Option Addr} {k oc : Nat} {f : Nat → Nat} {o : OpR} (h : KS w W ob b n u oa k oc f o) : Calls Try.prog 12 #[.pointer (some ⟨b, 0, none⟩)] W fun e w' => e = .returned (.int .i64 (n : Int)) ∧ w' = W := by
  obtain ⟨B, x, cx, hM, _⟩ := h.callM
  exact len_is W b B x n cx u hM
theorem KS.readM {w W : World} {ob b n : Nat} {u : Nat → Nat} {oa : Option Addr} {k oc : Nat} {f : Nat → Nat} {o : OpR} (h : KS w W ob b n u oa k oc f o) (i j : Int) (hi : i ≤ 9223372036854775807) (hj : j ≤ 9223372036854775807) : Calls Try.prog 25 #[.pointer (some ⟨b, 0, none⟩), .int .i64 i, .int .i64 j] W fun e w' => ∃ vR, e = .returned (.tuple #[vR, .int .i64 (lk n i j)]) ∧ By w' vR (if lk n i j = 0 then j.toNat else 0) (fun l => u (i.toNat + l)) ∧ (∀ q, 0 < (if lk n i j = 0 then j.toNat else 0) → vR.ownBlock = some q → W.heap.size ≤ q) ∧ Below W.heap.size W w' := by
  obtain ⟨B, x, cx, hM, _⟩ := h.callM
  refine (read_is W b B x n cx u hM i j hi hj).mono ?_
  rintro e w' ⟨vR, rfl, hr, hB⟩
  have hle : (if lk n i j = 0 then j.toNat else 0) ≤ 4194304 := by
    split
    · rename_i h0
      have := lk_zero h0
      have := hM.le
      omega
    · omega
  obtain ⟨g, h1, h2, h3⟩ := hr.ran hle
  refine ⟨vR, rfl, h3, fun q _ hq => ?_, hB⟩
  rcases h2 with ⟨_, rfl⟩ | ⟨_, rfl, _⟩
  · cases hq
  · obtain rfl := Option.some.inj hq; exact h1
/-- a byte of the own row is laid down -/
theorem KS.setO {w W : World} {ob b n g : Nat} {u : Nat → Nat} {k oc : Nat} {f : Nat → Nat} {o : OpR} (h : KS w W ob b n u (some ⟨g, 0, none⟩) k oc f o) (i z : Nat) (hi : i < k) : KS w (W.setCell ⟨g, i, none⟩ (.int .u8 (z : Int))) ob b n u (some ⟨g, 0, none⟩) k oc (fun j => if j = i then z else f j) o ∧ But (fun q => q = g) W (W.setCell ⟨g, i, none⟩ (.int .u8 (z : Int))) := by
  obtain ⟨B, x, cx, h1, h2⟩ := h.ex
  have kb : But (fun q => q = g) W (W.setCell ⟨g, i, none⟩ (.int .u8 (z : Int))) := ⟨rfl, rfl, rfl, by simp [World.setCell], fun q _ hq => Below.heap_setCell _ _ _ _ hq⟩
  have hg := (h.own.lt g rfl).1
  have h9 := (h.own.stored i (.int .u8 (z : Int))).1
  rw [bD_set _ _ _ _ hi] at h9
  exact ⟨⟨⟨B, x, cx, h1.but kb (fun q hq e => (h2 q hq).2.2 _ rfl e), h2⟩, h9, h.nob, h.op.but kb (fun e => h.nob _ rfl e.symm), h.bel.trans (kb.below (fun q hq => by rw [hq]; exact hg) h.bel.size), h.lob, h.u8⟩, kb⟩
theorem KS.cells {w W : World} {ob b n : Nat} {u : Nat → Nat} {oa : Option Addr} {k oc : Nat} {f : Nat → Nat} {o : OpR} (h : KS w W ob b n u oa k oc f o) (hk : 0 < k) : ∃ g, oa = some ⟨g, 0, none⟩ ∧ k ≤ oc ∧ ∀ i, i < k → W.cell? ⟨g, i, none⟩ = some (.int .u8 (f i : Int)) ∧ W.frozen? ⟨g, i, none⟩ = false := by
  obtain ⟨g, c, e, _, hc⟩ := owns_slice hk h.own
  injection e with e1 e2 e3
  subst e1
  subst e3
  exact ⟨g, rfl, hc, fun i hi => ⟨by rw [h.own.cellAt i (by omega), bD_at f k i hi], h.own.frozenAt i⟩⟩
theorem KS.by {w W : World} {ob b n : Nat} {u : Nat → Nat} {oa : Option Addr} {k oc : Nat} {f : Nat → Nat} {o : OpR} (h : KS w W ob b n u oa k oc f o) (hk : k ≤ 4194304) : By W (.slice oa k oc) k f := By.own h.own (by omega)
/-- a round's end -/
theorem KS.lto {w W : World} {ob b n : Nat} {u : Nat → Nat} {oa : Option Addr} {k oc : Nat} {f : Nat → Nat} {o : OpR} (h : KS w W ob b n u oa k oc f o) (a : Addr) (e : oa = some a) : a.block < W.heap.size := by subst e; exact (h.own.lt a.block rfl).2
theorem KS.low {w W : World} {ob b n : Nat} {u : Nat → Nat} {oa : Option Addr} {k oc : Nat} {f : Nat → Nat} {o : OpR} (h : KS w W ob b n u oa k oc f o) (a : Addr) (e : oa = some a) : w.heap.size ≤ a.block := by subst e; exact (h.own.lt a.block rfl).1
theorem KS.kr {w W : World} {ob b n : Nat} {u : Nat → Nat} {oa : Option Addr} {oc : Nat} {f : Nat → Nat} {o : OpR} (h : KS w W ob b n u oa n oc f o) (e : ∀ i, i < n → f i = u i) (m : n % 32 = 0) : KR w W b n u oa oc := by
  obtain ⟨B, x, cx, h1, h2⟩ := h.ex
  exact ⟨⟨B, x, cx, h1, fun q hq => ⟨(h2 q hq).1, (h2 q hq).2.2⟩⟩, by rw [← bD_ext e]; exact h.own, h.bel, h.u8, m⟩
theorem KR.past {w W W' : World} {b n : Nat} {u : Nat → Nat} {oa : Option Addr} {oc : Nat} (h : KR w W b n u oa oc) (kb : Below W.heap.size W W') : KR w W' b n u oa oc := by
  obtain ⟨B, x, cx, h1, h2⟩ := h.ex
  exact ⟨⟨B, x, cx, h1.past kb, h2⟩, own_but h.own (below_but (S := fun _ => False) kb) (fun _ _ => id), h.bel.trans (kb.mono h.bel.size), h.u8, h.m32⟩
/-- a round's beginning: the step is laid into a box -/
theorem KR.ks {w W : World} {b n : Nat} {u : Nat → Nat} {oa : Option Addr} {oc : Nat} (h : KR w W b n u oa oc) (o : OpR) : KS w (W.alloc (.cells o.l.toArray 33)) W.heap.size b n u oa n oc u o := by
  obtain ⟨B, x, cx, h1, h2⟩ := h.ex
  have kb : Below W.heap.size W (W.alloc (.cells o.l.toArray 33)) := (Below.refl _ _).alloc (Nat.le_refl _) _
  have h' := h.past kb
  refine ⟨⟨B, x, cx, h1.past kb, fun q hq => ⟨(h2 q hq).1, by have := h1.own_lt q hq; omega, (h2 q hq).2⟩⟩, h'.own, fun a e => ?_, fun j y hy => ?_, h'.bel, h.bel.size, h.u8⟩
  · have : a.block < W.heap.size := by subst e; exact (h.own.lt a.block rfl).2
    omega
  · rw [Nat.zero_add, World.cell?_alloc_at _ _ _ _ rfl]
    simpa using hy
/-- own = append(own, 0) -/
theorem append_zero {w W : World} {ob b n : Nat} {u : Nat → Nat} {oa : Option Addr} {k oc : Nat} {f : Nat → Nat} {o : OpR} (hk : KS w W ob b n u oa k oc f o) (h0 : f k = 0) (hl : k + 1 ≤ 1000000000) {ops : Array Oper} {rest : List Oper} {op : Oper} {a : Act} {Q : Exit → Act → World → Prop} (hgd : op.guard = none) (s x : Operand)
    (ho : op.op = .call { callee := .builtin .append, args := #[s, x], argTypes := #[31, 31] }) (hs : a.eval s = .slice oa k oc) (hx : a.eval x = .slice (some ⟨W.heap.size, 0, none⟩) 1 1)
    (h : ∀ oa' oc' w', KS w w' ob b n u oa' (k + 1) oc' f o → wpList Try.prog ops Q rest (a.put op.dst (.slice oa' (k + 1) oc')) w') : wpList Try.prog ops Q (op :: rest) a (W.alloc (.cells #[.int .u8 0] 5)) := by
  obtain ⟨i0, hi, hz0, hz1, hz2⟩ := info_partsB Try.info8
  have kb : Below W.heap.size W (W.alloc (.cells #[.int .u8 0] 5)) := (Below.refl _ _).alloc (Nat.le_refl _) _
  have hk1 := hk.past kb
  refine wpList_append_strong hgd s x 31 ho w.heap.size 5 i0 (.int .u8 0) 1 1 Try.underlying31 hi hz0 hz1 hz2 rfl (by decide) (.slice oa k oc) k (bD f k) hs hk1.own ⟨W.heap.size, 0, none⟩ 1 1 [.int .u8 0] hx rfl (fun j y hj => by
    have : j = 0 := by have := (List.getElem?_eq_some_iff.1 hj).1; simpa using this
    subst this
    simp at hj
    subst hj
    simp [Addr.add]) (fun y hy => by rw [List.mem_singleton.1 hy]; rfl) (by unfold maxLen; omega) (by omega) hk1.bel.size (fun v' w' q1 _ q3 => ?_)
  obtain ⟨oa', oc', rfl⟩ := owns_any q1
  refine h oa' oc' w' ?_
  obtain ⟨B, y, cx, h1, h2⟩ := hk1.ex
  have hown : w'.ownsRow w.heap.size 5 1 (.slice oa' (k + 1) oc') (k + 1) (bD f (k + 1)) := by rw [bD_snoc, h0]; exact q1
  have kbut : But (fun q => ∃ a, oa = some a ∧ q = a.block) (W.alloc (.cells #[.int .u8 0] 5)) w' := by
    rcases q3 with ⟨g1, _, _⟩ | ⟨g1, _⟩
    · refine ⟨g1.os, g1.tape, g1.output, g1.size, fun q hq hn => g1.block q hq (fun e => ?_)⟩
      cases oa with
      | none => simp [Value.ownBlock] at e
      | some a => exact hn ⟨a, rfl, by simpa [Value.ownBlock] using e⟩
    · exact ⟨g1.os, g1.tape, g1.output, g1.size, fun q hq _ => g1.block q hq (by simp)⟩
  have hlow : ∀ q, (∃ a, oa = some a ∧ q = a.block) → w.heap.size ≤ q := fun q ⟨a, e, e2⟩ => by subst e; rw [e2]; exact (hk1.own.lt a.block rfl).1
  have hnew : ∀ a', oa' = some a' → (∃ a, oa = some a ∧ a'.block = a.block) ∨ (W.alloc (.cells #[.int .u8 0] 5)).heap.size ≤ a'.block := fun a' e => by
    rcases q3 with ⟨_, g2, _⟩ | ⟨_, c, g2⟩
    · subst e
      cases oa with
      | none => simp [Value.ownBlock] at g2
      | some a => exact Or.inl ⟨a, rfl, by simpa [Value.ownBlock] using g2⟩
    · injection g2 with g3 _ _
      rw [e] at g3
      obtain rfl := Option.some.inj g3
      exact Or.inr (Nat.le_refl _)
  have hobl := hk1.lt
  refine ⟨⟨B, y, cx, h1.but kbut (fun q hq ⟨a, e, e2⟩ => (h2 q hq).2.2 a e e2), fun q hq => ⟨(h2 q hq).1, (h2 q hq).2.1, fun a' e' e2 => ?_⟩⟩, hown, fun a' e' e2 => ?_, hk1.op.but kbut (fun ⟨a, e, e2⟩ => hk1.nob a e e2.symm), hk1.bel.trans (kbut.below hlow hk1.bel.size), hk1.lob, hk1.u8⟩
  · rcases hnew a' e' with ⟨a, e, e3⟩ | e3
    · exact (h2 q hq).2.2 a e (e2.trans e3)
    · have := h1.own_lt q hq; omega
  · rcases hnew a' e' with ⟨a, e, e3⟩ | e3
    · exact hk1.nob a e (e3.symm.trans e2)
    · omega
theorem ld_int {a : Act} {w : World} {o : Oper} {s : Nat} {b k : Nat} {z : Int} (ho : o.op = .load 3 (.tmp s)) (hx : a.tmps[s]?.getD undef = .pointer (some ⟨b, k, none⟩)) (h : w.cell? ⟨b, k, none⟩ = some (.int .i64 z)) : (execOp a.eval o).run Try.prog w = .ok (.value (.int .i64 z)) w := by
  obtain ⟨d, op, ty, ps, af, gd⟩ := o
  dsimp only at ho
  subst ho
  go_simp
theorem ld_word {a : Act} {w : World} {o : Oper} {s : Nat} {b k : Nat} {z0 z1 z2 z3 : Int} (ho : o.op = .load 30 (.tmp s)) (hx : a.tmps[s]?.getD undef = .pointer (some ⟨b, k, none⟩)) (h0 : w.cell? ⟨b, k, none⟩ = some (.int .u64 z0)) (h1 : w.cell? ⟨b, k + 1, none⟩ = some (.int .u64 z1)) (h2 : w.cell? ⟨b, k + 2, none⟩ = some (.int .u64 z2)) (h3 : w.cell? ⟨b, k + 3, none⟩ = some (.int .u64 z3)) : (execOp a.eval o).run Try.prog w = .ok (.value (.agg #[.int .u64 z0, .int .u64 z1, .int .u64 z2, .int .u64 z3])) w := by
  obtain ⟨d, op, ty, ps, af, gd⟩ := o
  dsimp only at ho
  subst ho
  go_simp
end Go.Proofs.Ytlemnjhdnciddaa
