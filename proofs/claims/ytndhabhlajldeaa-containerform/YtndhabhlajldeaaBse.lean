/- What both Parses answer, in one form; bytes of one's own that are written over. -/
import Derived.Test.YtndhabhlajldeaaBsd
namespace Go.Proofs.Ytndhabhlajldeaa
open Go.RowKit
/-- the container that is told, the refusal that is told -/
def conOf : Except Er Con → Con
  | .ok c => c
  | .error _ => con0
def rjOf : Except Er Con → Int × Int
  | .ok _ => (0, 0)
  | .error (c, a) => (c, a)
theorem prs_fits {b : List Nat} (hb : Byt b) {opn : Bool} {c : Con} (g : prs b opn = .ok c) : c.ts.length ≤ 1024 ∧ c.cs.length ≤ 1024 ∧ c.ss.length ≤ 256 ∧ c.d.length ≤ 65535 ∧ (∀ x ∈ c.cs, x.length ≤ 65535) ∧ ∀ x ∈ c.ss, x.length ≤ 4294967295 := by
  have M := (prs_ok hb g).1
  have h1 := M.z1
  have h2 := M.z2
  exact ⟨by rw [M.nt]; exact M.n2, M.n2, M.ns, by omega, fun x hx => (chkP_ok _ _ M.pc x hx).2, fun x hx => (chkP_ok _ _ M.ps x hx).2⟩
theorem cw_form {P : Nat → Prop} {W : World} {v : Value} {c : Con} (h : CW P W v c) : ∃ ta tc ca cc sa sc da dc, v = .agg #[.slice ta c.ts.length tc, .slice ca c.cs.length cc, .slice sa c.ss.length sc, .slice da c.d.length dc, .int .i64 c.n] := by
  obtain ⟨tv, cv, sv, dv, rfl, h1, h2, h3, h4⟩ := h
  obtain ⟨ta, tc, rfl, _⟩ := h1.len
  obtain ⟨ca, cc, rfl, _⟩ := h2.len
  obtain ⟨sa, sc, rfl, _⟩ := h3.len
  obtain ⟨da, dc, rfl, _⟩ := h4.len
  exact ⟨ta, tc, ca, cc, sa, sc, da, dc, rfl⟩
/-- an answer, in one form -/
def Ans (B : Nat) (c : Con) (x y : Int) (e : Ending) (w' : World) : Prop := ∃ ta tc ca cc sa sc da dc, e = .returned (.tuple #[.agg #[.slice ta c.ts.length tc, .slice ca c.cs.length cc, .slice sa c.ss.length sc, .slice da c.d.length dc, .int .i64 c.n], .agg #[.int .i64 x, .slice none 0 0, .int .i64 0, .int .i64 y]]) ∧ CW (fun g => B ≤ g) w' (.agg #[.slice ta c.ts.length tc, .slice ca c.cs.length cc, .slice sa c.ss.length sc, .slice da c.d.length dc, .int .i64 c.n]) c
theorem PrD.ans {B : Nat} {r : Except Er Con} {e : Ending} {w' : World} (h : PrD B r e w') : Ans B (conOf r) (rjOf r).1 (rjOf r).2 e w' := by
  cases r with
  | ok c =>
    obtain ⟨v, e9, hw⟩ := h
    obtain ⟨ta, tc, ca, cc, sa, sc, da, dc, rfl⟩ := cw_form hw
    exact ⟨ta, tc, ca, cc, sa, sc, da, dc, e9, hw⟩
  | error er =>
    obtain ⟨ec, ea⟩ := er
    exact ⟨none, 0, none, 0, none, 0, none, 0, h, CW.zero _ _⟩
theorem PrA.ans {B : Nat} {b : List Nat} (hb : Byt b) {opn : Bool} {e : Ending} {w' : World} (h : PrA B (prs b opn) e w') : Ans B (conOf (prs b opn)) (rjOf (prs b opn)).1 (rjOf (prs b opn)).2 e w' := by
  refine PrD.ans ?_
  cases hr : prs b opn with
  | ok c =>
    rw [hr] at h
    obtain ⟨v, e9, hco⟩ := h
    obtain ⟨f1, f2, f3, f4, f5, f6⟩ := prs_fits hb hr
    exact ⟨v, e9, hco.cw (by omega) (by omega) (by omega) (by omega) (fun x hx => Nat.le_trans (f5 x hx) (by omega)) (fun x hx => Nat.le_trans (f6 x hx) (by omega))⟩
  | error er =>
    rw [hr] at h
    obtain ⟨ec, ea⟩ := er
    exact h
theorem parse_ans {P : Nat → Prop} (w : World) (v : Value) (b : List Nat) (opn : Bool) (h : BL P w v b) (hb : Byt b) (hl : b.length ≤ 16777216) :
    Calls Try.prog 31 #[v, .bool opn] w fun e w' => Ans w.heap.size (conOf (prs b opn)) (rjOf (prs b opn)).1 (rjOf (prs b opn)).2 e w' ∧ Below w.heap.size w w' :=
  (parse_is w v b opn h hb hl).mono fun _ _ q => ⟨PrA.ans hb q.1, q.2⟩
theorem rparse_ans {P : Nat → Prop} (w : World) (v : Value) (b : List Nat) (opn : Bool) (h : BL P w v b) (hb : Byt b) (hl : b.length ≤ 16777216) :
    Calls Try.prog 33 #[v, .bool opn] w fun e w' => Ans w.heap.size (conOf (prs b opn)) (rjOf (prs b opn)).1 (rjOf (prs b opn)).2 e w' ∧ Below w.heap.size w w' :=
  (rparse_is w v b opn h hb hl).mono fun _ _ q => ⟨q.1.ans, q.2⟩
/-- a beginning of a row in a block -/
theorem BL.head {W : World} {g M : Nat} {l : List Value} {x : List Nat} (h : CBox W g 5 l) (hx : ∀ (i : Nat) (c : Value), (bV x)[i]? = some c → l[i]? = some c) (hM : x.length ≤ M) (hl : x.length ≤ 1152921504606846976) : BL (fun k => k = g) W (.slice (some ⟨g, 0, none⟩) x.length M) x :=
  ⟨by rw [bV_len, Nat.mul_one], _, M, rfl, hM, hl, fun e => (by cases e), fun _ => ⟨g, 0, rfl, rfl, h.lt, fun i c hc => by rw [Nat.zero_add, h.cell]; exact hx i c hc⟩⟩
theorem slice_j (g n cap j : Nat) (hj : j ≤ cap) (W : World) : Sem.run Try.prog (Instr.slice 22 (.slice (some ⟨g, 0, none⟩) n cap) none (some (.int .i64 (j : Int))) none) W = .ok (.slice (some ⟨g, 0, none⟩) j cap) W := by
  simp [Instr.slice, Instr.sliceBounds, run_underlying Try.underlying22, run_sliceBound W .i64 (j : Int) cap _ (by omega) (by omega), Addr.add_mid]
theorem xor8 (x : Nat) : ∃ y : Nat, y < 256 ∧ bits .xor .u8 (x : Int) 3 = (y : Int) := by
  have h : bits .xor .u8 (x : Int) 3 = IntKind.u8.wrap (((BitVec.ofInt 8 (x : Int) ^^^ BitVec.ofInt 8 3).toNat : Nat) : Int) := rfl
  rw [h, IntKind.wrap_u8]
  exact ⟨((((BitVec.ofInt 8 (x : Int) ^^^ BitVec.ofInt 8 3).toNat : Nat) : Int) % 256).toNat, by omega, by omega⟩
end Go.Proofs.Ytndhabhlajldeaa
