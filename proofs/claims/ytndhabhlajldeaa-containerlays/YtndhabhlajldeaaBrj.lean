/- The document's containers: Size, what is told of what is refused. -/
import Derived.Test.YtndhabhlajldeaaBrf
import Derived.Test.YtndhabhlajldeaaBkx
namespace Go.Proofs.Ytndhabhlajldeaa
open Go.RowKit
theorem results_cc {fn : Func} {p q : Tmp} {ty tz : TypeId} (h : fn.results = #[.cell p ty, .cell q tz]) (tmps : Array Value) (P : Program) (w : World) (a b : Addr) (ha : tmps.getD p undef = .pointer (some a)) (hb : tmps.getD q undef = .pointer (some b)) {v u : Value} (hl : (loadVar ty a).run P w = .ok v w) (hm : (loadVar tz b).run P w = .ok u w) : (results fn tmps).run P w = .ok (.tuple #[v, u]) w := by
  have ha' : tmps[p]?.getD undef = .pointer (some a) := by simpa using ha
  have hb' : tmps[q]?.getD undef = .pointer (some b) := by simpa using hb
  simp only [results, h]
  simp [ha', hb', hl, hm, asAddr]
set_option maxHeartbeats 4000000 in
set_option maxRecDepth 100000 in
theorem rsize_is {P : Nat → Prop} (w : World) (v : Value) (c : Con) (h : CW P w v c) (hsm : Small c) : Calls Try.prog 39 #[v] w fun e w' => e = .returned (.tuple #[.int .i64 ((serR c).length : Int), .int .i64 (chk c)]) ∧ Below w.heap.size w w' := by
  obtain ⟨tv, cv, sv, dv, rfl, hT, hC, hS, hD⟩ := id h
  obtain ⟨ta, tc, rfl, _⟩ := hT.len
  obtain ⟨ca, cc, rfl, _⟩ := hC.len
  obtain ⟨sa, sc, rfl, _⟩ := hS.len
  obtain ⟨da, dc, rfl, _⟩ := hD.len
  have CK : Hid (∀ W, Below w.heap.size w W → Calls Try.prog 36 #[.agg #[.slice ta c.ts.length tc, .slice ca c.cs.length cc, .slice sa c.ss.length sc, .slice da c.d.length dc, .int .i64 c.n]] W fun e w' => ∃ v', e = .returned (.tuple #[v', .int .i64 (chk c)]) ∧ w'.ownsRow W.heap.size 5 1 v' (serR c).length (bV (serR c)) ∧ Below W.heap.size W w') := fun W hW => rserialize_is W _ c (h.past hW) hsm
  have B0 : Hid (Below w.heap.size w (w.alloc (.cells #[.slice ta c.ts.length tc, .slice ca c.cs.length cc, .slice sa c.ss.length sc, .slice da c.d.length dc, .int .i64 c.n] 28)) ∧ CBox (w.alloc (.cells #[.slice ta c.ts.length tc, .slice ca c.cs.length cc, .slice sa c.ss.length sc, .slice da c.d.length dc, .int .i64 c.n] 28)) w.heap.size 28 [.slice ta c.ts.length tc, .slice ca c.cs.length cc, .slice sa c.ss.length sc, .slice da c.d.length dc, .int .i64 c.n]) := ⟨below_alloc _ _, CBox.new _ _ [_, _, _, _, _]⟩
  clear h hT hC hS hD
  generalize chk c = r at *
  generalize serR c = sr at *
  generalize c.ts.length = nt at *
  generalize c.cs.length = nc at *
  generalize c.ss.length = ns at *
  generalize c.d.length = nd at *
  generalize c.n = z at *
  generalize hbx : w.heap.size = bx at *
  have GE : Hid (bx ≤ w.heap.size) := by unfold Hid; omega
  go_enter Try.func39, Try.ntmps39
  go_upto_region 1 with fail
  generalize w.alloc _ = W0 at B0 ⊢
  have c0 : W0.cell? ⟨bx, 0, none⟩ = some (.slice ta nt tc) := B0.out.2.cell 0
  have c1 : W0.cell? ⟨bx, 1, none⟩ = some (.slice ca nc cc) := B0.out.2.cell 1
  have c2 : W0.cell? ⟨bx, 2, none⟩ = some (.slice sa ns sc) := B0.out.2.cell 2
  have c3 : W0.cell? ⟨bx, 3, none⟩ = some (.slice da nd dc) := B0.out.2.cell 3
  have c4 : W0.cell? ⟨bx, 4, none⟩ = some (.int .i64 z) := B0.out.2.cell 4
  clear hbx
  go_upto_region 2 with (go_at_call 36; refine (CK.out _ B0.out.1).mono ?_; rintro e w1 ⟨v', rfl, hO, hB⟩; obtain ⟨ad, cap, rfl⟩ := owns_sl hO)
  clear hO c0 c1 c2 c3 c4
  go_wp2
  go_ret2
  exact ⟨rfl, B0.out.1.trans (hB.mono (Nat.le_trans GE.out B0.out.1.size))⟩
set_option maxHeartbeats 4000000 in
set_option maxRecDepth 100000 in
theorem refused_is (w : World) (x y : Int) : Calls Try.prog 69 #[.int .i64 x, .int .i64 y] w fun e w' => e = .returned (.tuple #[.agg #[.slice none 0 0, .slice none 0 0, .slice none 0 0, .slice none 0 0, .int .i64 0], .agg #[.int .i64 x, .slice none 0 0, .int .i64 0, .int .i64 y]]) ∧ Below w.heap.size w w' := by
  go_enter Try.func69, Try.ntmps69
  go_wp2
  have B1 : Below w.heap.size w (w.alloc (.cells #[.slice none 0 0, .slice none 0 0, .slice none 0 0, .slice none 0 0, .int .i64 0] 28)) := below_alloc _ _
  have C1 : CBox (w.alloc (.cells #[.slice none 0 0, .slice none 0 0, .slice none 0 0, .slice none 0 0, .int .i64 0] 28)) w.heap.size 28 [.slice none 0 0, .slice none 0 0, .slice none 0 0, .slice none 0 0, .int .i64 0] := CBox.new _ _ _
  have hs : (w.alloc (.cells #[.slice none 0 0, .slice none 0 0, .slice none 0 0, .slice none 0 0, .int .i64 0] 28)).heap.size = w.heap.size + 1 := by simp
  generalize w.alloc _ = W1 at B1 C1 hs ⊢
  have B2 : Below W1.heap.size W1 (W1.alloc (.cells #[.int .i64 x, .slice none 0 0, .int .i64 0, .int .i64 y] 47)) := below_alloc _ _
  have C2 : CBox (W1.alloc (.cells #[.int .i64 x, .slice none 0 0, .int .i64 0, .int .i64 y] 47)) W1.heap.size 47 [.int .i64 x, .slice none 0 0, .int .i64 0, .int .i64 y] := CBox.new _ _ _
  have C1' := C1.past B2
  generalize W1.alloc _ = W2 at B2 C2 C1' ⊢
  rw [hs] at C2
  refine bodyPost_ret (v := .tuple #[.agg #[.slice none 0 0, .slice none 0 0, .slice none 0 0, .slice none 0 0, .int .i64 0], .agg #[.int .i64 x, .slice none 0 0, .int .i64 0, .int .i64 y]]) (results_cc (p := 4) (q := 5) (ty := 28) (tz := 47) Try.results69 _ _ _ ⟨w.heap.size, 0, none⟩ ⟨w.heap.size + 1, 0, none⟩ rfl rfl (run_loadVar_mid W2 _ 0 28 [.slice none 0 0, .slice none 0 0, .slice none 0 0, .slice none 0 0, .int .i64 0] _ C1'.range Try.underlying28 rfl (by kernel_rfl)) (run_loadVar_mid W2 _ 0 47 [.int .i64 x, .slice none 0 0, .int .i64 0, .int .i64 y] _ C2.range Try.underlying47 rfl (by kernel_rfl))) rfl ?_
  exact ⟨rfl, B1.trans (B2.mono B1.size)⟩
end Go.Proofs.Ytndhabhlajldeaa
