/- How arguments read: numbers, bools, bytes. -/
import Derived.Test.YtndhabhlajldeaaRows
import Derived.WalkKit
import Derived.ProofKit
import Derived.OpenShut
import Derived.ChangeOld
import Derived.ChangeSlices
import Derived.Lib.SmallJoins
import Derived.SizedLaws
import Derived.Deep.MidRow
import Derived.Test.YtndhabhlajldeaaBkb
namespace Go.Proofs.Ytndhabhlajldeaa
open Go.ChangeShapes Go.WideShapes Go.ChangeAt Go.RowKit
theorem Try.own : ownKnob Try.prog.godebug = none := by kernel_rfl
theorem Try.laidOut : laidOutB Try.prog = true := by kernel_rfl
set_option maxRecDepth 100000 in
theorem openI {H : Type} {enc : TypeId × Value → H} {W : World} {base b0 : Nat} {r : Reach} {spare : Nat → Bool} {held : Bool} {v : Value} {d : DataW H} {ps : List MemPlace}
    (hv : Value.okWide Try.prog W r b0 3 v) (h : DataW.Trod enc Try.prog W base spare held 3 v d ps) : ∃ n : Int, v = .int .i64 n ∧ -9223372036854775808 ≤ n ∧ n ≤ 9223372036854775807 := by
  obtain ⟨n, rfl⟩ := okWide_int Try.underlying3 hv
  obtain ⟨fuel, hf⟩ := h
  obtain ⟨m, hm, _, hw⟩ := DataW.trod_int Try.underlying3 hf
  simp [Value.cells] at hm
  subst hm
  exact ⟨n, rfl, bounds_i64 hw⟩
set_option maxRecDepth 100000 in
theorem openBo {W : World} {b0 : Nat} {r : Reach} {v : Value} (hv : Value.okWide Try.prog W r b0 4 v) : ∃ o : Bool, v = .bool o := okWide_bool Try.underlying4 hv
theorem c8b : Try.prog.cellsOf 5 = 1 := by kernel_rfl
/-- a row of bytes in memory -/
theorem ints_bl {W : World} {a : Addr} {len cap : Nat} {zs : List Int} (hl : len ≤ cap) (hm : len ≤ 140737488355328) (hcell : ∀ i, i < len → W.cell? (a.add i) = some (.int .u8 (zs.getD i 0))) (h8 : ∀ i, 0 ≤ zs.getD i 0 ∧ zs.getD i 0 < 256) :
    ∃ l : List Nat, BL (fun _ => True) W (.slice (some a) len cap) l ∧ Byt l ∧ l.length ≤ 140737488355328 := by
  refine ⟨(List.range len).map fun i => (zs.getD i 0).toNat, ⟨by rw [bV_len, Nat.mul_one], some a, cap, by simp, by simpa using hl, by simp; omega, fun e => (by cases e), fun hn => ?_⟩, fun x hx => ?_, by simp; omega⟩
  · simp at hn
    obtain ⟨ab, ao, spot⟩ := a
    have hspot : spot = none := by simpa [Addr.add] using World.cell?_spot (hcell 0 (by omega))
    subst hspot
    have h0 := hcell 0 hn
    rw [Addr.add_mid] at h0
    refine ⟨ab, ao, rfl, trivial, World.block_lt_of_cell? W _ h0, fun i c hc => ?_⟩
    obtain ⟨x, hx, rfl⟩ := bV_inv hc
    have hi : i < len := by have := (List.getElem?_eq_some_iff.1 hx).1; simpa using this
    rw [List.getElem?_map, List.getElem?_range hi] at hx
    simp at hx
    have hc := hcell i hi
    rw [Addr.add_mid] at hc
    rw [hc, ← hx]
    have := h8 i
    rw [List.getD_eq_getElem?_getD] at this ⊢
    rw [Int.toNat_of_nonneg this.1]
  · obtain ⟨i, _, rfl⟩ := List.mem_map.1 hx
    have := h8 i
    omega
set_option maxRecDepth 100000 in
theorem openBL {H : Type} {enc : TypeId × Value → H} {W : World} {base b0 : Nat} {r : Reach} {held : Bool} {v : Value} {d : DataW H} {ps : List MemPlace}
    (hv : Value.okWide Try.prog W r b0 22 v) (h : DataW.Trod enc Try.prog W base (fun _ => true) held 22 v d ps) (hs : ∀ k ∈ d.weights Try.prog 22, k ≤ reachBytes) :
    ∃ l : List Nat, BL (fun _ => True) W v l ∧ Byt l ∧ l.length ≤ 140737488355328 := by
  obtain ⟨a1, len, cap, rfl⟩ := okWide_slice Try.underlying22 hv
  obtain ⟨fuel, hf⟩ := h
  have hln : len ≤ 140737488355328 := by
    rcases DataW.trod_slice Try.underlying22 hf with ⟨hcs, hx⟩ | ⟨a, len', cap', elems, rest, n, _, hcs, hx, hb, hl, hm, hlen, hel, _, _⟩
    · simp [Value.cells] at hcs
      obtain ⟨rfl, rfl, rfl⟩ := hcs
      omega
    · simp [Value.cells] at hcs
      obtain ⟨rfl, rfl, rfl⟩ := hcs
      have hd : d = .slice (elems.map (·.1)) (rest.map (·.1)) := congrArg Prod.fst hx
      have hk := hs (elems.length * Try.prog.bytesOf 5 + rest.length * Try.prog.bytesOf 5) (by
        rw [hd]
        simp only [DataW.weights, Try.underlying22, List.mem_cons, List.mem_append]
        left
        simp [Nat.add_mul])
      have hb8 : Try.prog.bytesOf 5 = 1 := by kernel_rfl
      rw [hb8] at hk
      unfold reachBytes at hk
      omega
  rcases open_ints Try.underlying22 Try.underlying5 c8b hf with ⟨hcs, hx⟩ | ⟨a, len', cap', zs, hcs, _, hl, hm, hz, hx, hcell, hwz⟩
  · simp [Value.cells] at hcs
    obtain ⟨rfl, rfl, rfl⟩ := hcs
    exact ⟨[], BL.nil _ _, (fun x hx => by cases hx), by simp⟩
  · simp [Value.cells] at hcs
    obtain ⟨rfl, rfl, rfl⟩ := hcs
    simp only [if_true] at hz
    have h8 : ∀ i, 0 ≤ zs.getD i 0 ∧ zs.getD i 0 < 256 := fun i => by
      have := range_u8 hwz i; rw [← List.getD_eq_getElem?_getD] at this; omega
    exact ints_bl hl hln (fun i hi => hcell i (by omega)) h8
end Go.Proofs.Ytndhabhlajldeaa
/- How an argument that is a container reads. -/
namespace Go.Proofs.Ytndhabhlajldeaa
open Go.ChangeShapes Go.WideShapes Go.ChangeAt Go.RowKit
theorem cCon : Try.prog.cellsOf 28 = 5 := by kernel_rfl
theorem cTy : Try.prog.cellsOf 77 = 3 := by kernel_rfl
theorem cIntC : Try.prog.cellsOf 3 = 1 := by kernel_rfl
theorem cSl8 : Try.prog.cellsOf 22 = 1 := by kernel_rfl
theorem cSlT : Try.prog.cellsOf 25 = 1 := by kernel_rfl
theorem cSlP : Try.prog.cellsOf 26 = 1 := by kernel_rfl
theorem uTyp : ∃ fs : Array Field, Try.prog.underlying 77 = some (.struct fs) ∧ fs.size = 3 ∧ ∃ f0 f1 f2, fs[0]? = some f0 ∧ fs[1]? = some f1 ∧ fs[2]? = some f2 ∧ f0.type = 3 ∧ f0.offset = 0 ∧ f1.type = 3 ∧ f1.offset = 1 ∧ f2.type = 3 ∧ f2.offset = 2 := ⟨_, Try.underlying77, rfl, _, _, _, rfl, rfl, rfl, rfl, rfl, rfl, rfl, rfl, rfl⟩
theorem uCon : ∃ fs : Array Field, Try.prog.underlying 28 = some (.struct fs) ∧ fs.size = 5 ∧ (fs.toList.map (·.type)) = [25, 26, 26, 22, 3] ∧ ∃ f0 f1 f2 f3 f4, fs[0]? = some f0 ∧ fs[1]? = some f1 ∧ fs[2]? = some f2 ∧ fs[3]? = some f3 ∧ fs[4]? = some f4 ∧ f0.type = 25 ∧ f0.offset = 0 ∧ f1.type = 26 ∧ f1.offset = 1 ∧ f2.type = 26 ∧ f2.offset = 2 ∧ f3.type = 22 ∧ f3.offset = 3 ∧ f4.type = 3 ∧ f4.offset = 4 := ⟨_, Try.underlying28, rfl, rfl, _, _, _, _, _, rfl, rfl, rfl, rfl, rfl, rfl, rfl, rfl, rfl, rfl, rfl, rfl, rfl, rfl, rfl⟩
theorem okWide_str {P : Program} {w : World} {r : Reach} {base : Nat} {t : TypeId} {fs : Array Field} {v : Value} (ht : P.underlying t = some (.struct fs)) (h : Value.okWide P w r base t v) : ∃ cs, v = .agg cs ∧ cs.size = P.cellsOf t := by
  simp only [Value.okWide, ht] at h
  obtain ⟨cs, h1, h2, _⟩ := h
  exact ⟨cs, h1, h2⟩
theorem wAll_mem {H : Type} {P : Program} {e : TypeId} : ∀ {l : List (DataW H)} {d : DataW H}, d ∈ l → ∀ n ∈ d.weights P e, n ∈ DataW.weightsAll P e l
  | d' :: r, d, hd, n, hn => by
    simp only [DataW.weightsAll, List.mem_append]
    rcases List.mem_cons.1 hd with rfl | h
    · exact Or.inl hn
    · exact Or.inr (wAll_mem h n hn)
/-- bytes within what is handed in -/
theorem openBE {H : Type} {enc : TypeId × Value → H} {W : World} {base fuel : Nat} {held : Bool} {cs : List Value} {x : DataW H × List MemPlace} (h : DataW.trod enc Try.prog W base (fun _ => true) held fuel 22 cs = some x) (hs : ∀ k ∈ x.1.weights Try.prog 22, k ≤ reachBytes) :
    ∃ v, ∃ l : List Nat, cs = [v] ∧ BL (fun _ => True) W v l ∧ Byt l ∧ l.length ≤ 140737488355328 := by
  have hln : ∀ a len cap, cs = [.slice a len cap] → len ≤ 140737488355328 := by
    intro a0 len0 cap0 e0
    rcases DataW.trod_slice Try.underlying22 h with ⟨hcs, hx⟩ | ⟨a, len', cap', elems, rest, n, _, hcs, hx, hb, hl, hm, hlen, hel, _, _⟩
    · rw [e0] at hcs
      simp at hcs
      omega
    · rw [e0] at hcs
      simp at hcs
      obtain ⟨rfl, rfl, rfl⟩ := hcs
      have hk := hs (elems.length * Try.prog.bytesOf 5 + rest.length * Try.prog.bytesOf 5) (by
        rw [hx]
        simp only [DataW.weights, Try.underlying22, List.mem_cons, List.mem_append]
        left
        simp [Nat.add_mul])
      have hb8 : Try.prog.bytesOf 5 = 1 := by kernel_rfl
      rw [hb8] at hk
      unfold reachBytes at hk
      omega
  rcases open_ints Try.underlying22 Try.underlying5 c8b h with ⟨hcs, hx⟩ | ⟨a, len, cap, zs, hcs, _, hl, hm, hz, hx, hcell, hwz⟩
  · exact ⟨_, [], hcs, BL.nil _ _, (fun x hx => by cases hx), by simp⟩
  · simp only [if_true] at hz
    have h8 : ∀ i, 0 ≤ zs.getD i 0 ∧ zs.getD i 0 < 256 := fun i => by
      have := range_u8 hwz i; rw [← List.getD_eq_getElem?_getD] at this; omega
    obtain ⟨l, h1, h2, h3⟩ := ints_bl hl (hln _ _ _ hcs) (fun i hi => hcell i (by omega)) h8
    exact ⟨_, l, hcs, h1, h2, h3⟩
set_option maxRecDepth 100000 in
/-- pieces within what is handed in -/
theorem openPE {H : Type} {enc : TypeId × Value → H} {W : World} {base fuel : Nat} {held : Bool} {cs : List Value} {x : DataW H × List MemPlace} (h : DataW.trod enc Try.prog W base (fun _ => true) held fuel 26 cs = some x) (hs : ∀ k ∈ x.1.weights Try.prog 26, k ≤ reachBytes) :
    ∃ v, ∃ ll : List (List Nat), cs = [v] ∧ PL (fun _ => True) W v ll ∧ (∀ l ∈ ll, Byt l) := by
  rcases DataW.trod_slice Try.underlying26 h with ⟨hcs, hx⟩ | ⟨a, len, cap, elems, rest, n, _, hcs, hx, hb, hl, hm, hlen, hel, _, _⟩
  · exact ⟨_, [], hcs, PL.nil _ _, fun l hl => by cases hl⟩
  · rw [cSl8] at hel
    have hd : x.1 = .slice (elems.map (·.1)) (rest.map (·.1)) := by rw [hx]
    have hln : len ≤ 140737488355328 := by
      have hk := hs (elems.length * Try.prog.bytesOf 22 + rest.length * Try.prog.bytesOf 22) (by
        rw [hd]
        simp only [DataW.weights, Try.underlying26, List.mem_cons, List.mem_append]
        left
        simp [Nat.add_mul])
      have hb24 : Try.prog.bytesOf 22 = 24 := by kernel_rfl
      rw [hb24] at hk
      unfold reachBytes at hk
      omega
    have get : ∀ i, i < len → ∃ p : Value × List Nat, W.cell? (a.add (i * 1)) = some p.1 ∧ BL (fun _ => True) W p.1 p.2 ∧ Byt p.2 := by
      intro i hi
      have he := hel i hi
      have hil : i < elems.length := by omega
      rw [List.getElem?_eq_getElem hil, Option.bind_eq_some_iff] at he
      obtain ⟨cs2, hc, ht⟩ := he
      obtain ⟨_, hl2, hcell⟩ := World.cells?_some hc
      obtain ⟨v, l, hx1, hB, hY, _⟩ := openBE ht (fun k hk => hs k (by
        rw [hd]
        simp only [DataW.weights, Try.underlying26, List.mem_cons, List.mem_append]
        exact Or.inr (Or.inl (wAll_mem (List.mem_map.2 ⟨elems[i], List.getElem_mem hil, rfl⟩) _ hk))))
      have e0 := hcell 0 (by omega)
      rw [hx1] at e0
      exact ⟨(v, l), by simpa [Addr.add] using e0, hB, hY⟩
    let f : Nat → Value × List Nat := fun i => if h : i < len then (get i h).choose else (.bool false, [])
    have hf2 : ∀ i, i < len → W.cell? (a.add (i * 1)) = some (f i).1 ∧ BL (fun _ => True) W (f i).1 (f i).2 ∧ Byt (f i).2 := by
      intro i hi
      have := (get i hi).choose_spec
      rw [show f i = (get i hi).choose from dif_pos hi]
      exact this
    refine ⟨_, (List.range len).map (fun i => (f i).2), hcs, ⟨(List.range len).map (fun i => (f i).1), ⟨by simp, some a, cap, by simp, by simpa using hl, by simp; omega, fun e => (by cases e), fun hn => ?_⟩, fun i l hi => ?_⟩, fun l hl => ?_⟩
    · simp at hn
      obtain ⟨ab, ao, spot⟩ := a
      have hspot : spot = none := by simpa [Addr.add] using World.cell?_spot (hf2 0 hn).1
      subst hspot
      have h0 := (hf2 0 hn).1
      rw [Addr.add_mid] at h0
      refine ⟨ab, ao, rfl, trivial, World.block_lt_of_cell? W _ h0, fun i c hc => ?_⟩
      have hi : i < len := by have := (List.getElem?_eq_some_iff.1 hc).1; simpa using this
      rw [List.getElem?_map, List.getElem?_range hi] at hc
      simp at hc
      have := (hf2 i hi).1
      rw [Addr.add_mid, Nat.mul_one] at this
      rw [this, ← hc]
    · have hi2 : i < len := by have := (List.getElem?_eq_some_iff.1 hi).1; simpa using this
      rw [List.getElem?_map, List.getElem?_range hi2] at hi
      simp at hi
      refine ⟨(f i).1, by rw [List.getElem?_map, List.getElem?_range hi2]; rfl, ?_⟩
      rw [← hi]
      exact (hf2 i hi2).2.1
    · obtain ⟨i, hi, rfl⟩ := List.mem_map.1 hl
      exact (hf2 i (List.mem_range.1 hi)).2.2
set_option maxRecDepth 100000 in
/-- types within what is handed in -/
theorem openTE {H : Type} {enc : TypeId × Value → H} {W : World} {base fuel : Nat} {held : Bool} {cs : List Value} {x : DataW H × List MemPlace} (h : DataW.trod enc Try.prog W base (fun _ => true) held fuel 25 cs = some x) (hs : ∀ k ∈ x.1.weights Try.prog 25, k ≤ reachBytes) :
    ∃ v, ∃ l : List Ty, cs = [v] ∧ TL (fun _ => True) W v l := by
  rcases DataW.trod_slice Try.underlying25 h with ⟨hcs, hx⟩ | ⟨a, len, cap, elems, rest, n, _, hcs, hx, hb, hl, hm, hlen, hel, _, _⟩
  · exact ⟨_, [], hcs, TL.nil _ _⟩
  · rw [cTy] at hel
    have hd : x.1 = .slice (elems.map (·.1)) (rest.map (·.1)) := by rw [hx]
    have hln : len ≤ 140737488355328 := by
      have hk := hs (elems.length * Try.prog.bytesOf 77 + rest.length * Try.prog.bytesOf 77) (by
        rw [hd]
        simp only [DataW.weights, Try.underlying25, List.mem_cons, List.mem_append]
        left
        simp [Nat.add_mul])
      have hb24 : Try.prog.bytesOf 77 = 24 := by kernel_rfl
      rw [hb24] at hk
      unfold reachBytes at hk
      omega
    obtain ⟨fs, hu, hsz, f0, f1, f2, e0, e1, e2, t0, o0, t1, o1, t2, o2⟩ := uTyp
    have get : ∀ i, i < len → ∃ t : Ty, W.cell? (a.add (i * 3)) = some (.int .i64 t.1) ∧ W.cell? (a.add (i * 3 + 1)) = some (.int .i64 t.2.1) ∧ W.cell? (a.add (i * 3 + 2)) = some (.int .i64 t.2.2) := by
      intro i hi
      have he := hel i hi
      have hil : i < elems.length := by omega
      rw [List.getElem?_eq_getElem hil, Option.bind_eq_some_iff] at he
      obtain ⟨cs2, hc, ht⟩ := he
      obtain ⟨_, hl2, hcell⟩ := World.cells?_some hc
      obtain ⟨xs, k, _, _, hcl, hxl, hxe⟩ := DataW.trod_struct hu ht
      have q0 := hxe 0 f0 e0
      have q1 := hxe 1 f1 e1
      have q2 := hxe 2 f2 e2
      rw [t0, o0, cIntC, List.getElem?_eq_getElem (show 0 < xs.length by omega)] at q0
      rw [t1, o1, cIntC, List.getElem?_eq_getElem (show 1 < xs.length by omega)] at q1
      rw [t2, o2, cIntC, List.getElem?_eq_getElem (show 2 < xs.length by omega)] at q2
      obtain ⟨x0, hx0, _, _⟩ := DataW.trod_int Try.underlying3 q0
      obtain ⟨x1, hx1, _, _⟩ := DataW.trod_int Try.underlying3 q1
      obtain ⟨x2, hx2, _, _⟩ := DataW.trod_int Try.underlying3 q2
      have g0 : cs2[0]? = some (.int .i64 x0) := by have := congrArg (·[0]?) hx0; simpa [List.getElem?_take, List.getElem?_drop] using this
      have g1 : cs2[1]? = some (.int .i64 x1) := by have := congrArg (·[0]?) hx1; simpa [List.getElem?_take, List.getElem?_drop] using this
      have g2 : cs2[2]? = some (.int .i64 x2) := by have := congrArg (·[0]?) hx2; simpa [List.getElem?_take, List.getElem?_drop] using this
      have d0 := hcell 0 (by omega)
      have d1 := hcell 1 (by omega)
      have d2 := hcell 2 (by omega)
      rw [g0] at d0
      rw [g1] at d1
      rw [g2] at d2
      have ea : ∀ q, 0 < q → (a.add (i * 3)).add q = a.add (i * 3 + q) := by
        intro q hq
        unfold Addr.add
        by_cases h0 : i * 3 = 0
        · rw [if_pos h0, if_neg (by omega), if_neg (by omega), h0, Nat.zero_add]
        · rw [if_neg h0, if_neg (by omega), if_neg (by omega)]
          simp [Nat.add_assoc]
      rw [ea 1 (by omega)] at d1
      rw [ea 2 (by omega)] at d2
      exact ⟨(x0, x1, x2), by simpa [Addr.add] using d0, d1, d2⟩
    let f : Nat → Ty := fun i => if h : i < len then (get i h).choose else (0, 0, 0)
    have hf2 : ∀ i, i < len → W.cell? (a.add (i * 3)) = some (.int .i64 (f i).1) ∧ W.cell? (a.add (i * 3 + 1)) = some (.int .i64 (f i).2.1) ∧ W.cell? (a.add (i * 3 + 2)) = some (.int .i64 (f i).2.2) := by
      intro i hi
      have := (get i hi).choose_spec
      rw [show f i = (get i hi).choose from dif_pos hi]
      exact this
    refine ⟨_, (List.range len).map f, hcs, ⟨by rw [tV_len], some a, cap, by simp, by simpa using hl, by simp; omega, fun e => (by cases e), fun hn => ?_⟩⟩
    simp at hn
    obtain ⟨ab, ao, spot⟩ := a
    have hspot : spot = none := by simpa [Addr.add] using World.cell?_spot (hf2 0 hn).1
    subst hspot
    have h0 := (hf2 0 hn).1
    rw [Addr.add_mid] at h0
    refine ⟨ab, ao, rfl, trivial, World.block_lt_of_cell? W _ h0, fun i c hc => ?_⟩
    have hi : i < len * 3 := by have := (List.getElem?_eq_some_iff.1 hc).1; rw [tV_len] at this; simpa using this
    obtain ⟨k, r, hk, hr⟩ : ∃ k r, i = k * 3 + r ∧ r < 3 := ⟨i / 3, i % 3, by omega, by omega⟩
    have hkl : k < len := by omega
    have hlk : ((List.range len).map f)[k]? = some (f k) := by rw [List.getElem?_map, List.getElem?_range hkl]; rfl
    obtain ⟨v0, v1, v2⟩ := tV_get _ k (f k) hlk
    obtain ⟨w0, w1, w2⟩ := hf2 k hkl
    rw [Addr.add_mid] at w0 w1 w2
    obtain rfl | rfl | rfl : r = 0 ∨ r = 1 ∨ r = 2 := by omega
    · rw [hk, Nat.add_zero] at hc ⊢
      rw [v0] at hc
      rw [← hc]
      exact w0
    · rw [hk] at hc ⊢
      rw [v1] at hc
      rw [← hc]
      exact w1
    · rw [hk] at hc ⊢
      rw [v2] at hc
      rw [← hc]
      exact w2
/-- all bytes of a container are bytes -/
def BytC (c : Con) : Prop := (∀ l ∈ c.cs, Byt l) ∧ (∀ l ∈ c.ss, Byt l) ∧ Byt c.d
set_option maxRecDepth 100000 in
theorem openCon {H : Type} {enc : TypeId × Value → H} {W : World} {base b0 : Nat} {r : Reach} {held : Bool} {v : Value} {d : DataW H} {ps : List MemPlace}
    (hv : Value.okWide Try.prog W r b0 28 v) (h : DataW.Trod enc Try.prog W base (fun _ => true) held 28 v d ps) (hs : ∀ k ∈ d.weights Try.prog 28, k ≤ reachBytes) :
    ∃ c : Con, CW (fun _ => True) W v c ∧ BytC c := by
  obtain ⟨fs, hu, hsz, htl, f0, f1, f2, f3, f4, e0, e1, e2, e3, e4, t0, o0, t1, o1, t2, o2, t3, o3, t4, o4⟩ := uCon
  obtain ⟨cs, rfl, hcs⟩ := okWide_str hu hv
  rw [cCon] at hcs
  obtain ⟨fuel, hf⟩ := h
  obtain ⟨xs, k, _, hx, _, hxl, hxe⟩ := DataW.trod_struct hu hf
  have hd : d = .agg (xs.map (·.1)) := congrArg Prod.fst hx
  have hw : ∀ (j : Nat) (t : TypeId) (y : DataW H × List MemPlace), [25, 26, 26, 22, 3][j]? = some t → xs[j]? = some y → ∀ n ∈ y.1.weights Try.prog t, n ≤ reachBytes := by
    intro j t y hj hy n hn
    refine hs n ?_
    rw [hd]
    simp only [DataW.weights, hu]
    rw [htl]
    exact DataW.weights_mem_each hj (by rw [List.getElem?_map, hy]; rfl) n hn
  have q0 := hxe 0 f0 e0
  have q1 := hxe 1 f1 e1
  have q2 := hxe 2 f2 e2
  have q3 := hxe 3 f3 e3
  have q4 := hxe 4 f4 e4
  have g0 := List.getElem?_eq_getElem (show 0 < xs.length by omega)
  have g1 := List.getElem?_eq_getElem (show 1 < xs.length by omega)
  have g2 := List.getElem?_eq_getElem (show 2 < xs.length by omega)
  have g3 := List.getElem?_eq_getElem (show 3 < xs.length by omega)
  rw [t0, o0, cSlT, g0] at q0
  rw [t1, o1, cSlP, g1] at q1
  rw [t2, o2, cSlP, g2] at q2
  rw [t3, o3, cSl8, g3] at q3
  rw [t4, o4, cIntC, List.getElem?_eq_getElem (show 4 < xs.length by omega)] at q4
  obtain ⟨tv, ts, h0, hT⟩ := openTE q0 (hw 0 _ _ rfl g0)
  obtain ⟨cv, ccs, h1, hC, hCb⟩ := openPE q1 (hw 1 _ _ rfl g1)
  obtain ⟨sv, css, h2, hS, hSb⟩ := openPE q2 (hw 2 _ _ rfl g2)
  obtain ⟨dv, dd, h3, hD, hDb, _⟩ := openBE q3 (hw 3 _ _ rfl g3)
  obtain ⟨n, h4, _, _⟩ := DataW.trod_int Try.underlying3 q4
  refine ⟨⟨ts, ccs, css, dd, n⟩, ⟨tv, cv, sv, dv, ?_, hT, hC, hS, hD⟩, hCb, hSb, hDb⟩
  have k0 : cs[0]? = some tv := by have := congrArg (·[0]?) h0; simpa [Value.cells, List.getElem?_take, List.getElem?_drop] using this
  have k1 : cs[1]? = some cv := by have := congrArg (·[0]?) h1; simpa [Value.cells, List.getElem?_take, List.getElem?_drop] using this
  have k2 : cs[2]? = some sv := by have := congrArg (·[0]?) h2; simpa [Value.cells, List.getElem?_take, List.getElem?_drop] using this
  have k3 : cs[3]? = some dv := by have := congrArg (·[0]?) h3; simpa [Value.cells, List.getElem?_take, List.getElem?_drop] using this
  have k4 : cs[4]? = some (.int .i64 n) := by have := congrArg (·[0]?) h4; simpa [Value.cells, List.getElem?_take, List.getElem?_drop] using this
  congr 1
  apply Array.ext_getElem?
  intro i
  by_cases hi : i < 5
  · have h5 : i = 0 ∨ i = 1 ∨ i = 2 ∨ i = 3 ∨ i = 4 := by omega
    rcases h5 with rfl | rfl | rfl | rfl | rfl
    · rw [k0]; rfl
    · rw [k1]; rfl
    · rw [k2]; rfl
    · rw [k3]; rfl
    · rw [k4]; rfl
  · rw [Array.getElem?_eq_none (by omega), Array.getElem?_eq_none (by simp; omega)]
end Go.Proofs.Ytndhabhlajldeaa
