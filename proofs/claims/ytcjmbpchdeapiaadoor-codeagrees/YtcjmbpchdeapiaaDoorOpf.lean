/- The frame of the laws over package op: the tables of names as they are laid; how a list of numbers reads. -/
import Derived.Test.YtcjmbpchdeapiaaDoorRows
import Derived.Test.YtcjmbpchdeapiaaDoorOpe
import Derived.WalkKit
import Derived.ProofKit
import Derived.OpenShut
import Derived.ChangeOld
import Derived.ChangeSlices
import Derived.Lib.SmallJoins
import Derived.Lib.LaidTab
import Derived.LaidMore
import Derived.Stop.Joined
namespace Go.Proofs.YtcjmbpchdeapiaaDoor
open Go.ChangeShapes Go.WideShapes Go.ChangeAt Go.RowKit
set_option maxRecDepth 100000
theorem Tryd.own : ownKnob Tryd.prog.godebug = none := by kernel_rfl
theorem Tryd.laidOut : laidOutB Tryd.prog = true := by kernel_rfl
theorem cells_of_strs {H : Type} {enc : TypeId × Value → H} {P : Program} {w : World} {base : Nat} {sp : Nat → Bool} {held : Bool} {fuel : Nat} {t e : TypeId} {n : Nat} {cs : List Value} {zs : List (List UInt8)} {p : List MemPlace}
    (ht : P.underlying t = some (.array n e)) (he : P.underlying e = some .string) (hce : P.cellsOf e = 1) (hct : P.cellsOf t = n)
    (h : DataW.trod enc P w base sp held fuel t cs = some (.agg (zs.map fun z => .lit (.string z)), p)) : cs = zs.map fun z => Value.string ⟨z.toArray⟩ := by
  cases fuel with
  | zero => simp [DataW.trod] at h
  | succ fuel =>
    simp only [DataW.trod, ht, hce, hct, Nat.mul_one] at h
    split at h
    · rename_i hl
      obtain ⟨xs, hm, hx⟩ := Option.map_eq_some_iff.1 h
      have hxs : xs.map (·.1) = zs.map fun z => (DataW.lit (.string z) : DataW H) := by
        have := congrArg Prod.fst hx
        simpa using this
      have hxl : xs.length = n := by simpa using Lib.mapM_length hm
      have hzl : zs.length = n := by
        have := congrArg List.length hxs
        simp at this
        omega
      apply List.ext_getElem?
      intro i
      by_cases hi : i < n
      · obtain ⟨b, hb, hf⟩ := Lib.mapM_at hm i i (by simp [hi])
        obtain ⟨s, hc, rfl, _⟩ := DataW.trod_string he hf
        have h1 : cs[i]? = some (.string s) := by
          have := congrArg (·[0]?) hc
          simpa [List.getElem?_take, List.getElem?_drop] using this
        have h2 : (xs.map (·.1))[i]? = some (DataW.lit (.string s.data.toList) : DataW H) := by simp [hb]
        rw [hxs] at h2
        simp only [List.getElem?_map, Option.map_eq_some_iff, DataW.lit.injEq, Lit.string.injEq] at h2
        obtain ⟨z', hz', e'⟩ := h2
        rw [h1, List.getElem?_map, hz', e']
        rfl
      · rw [List.getElem?_eq_none (by omega), List.getElem?_eq_none (by simp; omega)]
    · cases h
abbrev laidA : List (String × DataW Unit) := [("math/bits.deBruijn32tab", Rows.laid_math_bits_deBruijn32tab), ("math/bits.deBruijn64tab", Rows.laid_math_bits_deBruijn64tab), ("internal/strconv.uint64pow10", Rows.laid_internal_strconv_uint64pow10), ("vouch/op.names0", Rows.laid_vouch_op_names0), ("vouch/op.names1", Rows.laid_vouch_op_names1), ("vouch/op.names3", Rows.laid_vouch_op_names3), ("vouch/op.names4", Rows.laid_vouch_op_names4), ("vouch/op.names5", Rows.laid_vouch_op_names5), ("vouch/op.namesD", Rows.laid_vouch_op_namesD), ("vouch/op.namesE", Rows.laid_vouch_op_namesE), ("vouch/op.namesF", Rows.laid_vouch_op_namesF)]
theorem gN0 : Tryd.prog.globalNamed "vouch/op.names0" = some 0 := by kernel_rfl
theorem tN0 : (Tryd.prog.globals[0]?).map (·.type) = some 80 := by kernel_rfl
theorem dN0 : (Rows.laid_vouch_op_names0 : DataW Unit) = .agg (((List.range 16).map fun i => nameL.getD (0 + i) []).map fun z => .lit (.string z)) := by rfl
theorem gN1 : Tryd.prog.globalNamed "vouch/op.names1" = some 1 := by kernel_rfl
theorem tN1 : (Tryd.prog.globals[1]?).map (·.type) = some 80 := by kernel_rfl
theorem dN1 : (Rows.laid_vouch_op_names1 : DataW Unit) = .agg (((List.range 16).map fun i => nameL.getD (16 + i) []).map fun z => .lit (.string z)) := by rfl
theorem gN3 : Tryd.prog.globalNamed "vouch/op.names3" = some 2 := by kernel_rfl
theorem tN3 : (Tryd.prog.globals[2]?).map (·.type) = some 80 := by kernel_rfl
theorem dN3 : (Rows.laid_vouch_op_names3 : DataW Unit) = .agg (((List.range 16).map fun i => nameL.getD (48 + i) []).map fun z => .lit (.string z)) := by rfl
theorem gN4 : Tryd.prog.globalNamed "vouch/op.names4" = some 3 := by kernel_rfl
theorem tN4 : (Tryd.prog.globals[3]?).map (·.type) = some 80 := by kernel_rfl
theorem dN4 : (Rows.laid_vouch_op_names4 : DataW Unit) = .agg (((List.range 16).map fun i => nameL.getD (64 + i) []).map fun z => .lit (.string z)) := by rfl
theorem gN5 : Tryd.prog.globalNamed "vouch/op.names5" = some 4 := by kernel_rfl
theorem tN5 : (Tryd.prog.globals[4]?).map (·.type) = some 80 := by kernel_rfl
theorem dN5 : (Rows.laid_vouch_op_names5 : DataW Unit) = .agg (((List.range 16).map fun i => nameL.getD (80 + i) []).map fun z => .lit (.string z)) := by rfl
theorem gND : Tryd.prog.globalNamed "vouch/op.namesD" = some 5 := by kernel_rfl
theorem tND : (Tryd.prog.globals[5]?).map (·.type) = some 80 := by kernel_rfl
theorem dND : (Rows.laid_vouch_op_namesD : DataW Unit) = .agg (((List.range 16).map fun i => nameL.getD (208 + i) []).map fun z => .lit (.string z)) := by rfl
theorem gNE : Tryd.prog.globalNamed "vouch/op.namesE" = some 6 := by kernel_rfl
theorem tNE : (Tryd.prog.globals[6]?).map (·.type) = some 80 := by kernel_rfl
theorem dNE : (Rows.laid_vouch_op_namesE : DataW Unit) = .agg (((List.range 16).map fun i => nameL.getD (224 + i) []).map fun z => .lit (.string z)) := by rfl
theorem gNF : Tryd.prog.globalNamed "vouch/op.namesF" = some 7 := by kernel_rfl
theorem tNF : (Tryd.prog.globals[7]?).map (·.type) = some 80 := by kernel_rfl
theorem dNF : (Rows.laid_vouch_op_namesF : DataW Unit) = .agg (((List.range 16).map fun i => nameL.getD (240 + i) []).map fun z => .lit (.string z)) := by rfl
theorem c16s : Tryd.prog.cellsOf 80 = 16 := by kernel_rfl
theorem cStr : Tryd.prog.cellsOf 9 = 1 := by kernel_rfl
theorem nms_of_laid {W : World} (h : laidMetH Tryd.prog laidA W) : Nms W := by
  rw [MakeChecks.laidMetH_plain _ _ _ (by kernel_rfl)] at h
  obtain ⟨ps, ⟨g0, t0, cs0, f0, p0, q0, hg0, ht0, hv0, hd0, ⟨g1, t1, cs1, f1, p1, q1, hg1, ht1, hv1, hd1, ⟨g2, t2, cs2, f2, p2, q2, hg2, ht2, hv2, hd2, ⟨g3, t3, cs3, f3, p3, q3, hg3, ht3, hv3, hd3, ⟨g4, t4, cs4, f4, p4, q4, hg4, ht4, hv4, hd4, ⟨g5, t5, cs5, f5, p5, q5, hg5, ht5, hv5, hd5, ⟨g6, t6, cs6, f6, p6, q6, hg6, ht6, hv6, hd6, ⟨g7, t7, cs7, f7, p7, q7, hg7, ht7, hv7, hd7, ⟨g8, t8, cs8, f8, p8, q8, hg8, ht8, hv8, hd8, ⟨g9, t9, cs9, f9, p9, q9, hg9, ht9, hv9, hd9, ⟨g10, t10, cs10, f10, p10, q10, hg10, ht10, hv10, hd10, _, _⟩, _⟩, _⟩, _⟩, _⟩, _⟩, _⟩, _⟩, _⟩, _⟩, _⟩, _⟩ := h
  obtain rfl := Option.some.inj (gN0.symm.trans hg3)
  obtain rfl := Option.some.inj (tN0.symm.trans ht3)
  rw [dN0] at hd3
  have e3 := cells_of_strs Tryd.underlying80 Tryd.underlying9 cStr c16s hd3
  obtain rfl := Option.some.inj (gN1.symm.trans hg4)
  obtain rfl := Option.some.inj (tN1.symm.trans ht4)
  rw [dN1] at hd4
  have e4 := cells_of_strs Tryd.underlying80 Tryd.underlying9 cStr c16s hd4
  obtain rfl := Option.some.inj (gN3.symm.trans hg5)
  obtain rfl := Option.some.inj (tN3.symm.trans ht5)
  rw [dN3] at hd5
  have e5 := cells_of_strs Tryd.underlying80 Tryd.underlying9 cStr c16s hd5
  obtain rfl := Option.some.inj (gN4.symm.trans hg6)
  obtain rfl := Option.some.inj (tN4.symm.trans ht6)
  rw [dN4] at hd6
  have e6 := cells_of_strs Tryd.underlying80 Tryd.underlying9 cStr c16s hd6
  obtain rfl := Option.some.inj (gN5.symm.trans hg7)
  obtain rfl := Option.some.inj (tN5.symm.trans ht7)
  rw [dN5] at hd7
  have e7 := cells_of_strs Tryd.underlying80 Tryd.underlying9 cStr c16s hd7
  obtain rfl := Option.some.inj (gND.symm.trans hg8)
  obtain rfl := Option.some.inj (tND.symm.trans ht8)
  rw [dND] at hd8
  have e8 := cells_of_strs Tryd.underlying80 Tryd.underlying9 cStr c16s hd8
  obtain rfl := Option.some.inj (gNE.symm.trans hg9)
  obtain rfl := Option.some.inj (tNE.symm.trans ht9)
  rw [dNE] at hd9
  have e9 := cells_of_strs Tryd.underlying80 Tryd.underlying9 cStr c16s hd9
  obtain rfl := Option.some.inj (gNF.symm.trans hg10)
  obtain rfl := Option.some.inj (tNF.symm.trans ht10)
  rw [dNF] at hd10
  have e10 := cells_of_strs Tryd.underlying80 Tryd.underlying9 cStr c16s hd10
  intro k g hk i hi
  have fin : ∀ (cs : Array Value) (b : Nat), cs.toList = ((List.range 16).map fun i => nameL.getD (b + i) []).map (fun z => Value.string ⟨z.toArray⟩) → cs[i]? = some (.string (nameT (b + i))) := fun cs b e => by
    rw [← Array.getElem?_toList, e]
    simp [hi, nameT]
  unfold tabOf at hk
  split at hk
  · cases hk; rw [World.var?_cell hg3 hv3 i]; exact fin cs3 0 e3
  · cases hk; rw [World.var?_cell hg4 hv4 i]; exact fin cs4 16 e4
  · cases hk; rw [World.var?_cell hg5 hv5 i]; exact fin cs5 48 e5
  · cases hk; rw [World.var?_cell hg6 hv6 i]; exact fin cs6 64 e6
  · cases hk; rw [World.var?_cell hg7 hv7 i]; exact fin cs7 80 e7
  · cases hk; rw [World.var?_cell hg8 hv8 i]; exact fin cs8 208 e8
  · cases hk; rw [World.var?_cell hg9 hv9 i]; exact fin cs9 224 e9
  · cases hk; rw [World.var?_cell hg10 hv10 i]; exact fin cs10 240 e10
  · cases hk
theorem door_met (os : Os) (args : Array Value) : laidMetH Tryd.prog laidA ((World.doorLaid Tryd.prog 400 os).forCall (fun _ _ => 0) ⟨#[], args, []⟩).memory :=
  laidMetH_of_parts3 (fuel := 8) (laidMet_of_run' 8 (by kernel_rfl) (by kernel_rfl)) (by kernel_rfl) (by kernel_rfl)
end Go.Proofs.YtcjmbpchdeapiaaDoor
