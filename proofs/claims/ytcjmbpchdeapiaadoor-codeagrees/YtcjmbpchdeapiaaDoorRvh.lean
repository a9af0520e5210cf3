/- The document's Of, of every number. -/
import Derived.Test.YtcjmbpchdeapiaaDoorRvg
namespace Go.Proofs.YtcjmbpchdeapiaaDoor
open Go.RowKit
set_option maxRecDepth 100000
theorem hit_numbers (c : Nat) (h : (1 ≤ c ∧ c ≤ 11) ∨ (16 ≤ c ∧ c ≤ 30) ∨ (32 ≤ c ∧ c ≤ 32)) (w : World) : Calls Tryd.prog 35 #[.int .i64 (c : Int)] w fun e w' => e = .returned (.tuple #[opv c, .bool true]) ∧ ∃ m, w' = ((w.alloc (opo c)).alloc (opo c)).drewN m := by
  have hc : c = 1 ∨ c = 2 ∨ c = 3 ∨ c = 4 ∨ c = 5 ∨ c = 6 ∨ c = 7 ∨ c = 8 ∨ c = 9 ∨ c = 10 ∨ c = 11 ∨ c = 16 ∨ c = 17 ∨ c = 18 ∨ c = 19 ∨ c = 20 ∨ c = 21 ∨ c = 22 ∨ c = 23 ∨ c = 24 ∨ c = 25 ∨ c = 26 ∨ c = 27 ∨ c = 28 ∨ c = 29 ∨ c = 30 ∨ c = 32 := by omega
  rcases hc with rfl | rfl | rfl | rfl | rfl | rfl | rfl | rfl | rfl | rfl | rfl | rfl | rfl | rfl | rfl | rfl | rfl | rfl | rfl | rfl | rfl | rfl | rfl | rfl | rfl | rfl | rfl
  · exact at_1 w
  · exact at_2 w
  · exact at_3 w
  · exact at_4 w
  · exact at_5 w
  · exact at_6 w
  · exact at_7 w
  · exact at_8 w
  · exact at_9 w
  · exact at_10 w
  · exact at_11 w
  · exact at_16 w
  · exact at_17 w
  · exact at_18 w
  · exact at_19 w
  · exact at_20 w
  · exact at_21 w
  · exact at_22 w
  · exact at_23 w
  · exact at_24 w
  · exact at_25 w
  · exact at_26 w
  · exact at_27 w
  · exact at_28 w
  · exact at_29 w
  · exact at_30 w
  · exact at_32 w
theorem hit_around (c : Nat) (h : (48 ≤ c ∧ c ≤ 55) ∨ (58 ≤ c ∧ c ≤ 58) ∨ (61 ≤ c ∧ c ≤ 62) ∨ (64 ≤ c ∧ c ≤ 74)) (w : World) : Calls Tryd.prog 36 #[.int .i64 (c : Int)] w fun e w' => e = .returned (.tuple #[opv c, .bool true]) ∧ ∃ m, w' = ((w.alloc (opo c)).alloc (opo c)).drewN m := by
  have hc : c = 48 ∨ c = 49 ∨ c = 50 ∨ c = 51 ∨ c = 52 ∨ c = 53 ∨ c = 54 ∨ c = 55 ∨ c = 58 ∨ c = 61 ∨ c = 62 ∨ c = 64 ∨ c = 65 ∨ c = 66 ∨ c = 67 ∨ c = 68 ∨ c = 69 ∨ c = 70 ∨ c = 71 ∨ c = 72 ∨ c = 73 ∨ c = 74 := by omega
  rcases hc with rfl | rfl | rfl | rfl | rfl | rfl | rfl | rfl | rfl | rfl | rfl | rfl | rfl | rfl | rfl | rfl | rfl | rfl | rfl | rfl | rfl | rfl
  · exact at_48 w
  · exact at_49 w
  · exact at_50 w
  · exact at_51 w
  · exact at_52 w
  · exact at_53 w
  · exact at_54 w
  · exact at_55 w
  · exact at_58 w
  · exact at_61 w
  · exact at_62 w
  · exact at_64 w
  · exact at_65 w
  · exact at_66 w
  · exact at_67 w
  · exact at_68 w
  · exact at_69 w
  · exact at_70 w
  · exact at_71 w
  · exact at_72 w
  · exact at_73 w
  · exact at_74 w
theorem hit_kept (c : Nat) (h : (80 ≤ c ∧ c ≤ 85) ∨ (89 ≤ c ∧ c ≤ 89) ∨ (91 ≤ c ∧ c ≤ 164)) (w : World) : Calls Tryd.prog 37 #[.int .i64 (c : Int)] w fun e w' => e = .returned (.tuple #[opv c, .bool true]) ∧ ∃ m, w' = ((w.alloc (opo c)).alloc (opo c)).drewN m := by
  have hc : c = 80 ∨ c = 81 ∨ c = 82 ∨ c = 83 ∨ c = 84 ∨ c = 85 ∨ c = 89 ∨ c = 91 ∨ c = 92 ∨ c = 93 ∨ c = 94 ∨ c = 95 ∨ c = 96 ∨ c = 97 ∨ c = 98 ∨ c = 99 ∨ c = 100 ∨ c = 101 ∨ c = 102 ∨ c = 103 ∨ c = 104 ∨ c = 105 ∨ c = 106 ∨ c = 107 ∨ c = 108 ∨ c = 109 ∨ c = 110 ∨ c = 111 ∨ c = 112 ∨ c = 113 ∨ c = 114 ∨ c = 115 ∨ c = 116 ∨ c = 117 ∨ c = 118 ∨ c = 119 ∨ c = 120 ∨ c = 121 ∨ c = 122 ∨ c = 123 ∨ c = 124 ∨ c = 125 ∨ c = 126 ∨ c = 127 ∨ c = 128 ∨ c = 129 ∨ c = 130 ∨ c = 131 ∨ c = 132 ∨ c = 133 ∨ c = 134 ∨ c = 135 ∨ c = 136 ∨ c = 137 ∨ c = 138 ∨ c = 139 ∨ c = 140 ∨ c = 141 ∨ c = 142 ∨ c = 143 ∨ c = 144 ∨ c = 145 ∨ c = 146 ∨ c = 147 ∨ c = 148 ∨ c = 149 ∨ c = 150 ∨ c = 151 ∨ c = 152 ∨ c = 153 ∨ c = 154 ∨ c = 155 ∨ c = 156 ∨ c = 157 ∨ c = 158 ∨ c = 159 ∨ c = 160 ∨ c = 161 ∨ c = 162 ∨ c = 163 ∨ c = 164 := by omega
  rcases hc with rfl | rfl | rfl | rfl | rfl | rfl | rfl | rfl | rfl | rfl | rfl | rfl | rfl | rfl | rfl | rfl | rfl | rfl | rfl | rfl | rfl | rfl | rfl | rfl | rfl | rfl | rfl | rfl | rfl | rfl | rfl | rfl | rfl | rfl | rfl | rfl | rfl | rfl | rfl | rfl | rfl | rfl | rfl | rfl | rfl | rfl | rfl | rfl | rfl | rfl | rfl | rfl | rfl | rfl | rfl | rfl | rfl | rfl | rfl | rfl | rfl | rfl | rfl | rfl | rfl | rfl | rfl | rfl | rfl | rfl | rfl | rfl | rfl | rfl | rfl | rfl | rfl | rfl | rfl | rfl | rfl
  · exact at_80 w
  · exact at_81 w
  · exact at_82 w
  · exact at_83 w
  · exact at_84 w
  · exact at_85 w
  · exact at_89 w
  · exact at_91 w
  · exact at_92 w
  · exact at_93 w
  · exact at_94 w
  · exact at_95 w
  · exact at_96 w
  · exact at_97 w
  · exact at_98 w
  · exact at_99 w
  · exact at_100 w
  · exact at_101 w
  · exact at_102 w
  · exact at_103 w
  · exact at_104 w
  · exact at_105 w
  · exact at_106 w
  · exact at_107 w
  · exact at_108 w
  · exact at_109 w
  · exact at_110 w
  · exact at_111 w
  · exact at_112 w
  · exact at_113 w
  · exact at_114 w
  · exact at_115 w
  · exact at_116 w
  · exact at_117 w
  · exact at_118 w
  · exact at_119 w
  · exact at_120 w
  · exact at_121 w
  · exact at_122 w
  · exact at_123 w
  · exact at_124 w
  · exact at_125 w
  · exact at_126 w
  · exact at_127 w
  · exact at_128 w
  · exact at_129 w
  · exact at_130 w
  · exact at_131 w
  · exact at_132 w
  · exact at_133 w
  · exact at_134 w
  · exact at_135 w
  · exact at_136 w
  · exact at_137 w
  · exact at_138 w
  · exact at_139 w
  · exact at_140 w
  · exact at_141 w
  · exact at_142 w
  · exact at_143 w
  · exact at_144 w
  · exact at_145 w
  · exact at_146 w
  · exact at_147 w
  · exact at_148 w
  · exact at_149 w
  · exact at_150 w
  · exact at_151 w
  · exact at_152 w
  · exact at_153 w
  · exact at_154 w
  · exact at_155 w
  · exact at_156 w
  · exact at_157 w
  · exact at_158 w
  · exact at_159 w
  · exact at_160 w
  · exact at_161 w
  · exact at_162 w
  · exact at_163 w
  · exact at_164 w
theorem hit_ways (c : Nat) (h : (0 ≤ c ∧ c ≤ 0) ∨ (208 ≤ c ∧ c ≤ 211) ∨ (224 ≤ c ∧ c ≤ 232) ∨ (236 ≤ c ∧ c ≤ 236) ∨ (238 ≤ c ∧ c ≤ 238) ∨ (243 ≤ c ∧ c ≤ 243) ∨ (247 ≤ c ∧ c ≤ 249) ∨ (251 ≤ c ∧ c ≤ 251) ∨ (253 ≤ c ∧ c ≤ 254)) (w : World) : Calls Tryd.prog 38 #[.int .i64 (c : Int)] w fun e w' => e = .returned (.tuple #[opv c, .bool true]) ∧ ∃ m, w' = ((w.alloc (opo c)).alloc (opo c)).drewN m := by
  have hc : c = 0 ∨ c = 208 ∨ c = 209 ∨ c = 210 ∨ c = 211 ∨ c = 224 ∨ c = 225 ∨ c = 226 ∨ c = 227 ∨ c = 228 ∨ c = 229 ∨ c = 230 ∨ c = 231 ∨ c = 232 ∨ c = 236 ∨ c = 238 ∨ c = 243 ∨ c = 247 ∨ c = 248 ∨ c = 249 ∨ c = 251 ∨ c = 253 ∨ c = 254 := by omega
  rcases hc with rfl | rfl | rfl | rfl | rfl | rfl | rfl | rfl | rfl | rfl | rfl | rfl | rfl | rfl | rfl | rfl | rfl | rfl | rfl | rfl | rfl | rfl | rfl
  · exact at_0 w
  · exact at_208 w
  · exact at_209 w
  · exact at_210 w
  · exact at_211 w
  · exact at_224 w
  · exact at_225 w
  · exact at_226 w
  · exact at_227 w
  · exact at_228 w
  · exact at_229 w
  · exact at_230 w
  · exact at_231 w
  · exact at_232 w
  · exact at_236 w
  · exact at_238 w
  · exact at_243 w
  · exact at_247 w
  · exact at_248 w
  · exact at_249 w
  · exact at_251 w
  · exact at_253 w
  · exact at_254 w
theorem isOp_sets : ∀ c : Fin 256, isOp c.val = decide (((1 ≤ c.val ∧ c.val ≤ 11) ∨ (16 ≤ c.val ∧ c.val ≤ 30) ∨ (32 ≤ c.val ∧ c.val ≤ 32)) ∨ ((48 ≤ c.val ∧ c.val ≤ 55) ∨ (58 ≤ c.val ∧ c.val ≤ 58) ∨ (61 ≤ c.val ∧ c.val ≤ 62) ∨ (64 ≤ c.val ∧ c.val ≤ 74)) ∨ ((80 ≤ c.val ∧ c.val ≤ 85) ∨ (89 ≤ c.val ∧ c.val ≤ 89) ∨ (91 ≤ c.val ∧ c.val ≤ 164)) ∨ ((0 ≤ c.val ∧ c.val ≤ 0) ∨ (208 ≤ c.val ∧ c.val ≤ 211) ∨ (224 ≤ c.val ∧ c.val ≤ 232) ∨ (236 ≤ c.val ∧ c.val ≤ 236) ∨ (238 ≤ c.val ∧ c.val ≤ 238) ∨ (243 ≤ c.val ∧ c.val ≤ 243) ∨ (247 ≤ c.val ∧ c.val ≤ 249) ∨ (251 ≤ c.val ∧ c.val ≤ 251) ∨ (253 ≤ c.val ∧ c.val ≤ 254))) := by decide +kernel
theorem name_dash : ∀ c : Fin 256, (nameL.getD c.val [] == [45]) = false := by decide +kernel
theorem rof_any (C : Int) (w : World) : Calls Tryd.prog 26 #[.int .i64 C] w fun e w' => e = .returned (.tuple #[opV C, .bool (opB C)]) ∧ Below w.heap.size w w' := by
  by_cases hC : 0 ≤ C ∧ C < 256
  · obtain ⟨c, rfl⟩ : ∃ c : Nat, C = (c : Int) := ⟨C.toNat, by omega⟩
    have hc : c < 256 := by omega
    have eB : opB (c : Int) = isOp c := by unfold opB; rw [decide_eq_true hC, Int.toNat_natCast, Bool.true_and]
    have hS := isOp_sets ⟨c, hc⟩
    have hd : ((nameT c).toList == [45]) = false := by
      rw [show (nameT c).toList = nameL.getD c [] from by rw [ByteArray.toList_eq]; rfl]
      exact name_dash ⟨c, hc⟩
    have yes : isOp c = true → opV (c : Int) = opv c := fun h => by unfold opV; rw [eB, h, Int.toNat_natCast, if_pos rfl]
    have no : isOp c = false → opV (c : Int) = opz := fun h => by unfold opV; rw [eB, h, if_neg (by decide)]
    rw [eB]
    by_cases hN : (1 ≤ c ∧ c ≤ 11) ∨ (16 ≤ c ∧ c ≤ 30) ∨ (32 ≤ c ∧ c ≤ 32)
    · have h1 : isOp c = true := by rw [show isOp c = _ from hS]; exact decide_eq_true (by show ((1 ≤ c ∧ c ≤ 11) ∨ (16 ≤ c ∧ c ≤ 30) ∨ (32 ≤ c ∧ c ≤ 32)) ∨ ((48 ≤ c ∧ c ≤ 55) ∨ (58 ≤ c ∧ c ≤ 58) ∨ (61 ≤ c ∧ c ≤ 62) ∨ (64 ≤ c ∧ c ≤ 74)) ∨ ((80 ≤ c ∧ c ≤ 85) ∨ (89 ≤ c ∧ c ≤ 89) ∨ (91 ≤ c ∧ c ≤ 164)) ∨ ((0 ≤ c ∧ c ≤ 0) ∨ (208 ≤ c ∧ c ≤ 211) ∨ (224 ≤ c ∧ c ≤ 232) ∨ (236 ≤ c ∧ c ≤ 236) ∨ (238 ≤ c ∧ c ≤ 238) ∨ (243 ≤ c ∧ c ≤ 243) ∨ (247 ≤ c ∧ c ≤ 249) ∨ (251 ≤ c ∧ c ≤ 251) ∨ (253 ≤ c ∧ c ≤ 254)); omega)
      rw [yes h1, h1]
      exact rof_n _ _ _ _ _ _ _ _ (fun w => hit_numbers c hN w) w
    have m0 : Miss 35 (c : Int) := fun w => numbers_no (c : Int) (by omega) w
    by_cases hA : (48 ≤ c ∧ c ≤ 55) ∨ (58 ≤ c ∧ c ≤ 58) ∨ (61 ≤ c ∧ c ≤ 62) ∨ (64 ≤ c ∧ c ≤ 74)
    · have h1 : isOp c = true := by rw [show isOp c = _ from hS]; exact decide_eq_true (by show ((1 ≤ c ∧ c ≤ 11) ∨ (16 ≤ c ∧ c ≤ 30) ∨ (32 ≤ c ∧ c ≤ 32)) ∨ ((48 ≤ c ∧ c ≤ 55) ∨ (58 ≤ c ∧ c ≤ 58) ∨ (61 ≤ c ∧ c ≤ 62) ∨ (64 ≤ c ∧ c ≤ 74)) ∨ ((80 ≤ c ∧ c ≤ 85) ∨ (89 ≤ c ∧ c ≤ 89) ∨ (91 ≤ c ∧ c ≤ 164)) ∨ ((0 ≤ c ∧ c ≤ 0) ∨ (208 ≤ c ∧ c ≤ 211) ∨ (224 ≤ c ∧ c ≤ 232) ∨ (236 ≤ c ∧ c ≤ 236) ∨ (238 ≤ c ∧ c ≤ 238) ∨ (243 ≤ c ∧ c ≤ 243) ∨ (247 ≤ c ∧ c ≤ 249) ∨ (251 ≤ c ∧ c ≤ 251) ∨ (253 ≤ c ∧ c ≤ 254)); omega)
      rw [yes h1, h1]
      exact rof_a _ _ _ _ _ _ _ _ m0 (fun w => hit_around c hA w) hd w
    have m1 : Miss 36 (c : Int) := fun w => around_no (c : Int) (by omega) w
    by_cases hK : (80 ≤ c ∧ c ≤ 85) ∨ (89 ≤ c ∧ c ≤ 89) ∨ (91 ≤ c ∧ c ≤ 164)
    · have h1 : isOp c = true := by rw [show isOp c = _ from hS]; exact decide_eq_true (by show ((1 ≤ c ∧ c ≤ 11) ∨ (16 ≤ c ∧ c ≤ 30) ∨ (32 ≤ c ∧ c ≤ 32)) ∨ ((48 ≤ c ∧ c ≤ 55) ∨ (58 ≤ c ∧ c ≤ 58) ∨ (61 ≤ c ∧ c ≤ 62) ∨ (64 ≤ c ∧ c ≤ 74)) ∨ ((80 ≤ c ∧ c ≤ 85) ∨ (89 ≤ c ∧ c ≤ 89) ∨ (91 ≤ c ∧ c ≤ 164)) ∨ ((0 ≤ c ∧ c ≤ 0) ∨ (208 ≤ c ∧ c ≤ 211) ∨ (224 ≤ c ∧ c ≤ 232) ∨ (236 ≤ c ∧ c ≤ 236) ∨ (238 ≤ c ∧ c ≤ 238) ∨ (243 ≤ c ∧ c ≤ 243) ∨ (247 ≤ c ∧ c ≤ 249) ∨ (251 ≤ c ∧ c ≤ 251) ∨ (253 ≤ c ∧ c ≤ 254)); omega)
      rw [yes h1, h1]
      exact rof_k _ _ _ _ _ _ _ _ m0 m1 (fun w => hit_kept c hK w) w
    have m2 : Miss 37 (c : Int) := fun w => kept_no (c : Int) (by omega) w
    by_cases hW : (0 ≤ c ∧ c ≤ 0) ∨ (208 ≤ c ∧ c ≤ 211) ∨ (224 ≤ c ∧ c ≤ 232) ∨ (236 ≤ c ∧ c ≤ 236) ∨ (238 ≤ c ∧ c ≤ 238) ∨ (243 ≤ c ∧ c ≤ 243) ∨ (247 ≤ c ∧ c ≤ 249) ∨ (251 ≤ c ∧ c ≤ 251) ∨ (253 ≤ c ∧ c ≤ 254)
    · have h1 : isOp c = true := by rw [show isOp c = _ from hS]; exact decide_eq_true (by show ((1 ≤ c ∧ c ≤ 11) ∨ (16 ≤ c ∧ c ≤ 30) ∨ (32 ≤ c ∧ c ≤ 32)) ∨ ((48 ≤ c ∧ c ≤ 55) ∨ (58 ≤ c ∧ c ≤ 58) ∨ (61 ≤ c ∧ c ≤ 62) ∨ (64 ≤ c ∧ c ≤ 74)) ∨ ((80 ≤ c ∧ c ≤ 85) ∨ (89 ≤ c ∧ c ≤ 89) ∨ (91 ≤ c ∧ c ≤ 164)) ∨ ((0 ≤ c ∧ c ≤ 0) ∨ (208 ≤ c ∧ c ≤ 211) ∨ (224 ≤ c ∧ c ≤ 232) ∨ (236 ≤ c ∧ c ≤ 236) ∨ (238 ≤ c ∧ c ≤ 238) ∨ (243 ≤ c ∧ c ≤ 243) ∨ (247 ≤ c ∧ c ≤ 249) ∨ (251 ≤ c ∧ c ≤ 251) ∨ (253 ≤ c ∧ c ≤ 254)); omega)
      rw [yes h1, h1]
      exact rof_w _ _ _ _ _ _ _ _ m0 m1 m2 (fun w => hit_ways c hW w) w
    have h1 : isOp c = false := by rw [show isOp c = _ from hS]; exact decide_eq_false (by show ¬ (((1 ≤ c ∧ c ≤ 11) ∨ (16 ≤ c ∧ c ≤ 30) ∨ (32 ≤ c ∧ c ≤ 32)) ∨ ((48 ≤ c ∧ c ≤ 55) ∨ (58 ≤ c ∧ c ≤ 58) ∨ (61 ≤ c ∧ c ≤ 62) ∨ (64 ≤ c ∧ c ≤ 74)) ∨ ((80 ≤ c ∧ c ≤ 85) ∨ (89 ≤ c ∧ c ≤ 89) ∨ (91 ≤ c ∧ c ≤ 164)) ∨ ((0 ≤ c ∧ c ≤ 0) ∨ (208 ≤ c ∧ c ≤ 211) ∨ (224 ≤ c ∧ c ≤ 232) ∨ (236 ≤ c ∧ c ≤ 236) ∨ (238 ≤ c ∧ c ≤ 238) ∨ (243 ≤ c ∧ c ≤ 243) ∨ (247 ≤ c ∧ c ≤ 249) ∨ (251 ≤ c ∧ c ≤ 251) ∨ (253 ≤ c ∧ c ≤ 254))); omega)
    rw [no h1, h1]
    exact rof_no _ m0 m1 m2 (fun w => ways_no (c : Int) (by omega) w) w
  · have e : opB C = false := by unfold opB; rw [decide_eq_false hC]; rfl
    have e2 : opV C = opz := by unfold opV; rw [e, if_neg (by decide)]
    rw [e, e2]
    exact rof_no C (fun w => numbers_no C (by omega) w) (fun w => around_no C (by omega) w) (fun w => kept_no C (by omega) w) (fun w => ways_no C (by omega) w) w
end Go.Proofs.YtcjmbpchdeapiaaDoor
