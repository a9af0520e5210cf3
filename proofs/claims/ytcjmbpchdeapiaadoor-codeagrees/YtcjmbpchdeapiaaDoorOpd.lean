/- Names out of the tables; op.Of. -/
import Derived.Test.YtcjmbpchdeapiaaDoorOpb
import Derived.Test.YtcjmbpchdeapiaaDoorOpc
namespace Go.Proofs.YtcjmbpchdeapiaaDoor
open Go.RowKit
/-- the variable that holds the names of sixteen codes -/
def tabOf (k : Nat) : Option Nat := match k with
  | 0 => some 0
  | 1 => some 1
  | 3 => some 2
  | 4 => some 3
  | 5 => some 4
  | 13 => some 5
  | 14 => some 6
  | 15 => some 7
  | _ => none
/-- the tables of names lie as they were laid -/
def Nms (W : World) : Prop := ∀ k g, tabOf k = some g → ∀ i, i < 16 → W.cell? ⟨g, i, none⟩ = some (.string (nameT (16 * k + i)))
theorem and15 : ∀ c : Fin 256, bits BinOp.and IntKind.i64 (c.val : Int) 15 = ((c.val % 16 : Nat) : Int) := by decide +kernel
set_option maxHeartbeats 1000000 in
theorem plain_0 (C : Int) (i : Nat) (hi : i < 16) (s : ByteArray) (hd : C / 16 = 0) (hb : bits BinOp.and IntKind.i64 C 15 = (i : Int)) (w : World) (hc : w.cell? ⟨0, i, none⟩ = some (.string s)) : Calls Tryd.prog 55 #[.int .i64 C] w fun e w' => e = .returned (.string s) ∧ w' = w := by
  have hi2 : (i : Int) < 16 := by omega
  go_enter Tryd.func55, Tryd.ntmps55
  go_wp2
  go_ret
  exact ⟨rfl, rfl⟩
set_option maxHeartbeats 1000000 in
theorem plain_1 (C : Int) (i : Nat) (hi : i < 16) (s : ByteArray) (hd : C / 16 = 1) (hb : bits BinOp.and IntKind.i64 C 15 = (i : Int)) (w : World) (hc : w.cell? ⟨1, i, none⟩ = some (.string s)) : Calls Tryd.prog 55 #[.int .i64 C] w fun e w' => e = .returned (.string s) ∧ w' = w := by
  have hi2 : (i : Int) < 16 := by omega
  go_enter Tryd.func55, Tryd.ntmps55
  go_wp2
  go_ret
  exact ⟨rfl, rfl⟩
set_option maxHeartbeats 1000000 in
theorem plain_3 (C : Int) (i : Nat) (hi : i < 16) (s : ByteArray) (hd : C / 16 = 3) (hb : bits BinOp.and IntKind.i64 C 15 = (i : Int)) (w : World) (hc : w.cell? ⟨2, i, none⟩ = some (.string s)) : Calls Tryd.prog 55 #[.int .i64 C] w fun e w' => e = .returned (.string s) ∧ w' = w := by
  have hi2 : (i : Int) < 16 := by omega
  go_enter Tryd.func55, Tryd.ntmps55
  go_wp2
  go_ret
  exact ⟨rfl, rfl⟩
set_option maxHeartbeats 1000000 in
theorem plain_4 (C : Int) (i : Nat) (hi : i < 16) (s : ByteArray) (hd : C / 16 = 4) (hb : bits BinOp.and IntKind.i64 C 15 = (i : Int)) (w : World) (hc : w.cell? ⟨3, i, none⟩ = some (.string s)) : Calls Tryd.prog 55 #[.int .i64 C] w fun e w' => e = .returned (.string s) ∧ w' = w := by
  have hi2 : (i : Int) < 16 := by omega
  go_enter Tryd.func55, Tryd.ntmps55
  go_wp2
  go_ret
  exact ⟨rfl, rfl⟩
set_option maxHeartbeats 1000000 in
theorem plain_5 (C : Int) (i : Nat) (hi : i < 16) (s : ByteArray) (hd : C / 16 = 5) (hb : bits BinOp.and IntKind.i64 C 15 = (i : Int)) (w : World) (hc : w.cell? ⟨4, i, none⟩ = some (.string s)) : Calls Tryd.prog 55 #[.int .i64 C] w fun e w' => e = .returned (.string s) ∧ w' = w := by
  have hi2 : (i : Int) < 16 := by omega
  go_enter Tryd.func55, Tryd.ntmps55
  go_wp2
  go_ret
  exact ⟨rfl, rfl⟩
set_option maxHeartbeats 1000000 in
theorem plain_13 (C : Int) (i : Nat) (hi : i < 16) (s : ByteArray) (hd : C / 16 = 13) (hb : bits BinOp.and IntKind.i64 C 15 = (i : Int)) (w : World) (hc : w.cell? ⟨5, i, none⟩ = some (.string s)) : Calls Tryd.prog 55 #[.int .i64 C] w fun e w' => e = .returned (.string s) ∧ w' = w := by
  have hi2 : (i : Int) < 16 := by omega
  go_enter Tryd.func55, Tryd.ntmps55
  go_wp2
  go_ret
  exact ⟨rfl, rfl⟩
set_option maxHeartbeats 1000000 in
theorem plain_14 (C : Int) (i : Nat) (hi : i < 16) (s : ByteArray) (hd : C / 16 = 14) (hb : bits BinOp.and IntKind.i64 C 15 = (i : Int)) (w : World) (hc : w.cell? ⟨6, i, none⟩ = some (.string s)) : Calls Tryd.prog 55 #[.int .i64 C] w fun e w' => e = .returned (.string s) ∧ w' = w := by
  have hi2 : (i : Int) < 16 := by omega
  go_enter Tryd.func55, Tryd.ntmps55
  go_wp2
  go_ret
  exact ⟨rfl, rfl⟩
set_option maxHeartbeats 1000000 in
theorem plain_15 (C : Int) (i : Nat) (hi : i < 16) (s : ByteArray) (hd : C / 16 = 15) (hb : bits BinOp.and IntKind.i64 C 15 = (i : Int)) (w : World) (hc : w.cell? ⟨7, i, none⟩ = some (.string s)) : Calls Tryd.prog 55 #[.int .i64 C] w fun e w' => e = .returned (.string s) ∧ w' = w := by
  have hi2 : (i : Int) < 16 := by omega
  go_enter Tryd.func55, Tryd.ntmps55
  go_wp2
  go_ret
  exact ⟨rfl, rfl⟩
set_option maxHeartbeats 1000000 in
theorem plain_none (C K : Int) (hd : C / 16 = K) (hK : K ≠ 0 ∧ K ≠ 1 ∧ K ≠ 3 ∧ K ≠ 4 ∧ K ≠ 5 ∧ K ≠ 13 ∧ K ≠ 14 ∧ K ≠ 15) (w : World) : Calls Tryd.prog 55 #[.int .i64 C] w fun e w' => e = .returned (.string ⟨#[]⟩) ∧ w' = w := by
  obtain ⟨k0, k1, k3, k4, k5, kD, kE, kF⟩ := hK
  go_enter Tryd.func55, Tryd.ntmps55
  go_wp2
  go_ret
  exact ⟨rfl, rfl⟩
end Go.Proofs.YtcjmbpchdeapiaaDoor
