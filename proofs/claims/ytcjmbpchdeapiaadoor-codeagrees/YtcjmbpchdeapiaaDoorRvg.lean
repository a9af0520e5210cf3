/- The document's Of. -/
import Derived.Test.YtcjmbpchdeapiaaDoorRvc
import Derived.Test.YtcjmbpchdeapiaaDoorRvd
import Derived.Test.YtcjmbpchdeapiaaDoorRve
import Derived.Test.YtcjmbpchdeapiaaDoorRvf
namespace Go.Proofs.YtcjmbpchdeapiaaDoor
open Go.RowKit
set_option maxRecDepth 100000
/-- what a part of the table answers of a code that it has -/
def Hit (f : FuncId) (C c : Int) (s : ByteArray) (i j k g : Int) (e : Bool) : Prop := ∀ w : World, Calls Tryd.prog f #[.int .i64 C] w fun r w' => r = .returned (.tuple #[.agg #[.int .i64 c, .string s, .int .i64 i, .int .i64 j, .int .i64 k, .int .i64 g, .bool e], .bool true]) ∧ ∃ m, w' = ((w.alloc (.cells #[.int .i64 c, .string s, .int .i64 i, .int .i64 j, .int .i64 k, .int .i64 g, .bool e] 56)).alloc (.cells #[.int .i64 c, .string s, .int .i64 i, .int .i64 j, .int .i64 k, .int .i64 g, .bool e] 56)).drewN m
def Miss (f : FuncId) (C : Int) : Prop := ∀ w : World, Calls Tryd.prog f #[.int .i64 C] w fun r w' => r = .returned (.tuple #[.agg #[.int .i64 0, .string ⟨#[]⟩, .int .i64 0, .int .i64 0, .int .i64 0, .int .i64 0, .bool false], .bool false]) ∧ w' = w.alloc (.cells #[.int .i64 0, .string ⟨#[]⟩, .int .i64 0, .int .i64 0, .int .i64 0, .int .i64 0, .bool false] 56)
set_option maxHeartbeats 2000000 in
theorem rof_n (C c : Int) (s : ByteArray) (i j k g : Int) (e : Bool) (h : Hit 35 C c s i j k g e) (w : World) : Calls Tryd.prog 26 #[.int .i64 C] w fun r w' => r = .returned (.tuple #[.agg #[.int .i64 c, .string s, .int .i64 i, .int .i64 j, .int .i64 k, .int .i64 g, .bool e], .bool true]) ∧ Below w.heap.size w w' := by
  have hd : ∀ (W : World) (o : Obj) (m : Nat), (W.drewN m).alloc o = (W.alloc o).drewN m := fun _ _ _ => rfl
  have hd2 : ∀ (W : World) (a : Addr) (v : Value) (m : Nat), (W.drewN m).setCell a v = (W.setCell a v).drewN m := fun W a v m => by first | rfl | (unfold World.setCell; split <;> rfl)
  go_enter Tryd.func26, Tryd.ntmps26
  go_wp2_with (go_at_call 35; refine (h _).mono ?_; rintro r w1 ⟨rfl, m, hw⟩; rw [hw]; clear hw)
  refine ⟨rfl, _, (results_cell_tmp rfl _ _ _).trans ?_, rfl, ?_⟩
  · go_simp
  · repeat' (first | with_reducible exact Below.refl _ _ | with_reducible exact Below.refl _ _ | with_reducible refine Below.drew ?_ | with_reducible refine bdrewN ?_ _ | with_reducible refine Below.alloc ?_ ?_ _ | with_reducible refine Below.setCell ?_ ?_ _ | omega | (simp; done) | (simp; omega))
set_option maxHeartbeats 2000000 in
theorem rof_a (C c : Int) (s : ByteArray) (i j k g : Int) (e : Bool) (h0 : Miss 35 C) (h : Hit 36 C c s i j k g e) (hs : (s.toList == [45]) = false) (w : World) : Calls Tryd.prog 26 #[.int .i64 C] w fun r w' => r = .returned (.tuple #[.agg #[.int .i64 c, .string s, .int .i64 i, .int .i64 j, .int .i64 k, .int .i64 g, .bool e], .bool true]) ∧ Below w.heap.size w w' := by
  have hd : ∀ (W : World) (o : Obj) (m : Nat), (W.drewN m).alloc o = (W.alloc o).drewN m := fun _ _ _ => rfl
  have hd2 : ∀ (W : World) (a : Addr) (v : Value) (m : Nat), (W.drewN m).setCell a v = (W.setCell a v).drewN m := fun W a v m => by first | rfl | (unfold World.setCell; split <;> rfl)
  go_enter Tryd.func26, Tryd.ntmps26
  go_wp2_with (first
    | (go_at_call 35; refine (h0 _).mono ?_; rintro r w1 ⟨rfl, hw⟩; rw [hw]; clear hw)
    | (go_at_call 36; refine (h _).mono ?_; rintro r w2 ⟨rfl, m, hw⟩; rw [hw]; clear hw))
  refine ⟨rfl, _, (results_cell_tmp rfl _ _ _).trans ?_, rfl, ?_⟩
  · go_simp
  · repeat' (first | with_reducible exact Below.refl _ _ | with_reducible exact Below.refl _ _ | with_reducible refine Below.drew ?_ | with_reducible refine bdrewN ?_ _ | with_reducible refine Below.alloc ?_ ?_ _ | with_reducible refine Below.setCell ?_ ?_ _ | omega | (simp; done) | (simp; omega))
set_option maxHeartbeats 2000000 in
theorem rof_k (C c : Int) (s : ByteArray) (i j k g : Int) (e : Bool) (h0 : Miss 35 C) (h1 : Miss 36 C) (h : Hit 37 C c s i j k g e) (w : World) : Calls Tryd.prog 26 #[.int .i64 C] w fun r w' => r = .returned (.tuple #[.agg #[.int .i64 c, .string s, .int .i64 i, .int .i64 j, .int .i64 k, .int .i64 g, .bool e], .bool true]) ∧ Below w.heap.size w w' := by
  have hd : ∀ (W : World) (o : Obj) (m : Nat), (W.drewN m).alloc o = (W.alloc o).drewN m := fun _ _ _ => rfl
  have hd2 : ∀ (W : World) (a : Addr) (v : Value) (m : Nat), (W.drewN m).setCell a v = (W.setCell a v).drewN m := fun W a v m => by first | rfl | (unfold World.setCell; split <;> rfl)
  go_enter Tryd.func26, Tryd.ntmps26
  go_wp2_with (first
    | (go_at_call 35; refine (h0 _).mono ?_; rintro r w1 ⟨rfl, hw⟩; rw [hw]; clear hw)
    | (go_at_call 36; refine (h1 _).mono ?_; rintro r w2 ⟨rfl, hw⟩; rw [hw]; clear hw)
    | (go_at_call 37; refine (h _).mono ?_; rintro r w3 ⟨rfl, m, hw⟩; rw [hw]; clear hw))
  refine ⟨rfl, _, (results_cell_tmp rfl _ _ _).trans ?_, rfl, ?_⟩
  · go_simp
  · repeat' (first | with_reducible exact Below.refl _ _ | with_reducible exact Below.refl _ _ | with_reducible refine Below.drew ?_ | with_reducible refine bdrewN ?_ _ | with_reducible refine Below.alloc ?_ ?_ _ | with_reducible refine Below.setCell ?_ ?_ _ | omega | (simp; done) | (simp; omega))
set_option maxHeartbeats 2000000 in
theorem rof_w (C c : Int) (s : ByteArray) (i j k g : Int) (e : Bool) (h0 : Miss 35 C) (h1 : Miss 36 C) (h2 : Miss 37 C) (h : Hit 38 C c s i j k g e) (w : World) : Calls Tryd.prog 26 #[.int .i64 C] w fun r w' => r = .returned (.tuple #[.agg #[.int .i64 c, .string s, .int .i64 i, .int .i64 j, .int .i64 k, .int .i64 g, .bool e], .bool true]) ∧ Below w.heap.size w w' := by
  have hd : ∀ (W : World) (o : Obj) (m : Nat), (W.drewN m).alloc o = (W.alloc o).drewN m := fun _ _ _ => rfl
  have hd2 : ∀ (W : World) (a : Addr) (v : Value) (m : Nat), (W.drewN m).setCell a v = (W.setCell a v).drewN m := fun W a v m => by first | rfl | (unfold World.setCell; split <;> rfl)
  go_enter Tryd.func26, Tryd.ntmps26
  go_wp2_with (first
    | (go_at_call 35; refine (h0 _).mono ?_; rintro r w1 ⟨rfl, hw⟩; rw [hw]; clear hw)
    | (go_at_call 36; refine (h1 _).mono ?_; rintro r w2 ⟨rfl, hw⟩; rw [hw]; clear hw)
    | (go_at_call 37; refine (h2 _).mono ?_; rintro r w3 ⟨rfl, hw⟩; rw [hw]; clear hw)
    | (go_at_call 38; refine (h _).mono ?_; rintro r w4 ⟨rfl, m, hw⟩; rw [hw]; clear hw))
  refine ⟨rfl, _, (results_cell_tmp rfl _ _ _).trans ?_, rfl, ?_⟩
  · go_simp
  · repeat' (first | with_reducible exact Below.refl _ _ | with_reducible exact Below.refl _ _ | with_reducible refine Below.drew ?_ | with_reducible refine bdrewN ?_ _ | with_reducible refine Below.alloc ?_ ?_ _ | with_reducible refine Below.setCell ?_ ?_ _ | omega | (simp; done) | (simp; omega))
set_option maxHeartbeats 2000000 in
theorem rof_no (C : Int) (h0 : Miss 35 C) (h1 : Miss 36 C) (h2 : Miss 37 C) (h : Miss 38 C) (w : World) : Calls Tryd.prog 26 #[.int .i64 C] w fun r w' => r = .returned (.tuple #[opz, .bool false]) ∧ Below w.heap.size w w' := by
  unfold opz
  have hd : ∀ (W : World) (o : Obj) (m : Nat), (W.drewN m).alloc o = (W.alloc o).drewN m := fun _ _ _ => rfl
  have hd2 : ∀ (W : World) (a : Addr) (v : Value) (m : Nat), (W.drewN m).setCell a v = (W.setCell a v).drewN m := fun W a v m => by first | rfl | (unfold World.setCell; split <;> rfl)
  go_enter Tryd.func26, Tryd.ntmps26
  go_wp2_with (first
    | (go_at_call 35; refine (h0 _).mono ?_; rintro r w1 ⟨rfl, hw⟩; rw [hw]; clear hw)
    | (go_at_call 36; refine (h1 _).mono ?_; rintro r w2 ⟨rfl, hw⟩; rw [hw]; clear hw)
    | (go_at_call 37; refine (h2 _).mono ?_; rintro r w3 ⟨rfl, hw⟩; rw [hw]; clear hw)
    | (go_at_call 38; refine (h _).mono ?_; rintro r w4 ⟨rfl, hw⟩; rw [hw]; clear hw))
  refine ⟨rfl, _, (results_cell_tmp rfl _ _ _).trans ?_, rfl, ?_⟩
  · go_simp
  · repeat' (first | with_reducible exact Below.refl _ _ | with_reducible exact Below.refl _ _ | with_reducible refine Below.drew ?_ | with_reducible refine bdrewN ?_ _ | with_reducible refine Below.alloc ?_ ?_ _ | with_reducible refine Below.setCell ?_ ?_ _ | omega | (simp; done) | (simp; omega))
end Go.Proofs.YtcjmbpchdeapiaaDoor
