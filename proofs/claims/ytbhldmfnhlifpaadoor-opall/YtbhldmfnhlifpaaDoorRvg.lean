/- The document's Of. -/
import Derived.Test.YtbhldmfnhlifpaaDoorRvc
import Derived.Test.YtbhldmfnhlifpaaDoorRvd
import Derived.Test.YtbhldmfnhlifpaaDoorRve
import Derived.Test.YtbhldmfnhlifpaaDoorRvf
namespace Go.Proofs.YtbhldmfnhlifpaaDoor
open Go.RowKit
set_option maxRecDepth 100000
/-- what a part of the table answers of a code that it has -/
def Hit (f : FuncId) (C c : Int) (s : ByteArray) (i j k g : Int) (e : Bool) : Prop := ∀ w : World, Calls Tryd.prog f #[.int .i64 C] w fun r w' => r = .returned (.tuple #[.agg #[.int .i64 c, .string s, .int .i64 i, .int .i64 j, .int .i64 k, .int .i64 g, .bool e], .bool true]) ∧ ∃ m, w' = ((w.alloc (.cells #[.int .i64 c, .string s, .int .i64 i, .int .i64 j, .int .i64 k, .int .i64 g, .bool e] 55)).alloc (.cells #[.int .i64 c, .string s, .int .i64 i, .int .i64 j, .int .i64 k, .int .i64 g, .bool e] 55)).drewN m
def Miss (f : FuncId) (C : Int) : Prop := ∀ w : World, Calls Tryd.prog f #[.int .i64 C] w fun r w' => r = .returned (.tuple #[.agg #[.int .i64 0, .string ⟨#[]⟩, .int .i64 0, .int .i64 0, .int .i64 0, .int .i64 0, .bool false], .bool false]) ∧ w' = w.alloc (.cells #[.int .i64 0, .string ⟨#[]⟩, .int .i64 0, .int .i64 0, .int .i64 0, .int .i64 0, .bool false] 55)
set_option maxHeartbeats 2000000 in
theorem rof_n (C c : Int) (s : ByteArray) (i j k g : Int) (e : Bool) (h : Hit 104 C c s i j k g e) (w : World) : Calls Tryd.prog 70 #[.int .i64 C] w fun r w' => r = .returned (.tuple #[.agg #[.int .i64 c, .string s, .int .i64 i, .int .i64 j, .int .i64 k, .int .i64 g, .bool e], .bool true]) ∧ Below w.heap.size w w' := by
  have hd : ∀ (W : World) (o : Obj) (m : Nat), (W.drewN m).alloc o = (W.alloc o).drewN m := fun _ _ _ => rfl
  have hd2 : ∀ (W : World) (a : Addr) (v : Value) (m : Nat), (W.drewN m).setCell a v = (W.setCell a v).drewN m := fun W a v m => by first | rfl | (unfold World.setCell; split <;> rfl)
  go_enter Tryd.func70, Tryd.ntmps70
  go_wp2_with (go_at_call 104; refine (h _).mono ?_; rintro r w1 ⟨rfl, m, hw⟩; rw [hw]; clear hw)
  refine ⟨rfl, _, (results_cell_tmp rfl _ _ _).trans ?_, rfl, ?_⟩
  · go_simp
  · repeat' (first | with_reducible exact Below.refl _ _ | with_reducible exact Below.refl _ _ | with_reducible refine Below.drew ?_ | with_reducible refine bdrewN ?_ _ | with_reducible refine Below.alloc ?_ ?_ _ | with_reducible refine Below.setCell ?_ ?_ _ | omega | (simp; done) | (simp; omega))
set_option maxHeartbeats 2000000 in
theorem rof_a (C c : Int) (s : ByteArray) (i j k g : Int) (e : Bool) (h0 : Miss 104 C) (h : Hit 105 C c s i j k g e) (hs : (s.toList == [45]) = false) (w : World) : Calls Tryd.prog 70 #[.int .i64 C] w fun r w' => r = .returned (.tuple #[.agg #[.int .i64 c, .string s, .int .i64 i, .int .i64 j, .int .i64 k, .int .i64 g, .bool e], .bool true]) ∧ Below w.heap.size w w' := by
  have hd : ∀ (W : World) (o : Obj) (m : Nat), (W.drewN m).alloc o = (W.alloc o).drewN m := fun _ _ _ => rfl
  have hd2 : ∀ (W : World) (a : Addr) (v : Value) (m : Nat), (W.drewN m).setCell a v = (W.setCell a v).drewN m := fun W a v m => by first | rfl | (unfold World.setCell; split <;> rfl)
  go_enter Tryd.func70, Tryd.ntmps70
  go_wp2_with (first
    | (go_at_call 104; refine (h0 _).mono ?_; rintro r w1 ⟨rfl, hw⟩; rw [hw]; clear hw)
    | (go_at_call 105; refine (h _).mono ?_; rintro r w2 ⟨rfl, m, hw⟩; rw [hw]; clear hw))
  refine ⟨rfl, _, (results_cell_tmp rfl _ _ _).trans ?_, rfl, ?_⟩
  · go_simp
  · repeat' (first | with_reducible exact Below.refl _ _ | with_reducible exact Below.refl _ _ | with_reducible refine Below.drew ?_ | with_reducible refine bdrewN ?_ _ | with_reducible refine Below.alloc ?_ ?_ _ | with_reducible refine Below.setCell ?_ ?_ _ | omega | (simp; done) | (simp; omega))
set_option maxHeartbeats 2000000 in
theorem rof_k (C c : Int) (s : ByteArray) (i j k g : Int) (e : Bool) (h0 : Miss 104 C) (h1 : Miss 105 C) (h : Hit 106 C c s i j k g e) (w : World) : Calls Tryd.prog 70 #[.int .i64 C] w fun r w' => r = .returned (.tuple #[.agg #[.int .i64 c, .string s, .int .i64 i, .int .i64 j, .int .i64 k, .int .i64 g, .bool e], .bool true]) ∧ Below w.heap.size w w' := by
  have hd : ∀ (W : World) (o : Obj) (m : Nat), (W.drewN m).alloc o = (W.alloc o).drewN m := fun _ _ _ => rfl
  have hd2 : ∀ (W : World) (a : Addr) (v : Value) (m : Nat), (W.drewN m).setCell a v = (W.setCell a v).drewN m := fun W a v m => by first | rfl | (unfold World.setCell; split <;> rfl)
  go_enter Tryd.func70, Tryd.ntmps70
  go_wp2_with (first
    | (go_at_call 104; refine (h0 _).mono ?_; rintro r w1 ⟨rfl, hw⟩; rw [hw]; clear hw)
    | (go_at_call 105; refine (h1 _).mono ?_; rintro r w2 ⟨rfl, hw⟩; rw [hw]; clear hw)
    | (go_at_call 106; refine (h _).mono ?_; rintro r w3 ⟨rfl, m, hw⟩; rw [hw]; clear hw))
  refine ⟨rfl, _, (results_cell_tmp rfl _ _ _).trans ?_, rfl, ?_⟩
  · go_simp
  · repeat' (first | with_reducible exact Below.refl _ _ | with_reducible exact Below.refl _ _ | with_reducible refine Below.drew ?_ | with_reducible refine bdrewN ?_ _ | with_reducible refine Below.alloc ?_ ?_ _ | with_reducible refine Below.setCell ?_ ?_ _ | omega | (simp; done) | (simp; omega))
set_option maxHeartbeats 2000000 in
theorem rof_w (C c : Int) (s : ByteArray) (i j k g : Int) (e : Bool) (h0 : Miss 104 C) (h1 : Miss 105 C) (h2 : Miss 106 C) (h : Hit 107 C c s i j k g e) (w : World) : Calls Tryd.prog 70 #[.int .i64 C] w fun r w' => r = .returned (.tuple #[.agg #[.int .i64 c, .string s, .int .i64 i, .int .i64 j, .int .i64 k, .int .i64 g, .bool e], .bool true]) ∧ Below w.heap.size w w' := by
  have hd : ∀ (W : World) (o : Obj) (m : Nat), (W.drewN m).alloc o = (W.alloc o).drewN m := fun _ _ _ => rfl
  have hd2 : ∀ (W : World) (a : Addr) (v : Value) (m : Nat), (W.drewN m).setCell a v = (W.setCell a v).drewN m := fun W a v m => by first | rfl | (unfold World.setCell; split <;> rfl)
  go_enter Tryd.func70, Tryd.ntmps70
  go_wp2_with (first
    | (go_at_call 104; refine (h0 _).mono ?_; rintro r w1 ⟨rfl, hw⟩; rw [hw]; clear hw)
    | (go_at_call 105; refine (h1 _).mono ?_; rintro r w2 ⟨rfl, hw⟩; rw [hw]; clear hw)
    | (go_at_call 106; refine (h2 _).mono ?_; rintro r w3 ⟨rfl, hw⟩; rw [hw]; clear hw)
    | (go_at_call 107; refine (h _).mono ?_; rintro r w4 ⟨rfl, m, hw⟩; rw [hw]; clear hw))
  refine ⟨rfl, _, (results_cell_tmp rfl _ _ _).trans ?_, rfl, ?_⟩
  · go_simp
  · repeat' (first | with_reducible exact Below.refl _ _ | with_reducible exact Below.refl _ _ | with_reducible refine Below.drew ?_ | with_reducible refine bdrewN ?_ _ | with_reducible refine Below.alloc ?_ ?_ _ | with_reducible refine Below.setCell ?_ ?_ _ | omega | (simp; done) | (simp; omega))
set_option maxHeartbeats 2000000 in
theorem rof_no (C : Int) (h0 : Miss 104 C) (h1 : Miss 105 C) (h2 : Miss 106 C) (h : Miss 107 C) (w : World) : Calls Tryd.prog 70 #[.int .i64 C] w fun r w' => r = .returned (.tuple #[opz, .bool false]) ∧ Below w.heap.size w w' := by
  unfold opz
  have hd : ∀ (W : World) (o : Obj) (m : Nat), (W.drewN m).alloc o = (W.alloc o).drewN m := fun _ _ _ => rfl
  have hd2 : ∀ (W : World) (a : Addr) (v : Value) (m : Nat), (W.drewN m).setCell a v = (W.setCell a v).drewN m := fun W a v m => by first | rfl | (unfold World.setCell; split <;> rfl)
  go_enter Tryd.func70, Tryd.ntmps70
  go_wp2_with (first
    | (go_at_call 104; refine (h0 _).mono ?_; rintro r w1 ⟨rfl, hw⟩; rw [hw]; clear hw)
    | (go_at_call 105; refine (h1 _).mono ?_; rintro r w2 ⟨rfl, hw⟩; rw [hw]; clear hw)
    | (go_at_call 106; refine (h2 _).mono ?_; rintro r w3 ⟨rfl, hw⟩; rw [hw]; clear hw)
    | (go_at_call 107; refine (h _).mono ?_; rintro r w4 ⟨rfl, hw⟩; rw [hw]; clear hw))
  refine ⟨rfl, _, (results_cell_tmp rfl _ _ _).trans ?_, rfl, ?_⟩
  · go_simp
  · repeat' (first | with_reducible exact Below.refl _ _ | with_reducible exact Below.refl _ _ | with_reducible refine Below.drew ?_ | with_reducible refine bdrewN ?_ _ | with_reducible refine Below.alloc ?_ ?_ _ | with_reducible refine Below.setCell ?_ ?_ _ | omega | (simp; done) | (simp; omega))
end Go.Proofs.YtbhldmfnhlifpaaDoor
