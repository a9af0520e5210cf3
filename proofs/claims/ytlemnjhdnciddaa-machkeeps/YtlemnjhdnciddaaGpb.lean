/- Each call of either memory, as a step of a pair. -/
import Derived.Test.YtlemnjhdnciddaaGpa
namespace Go.Proofs.Ytlemnjhdnciddaa
open Go.RowKit
theorem LM.growM {W0 W : World} {sb ob b c : Nat} {S0 : Nat → Prop} {n m mB : Nat} {u v t : Nat → Nat} {kd N M P : Int} {X Y : W4} {vB : Value} (h : LM W0 W sb ob b c S0 n u m v kd N M P X Y vB mB t) (i : Int) : Calls Try.prog 20 #[.pointer (some ⟨b, 0, none⟩), .int .i64 i] W fun e w' => e = .returned (.int .i64 (grE i)) ∧ LM W0 w' sb ob b c S0 (grN n i) (grU u n) m v kd N M P X Y vB mB t := by
  obtain ⟨Bx, x, cx, hM, hu, k⟩ := h.callM
  refine (grow_is W b Bx x n cx u hM i).mono ?_
  rintro e w' ⟨rfl, x', cx', a1, a2, a3⟩
  exact ⟨rfl, k _ _ _ _ _ a1 a2 a3 (grU_lt hu n)⟩
theorem LM.growR {W0 W : World} {sb ob b c : Nat} {S0 : Nat → Prop} {n m mB : Nat} {u v t : Nat → Nat} {kd N M P : Int} {X Y : W4} {vB : Value} (h : LM W0 W sb ob b c S0 n u m v kd N M P X Y vB mB t) (i : Int) : Calls Try.prog 38 #[.pointer (some ⟨c, 0, none⟩), .int .i64 i] W fun e w' => e = .returned (.int .i64 (grE i)) ∧ LM W0 w' sb ob b c S0 n u (grN m i) (grU v m) kd N M P X Y vB mB t := by
  obtain ⟨Bx, x, cx, hM, hu, k⟩ := h.callR
  refine (growR_is W c Bx x m cx v hM i).mono ?_
  rintro e w' ⟨rfl, x', cx', a1, a2, a3⟩
  exact ⟨rfl, k _ _ _ _ _ a1 a2 a3 (grU_lt hu m)⟩
theorem LM.storeM {W0 W : World} {sb ob b c : Nat} {S0 : Nat → Prop} {n m mB : Nat} {u v t : Nat → Nat} {kd N M P : Int} {X Y : W4} {vB : Value} (h : LM W0 W sb ob b c S0 n u m v kd N M P X Y vB mB t) (i : Int) (hi : i ≤ 9223372036854775807) (z : W4) (hz : IsW (V z.a z.b z.c z.d) z.a z.b z.c z.d) : Calls Try.prog 22 #[.pointer (some ⟨b, 0, none⟩), .int .i64 i, z.v] W fun e w' => e = .returned (.int .i64 (lk n i 32)) ∧ LM W0 w' sb ob b c S0 n (if lk n i 32 = 0 then ins u i.toNat (bN z) 32 else u) m v kd N M P X Y vB mB t := by
  obtain ⟨Bx, x, cx, hM, hu, k⟩ := h.callM
  refine (store_is W b Bx x n cx u hM i hi z hz).mono ?_
  rintro e w' ⟨rfl, a1, a2⟩
  exact ⟨rfl, k _ _ _ _ _ a1 a2 (Or.inl rfl) (ite_lt (ins_lt hu (bN_lt z) _ _) hu)⟩
theorem LM.storeR {W0 W : World} {sb ob b c : Nat} {S0 : Nat → Prop} {n m mB : Nat} {u v t : Nat → Nat} {kd N M P : Int} {X Y : W4} {vB : Value} (h : LM W0 W sb ob b c S0 n u m v kd N M P X Y vB mB t) (i : Int) (hi : i ≤ 9223372036854775807) (z : W4) (hz : IsW (V z.a z.b z.c z.d) z.a z.b z.c z.d) : Calls Try.prog 40 #[.pointer (some ⟨c, 0, none⟩), .int .i64 i, z.v] W fun e w' => e = .returned (.int .i64 (lk m i 32)) ∧ LM W0 w' sb ob b c S0 n u m (if lk m i 32 = 0 then ins v i.toNat (bN z) 32 else v) kd N M P X Y vB mB t := by
  obtain ⟨Bx, x, cx, hM, hu, k⟩ := h.callR
  refine (storeR_is W c Bx x m cx v hM i hi z hz).mono ?_
  rintro e w' ⟨rfl, a1, a2⟩
  exact ⟨rfl, k _ _ _ _ _ a1 a2 (Or.inl rfl) (ite_lt (ins_lt hu (bN_lt z) _ _) hu)⟩
theorem LM.store8M {W0 W : World} {sb ob b c : Nat} {S0 : Nat → Prop} {n m mB : Nat} {u v t : Nat → Nat} {kd N M P : Int} {X Y : W4} {vB : Value} (h : LM W0 W sb ob b c S0 n u m v kd N M P X Y vB mB t) (i : Int) (hi : i ≤ 9223372036854775807) (z : Nat) (hz : z < 256) : Calls Try.prog 23 #[.pointer (some ⟨b, 0, none⟩), .int .i64 i, .int .u8 (z : Int)] W fun e w' => e = .returned (.int .i64 (lk n i 1)) ∧ LM W0 w' sb ob b c S0 n (if lk n i 1 = 0 then ins u i.toNat (fun _ => z) 1 else u) m v kd N M P X Y vB mB t := by
  obtain ⟨Bx, x, cx, hM, hu, k⟩ := h.callM
  refine (store8_is W b Bx x n cx u hM i hi z).mono ?_
  rintro e w' ⟨rfl, a1, a2⟩
  exact ⟨rfl, k _ _ _ _ _ a1 a2 (Or.inl rfl) (ite_lt (ins_lt hu (fun _ => hz) _ _) hu)⟩
theorem LM.store8R {W0 W : World} {sb ob b c : Nat} {S0 : Nat → Prop} {n m mB : Nat} {u v t : Nat → Nat} {kd N M P : Int} {X Y : W4} {vB : Value} (h : LM W0 W sb ob b c S0 n u m v kd N M P X Y vB mB t) (i : Int) (hi : i ≤ 9223372036854775807) (z : Nat) (hz : z < 256) : Calls Try.prog 41 #[.pointer (some ⟨c, 0, none⟩), .int .i64 i, .int .u8 (z : Int)] W fun e w' => e = .returned (.int .i64 (lk m i 1)) ∧ LM W0 w' sb ob b c S0 n u m (if lk m i 1 = 0 then ins v i.toNat (fun _ => z) 1 else v) kd N M P X Y vB mB t := by
  obtain ⟨Bx, x, cx, hM, hu, k⟩ := h.callR
  refine (store8R_is W c Bx x m cx v hM i hi z).mono ?_
  rintro e w' ⟨rfl, a1, a2⟩
  exact ⟨rfl, k _ _ _ _ _ a1 a2 (Or.inl rfl) (ite_lt (ins_lt hu (fun _ => hz) _ _) hu)⟩
theorem LM.moveM {W0 W : World} {sb ob b c : Nat} {S0 : Nat → Prop} {n m mB : Nat} {u v t : Nat → Nat} {kd N M P : Int} {X Y : W4} {vB : Value} (h : LM W0 W sb ob b c S0 n u m v kd N M P X Y vB mB t) (i j k0 : Int) (hi : i ≤ 9223372036854775807) (hj : j ≤ 9223372036854775807) (hk : k0 ≤ 9223372036854775807) : Calls Try.prog 26 #[.pointer (some ⟨b, 0, none⟩), .int .i64 i, .int .i64 j, .int .i64 k0] W fun e w' => e = .returned (.int .i64 (mvE n i j k0)) ∧ LM W0 w' sb ob b c S0 n (if mvE n i j k0 = 0 then ins u i.toNat (fun l => u (j.toNat + l)) k0.toNat else u) m v kd N M P X Y vB mB t := by
  obtain ⟨Bx, x, cx, hM, hu, k⟩ := h.callM
  refine (move_is W b Bx x n cx u hM i j k0 hi hj hk).mono ?_
  rintro e w' ⟨rfl, a1, a2⟩
  exact ⟨rfl, k _ _ _ _ _ a1 a2 (Or.inl rfl) (ite_lt (ins_lt hu (fun l => hu _) _ _) hu)⟩
theorem LM.moveR {W0 W : World} {sb ob b c : Nat} {S0 : Nat → Prop} {n m mB : Nat} {u v t : Nat → Nat} {kd N M P : Int} {X Y : W4} {vB : Value} (h : LM W0 W sb ob b c S0 n u m v kd N M P X Y vB mB t) (i j k0 : Int) (hi : i ≤ 9223372036854775807) (hj : j ≤ 9223372036854775807) (hk : k0 ≤ 9223372036854775807) : Calls Try.prog 44 #[.pointer (some ⟨c, 0, none⟩), .int .i64 i, .int .i64 j, .int .i64 k0] W fun e w' => e = .returned (.int .i64 (mvE m i j k0)) ∧ LM W0 w' sb ob b c S0 n u m (if mvE m i j k0 = 0 then ins v i.toNat (fun l => v (j.toNat + l)) k0.toNat else v) kd N M P X Y vB mB t := by
  obtain ⟨Bx, x, cx, hM, hu, k⟩ := h.callR
  refine (moveR_is W c Bx x m cx v hM i j k0 hi hj hk).mono ?_
  rintro e w' ⟨rfl, a1, a2⟩
  exact ⟨rfl, k _ _ _ _ _ a1 a2 (Or.inl rfl) (ite_lt (ins_lt hu (fun l => hu _) _ _) hu)⟩
theorem LM.lenM {W0 W : World} {sb ob b c : Nat} {S0 : Nat → Prop} {n m mB : Nat} {u v t : Nat → Nat} {kd N M P : Int} {X Y : W4} {vB : Value} (h : LM W0 W sb ob b c S0 n u m v kd N M P X Y vB mB t)  : Calls Try.prog 12 #[.pointer (some ⟨b, 0, none⟩)] W fun e w' => e = .returned (.int .i64 (n : Int)) ∧ LM W0 w' sb ob b c S0 n u m v kd N M P X Y vB mB t := by
  obtain ⟨Bx, x, cx, hM, hu, k⟩ := h.callM
  refine (len_is W b Bx x n cx u hM ).mono ?_
  rintro e w' ⟨rfl, rfl⟩
  exact ⟨rfl, h⟩
theorem LM.lenR {W0 W : World} {sb ob b c : Nat} {S0 : Nat → Prop} {n m mB : Nat} {u v t : Nat → Nat} {kd N M P : Int} {X Y : W4} {vB : Value} (h : LM W0 W sb ob b c S0 n u m v kd N M P X Y vB mB t)  : Calls Try.prog 13 #[.pointer (some ⟨c, 0, none⟩)] W fun e w' => e = .returned (.int .i64 (m : Int)) ∧ LM W0 w' sb ob b c S0 n u m v kd N M P X Y vB mB t := by
  obtain ⟨Bx, x, cx, hM, hu, k⟩ := h.callR
  refine (lenR_is W c Bx x m cx v hM ).mono ?_
  rintro e w' ⟨rfl, rfl⟩
  exact ⟨rfl, h⟩
theorem LM.reachM {W0 W : World} {sb ob b c : Nat} {S0 : Nat → Prop} {n m mB : Nat} {u v t : Nat → Nat} {kd N M P : Int} {X Y : W4} {vB : Value} (h : LM W0 W sb ob b c S0 n u m v kd N M P X Y vB mB t) (z y : W4) (hz : IsW (V z.a z.b z.c z.d) z.a z.b z.c z.d) (hy : IsW (V y.a y.b y.c y.d) y.a y.b y.c y.d) (A C : Nat) (hA : V z.a z.b z.c z.d = (A : Int)) (hC : V y.a y.b y.c y.d = (C : Int)) : Calls Try.prog 29 #[.pointer (some ⟨b, 0, none⟩), z.v, y.v] W fun e w' => e = .returned (.tuple #[.int .i64 (rcN n A C : Int), .bool (rcB A C)]) ∧ LM W0 w' sb ob b c S0 n u m v kd N M P X Y vB mB t := by
  obtain ⟨Bx, x, cx, hM, hu, k⟩ := h.callM
  refine (reach_is W b Bx x n cx u hM z.a z.b z.c z.d y.a y.b y.c y.d hz hy A C hA hC).mono ?_
  rintro e w' ⟨rfl, hB⟩
  exact ⟨rfl, h.past hB⟩
theorem LM.reachR {W0 W : World} {sb ob b c : Nat} {S0 : Nat → Prop} {n m mB : Nat} {u v t : Nat → Nat} {kd N M P : Int} {X Y : W4} {vB : Value} (h : LM W0 W sb ob b c S0 n u m v kd N M P X Y vB mB t) (z y : W4) (hz : IsW (V z.a z.b z.c z.d) z.a z.b z.c z.d) (hy : IsW (V y.a y.b y.c y.d) y.a y.b y.c y.d) (A C : Nat) (hA : V z.a z.b z.c z.d = (A : Int)) (hC : V y.a y.b y.c y.d = (C : Int)) : Calls Try.prog 37 #[.pointer (some ⟨c, 0, none⟩), z.v, y.v] W fun e w' => e = .returned (.tuple #[.int .i64 (rcN m A C : Int), .bool (rcB A C)]) ∧ LM W0 w' sb ob b c S0 n u m v kd N M P X Y vB mB t := by
  obtain ⟨Bx, x, cx, hM, hu, k⟩ := h.callR
  refine (reachR_is W c Bx x m cx v hM z.a z.b z.c z.d y.a y.b y.c y.d hz hy A C hA hC).mono ?_
  rintro e w' ⟨rfl, hB⟩
  exact ⟨rfl, h.past hB⟩
theorem LM.loadM {W0 W : World} {sb ob b c : Nat} {S0 : Nat → Prop} {n m mB : Nat} {u v t : Nat → Nat} {kd N M P : Int} {X Y : W4} {vB : Value} (h : LM W0 W sb ob b c S0 n u m v kd N M P X Y vB mB t) (i : Int) (hi : i ≤ 9223372036854775807) (z : W4) (hz : LdOk n u i z) : Calls Try.prog 27 #[.pointer (some ⟨b, 0, none⟩), .int .i64 i] W fun e w' => e = .returned (.tuple #[z.v, .int .i64 (lk n i 32)]) ∧ LM W0 w' sb ob b c S0 n u m v kd N M P X Y vB mB t := by
  obtain ⟨Bx, x, cx, hM, hu, k⟩ := h.callM
  refine (load_is W b Bx x n cx u hM hu i hi z hz).mono ?_
  rintro e w' ⟨rfl, hB⟩
  exact ⟨rfl, h.past hB⟩
theorem LM.loadR {W0 W : World} {sb ob b c : Nat} {S0 : Nat → Prop} {n m mB : Nat} {u v t : Nat → Nat} {kd N M P : Int} {X Y : W4} {vB : Value} (h : LM W0 W sb ob b c S0 n u m v kd N M P X Y vB mB t) (i : Int) (hi : i ≤ 9223372036854775807) (z : W4) (hz : LdOk m v i z) : Calls Try.prog 39 #[.pointer (some ⟨c, 0, none⟩), .int .i64 i] W fun e w' => e = .returned (.tuple #[z.v, .int .i64 (lk m i 32)]) ∧ LM W0 w' sb ob b c S0 n u m v kd N M P X Y vB mB t := by
  obtain ⟨Bx, x, cx, hM, hu, k⟩ := h.callR
  refine (loadR_is W c Bx x m cx v hM hu i hi z hz).mono ?_
  rintro e w' ⟨rfl, hB⟩
  exact ⟨rfl, h.past hB⟩
end Go.Proofs.Ytlemnjhdnciddaa
