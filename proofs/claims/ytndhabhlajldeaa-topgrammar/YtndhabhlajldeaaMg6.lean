/- The document's containers: the header, whole. -/
import Derived.Test.YtndhabhlajldeaaMg4
namespace Go.Proofs.Ytndhabhlajldeaa
open Go.RowKit
/-- the document's lists in the midst of a header -/
structure RH (bw : Nat) (w W : World) (cv sv tv : Value) (cs ss : List Nat) (td : List (Nat × Nat)) : Prop where
  c : InO bw W cv cs
  s : InO bw W sv ss
  t : FO bw W tv td
  bel : Below bw w W
  ge : bw ≤ w.heap.size
  ap : ∀ g, OwnV cv g → ¬ OwnV sv g
section
variable {bw : Nat} {w W W' : World} {cv sv tv v' : Value} {cs ss : List Nat} {td : List (Nat × Nat)}
theorem RH.le (h : RH bw w W cv sv tv cs ss td) : bw ≤ W.heap.size := Nat.le_trans h.ge h.bel.size
theorem RH.past (h : RH bw w W cv sv tv cs ss td) (q : Below W.heap.size W W') : RH bw w W' cv sv tv cs ss td := ⟨h.c.past q, h.s.past q, h.t.past q, h.bel.trans (q.mono h.le), h.ge, h.ap⟩
end
theorem FO.get {B : Nat} {W : World} {ad : Option Addr} {n c : Nat} {l : List (Nat × Nat)} (h : FO B W (.slice ad n c) l) {i : Nat} {p : Nat × Nat} (hi : l[i]? = some p) : ∃ g, ad = some ⟨g, 0, none⟩ ∧ W.cell? ⟨g, i * 2, none⟩ = some (.int .i64 (p.1 : Int)) ∧ W.cell? ⟨g, i * 2 + 1, none⟩ = some (.int .i64 (p.2 : Int)) := by
  have hl : i < l.length := (List.getElem?_eq_some_iff.1 hi).1
  rcases id h.2 with ⟨e, e2⟩ | ⟨g, c', cur, e, hb, hh, hq, _, hz, ht⟩
  · omega
  · injection e with e1 _ _
    subst e1
    obtain ⟨k0, k1⟩ := fV_get l i p hi
    have c0 := World.ownsRow.cells h (g := g) rfl (i * 2) _ k0
    have c1 := World.ownsRow.cells h (g := g) rfl (i * 2 + 1) _ k1
    exact ⟨g, rfl, by simpa [Addr.add_mid] using c0, by simpa [Addr.add_mid] using c1⟩
end Go.Proofs.Ytndhabhlajldeaa
/- Package container: the reader's types. -/
namespace Go.Proofs.Ytndhabhlajldeaa
open Go.RowKit
set_option maxHeartbeats 4000000 in
set_option maxRecDepth 100000 in
theorem ty1_0 (V : World) (g9 h7 i x : Nat) (hx : x ≤ 65535) (c2 : V.cell? ⟨g9, 2, none⟩ = some (.func (.func 107) #[] #[])) (c0 : V.cell? ⟨h7, 0, none⟩ = some (.int .i64 (i : Int))) : Calls Try.prog 114 #[.int .u64 (x : Int), .pointer (some ⟨g9, 0, none⟩), .pointer (some ⟨h7, 0, none⟩)] V fun e V' => e = .returned (.bool (okIn i x)) ∧ V' = V := by
  have wx : IntKind.i64.wrap (x : Int) = (x : Int) := by rw [IntKind.wrap_i64]; omega
  have RT : Hid (Calls Try.prog 107 #[.int .i64 (i : Int), .int .i64 (x : Int)] V fun e w' => e = .returned (.bool (okIn i x)) ∧ w' = V) := right0_is V i x
  generalize okIn i x = r at *
  clear hx
  go_enter Try.func114, Try.ntmps114
  go_wp2_with (go_at_call 107; refine RT.out.mono ?_; rintro e w' ⟨rfl, hw⟩; (have hw2 := hw.symm); clear hw; subst hw2)
  go_ret
  exact ⟨rfl, rfl⟩
set_option maxHeartbeats 4000000 in
set_option maxRecDepth 100000 in
theorem ty1_1 (V : World) (g9 h7 i x : Nat) (hx : x ≤ 65535) (c2 : V.cell? ⟨g9, 2, none⟩ = some (.func (.func 109) #[] #[])) (c0 : V.cell? ⟨h7, 0, none⟩ = some (.int .i64 (i : Int))) : Calls Try.prog 114 #[.int .u64 (x : Int), .pointer (some ⟨g9, 0, none⟩), .pointer (some ⟨h7, 0, none⟩)] V fun e V' => e = .returned (.bool (okOut i x)) ∧ V' = V := by
  have wx : IntKind.i64.wrap (x : Int) = (x : Int) := by rw [IntKind.wrap_i64]; omega
  have RT : Hid (Calls Try.prog 109 #[.int .i64 (i : Int), .int .i64 (x : Int)] V fun e w' => e = .returned (.bool (okOut i x)) ∧ w' = V) := right1_is V i x
  generalize okOut i x = r at *
  clear hx
  go_enter Try.func114, Try.ntmps114
  go_wp2_with (go_at_call 109; refine RT.out.mono ?_; rintro e w' ⟨rfl, hw⟩; (have hw2 := hw.symm); clear hw; subst hw2)
  go_ret
  exact ⟨rfl, rfl⟩
set_option maxHeartbeats 4000000 in
set_option maxRecDepth 100000 in
theorem ty1_2 (V : World) (g9 h7 i x : Nat) (hx : x ≤ 65535) (c2 : V.cell? ⟨g9, 2, none⟩ = some (.func (.func 111) #[] #[])) (c0 : V.cell? ⟨h7, 0, none⟩ = some (.int .i64 (i : Int))) : Calls Try.prog 114 #[.int .u64 (x : Int), .pointer (some ⟨g9, 0, none⟩), .pointer (some ⟨h7, 0, none⟩)] V fun e V' => e = .returned (.bool (okMost x)) ∧ V' = V := by
  have wx : IntKind.i64.wrap (x : Int) = (x : Int) := by rw [IntKind.wrap_i64]; omega
  have RT : Hid (Calls Try.prog 111 #[.int .i64 (i : Int), .int .i64 (x : Int)] V fun e w' => e = .returned (.bool (okMost x)) ∧ w' = V) := right2_is V i x
  generalize okMost x = r at *
  clear hx
  go_enter Try.func114, Try.ntmps114
  go_wp2_with (go_at_call 111; refine RT.out.mono ?_; rintro e w' ⟨rfl, hw⟩; (have hw2 := hw.symm); clear hw; subst hw2)
  go_ret
  exact ⟨rfl, rfl⟩
theorem rd_small {b : List Nat} (hb : Byt b) (k wd : Nat) (hw : wd ≤ 2) : rd b k wd ≤ 65535 := by
  have h1 := num_lt ((b.drop k).take wd) (fun x hx => hb x (List.mem_of_mem_drop (List.mem_of_mem_take hx)))
  have h2 : ((b.drop k).take wd).length ≤ 2 := by simp; omega
  have h3 : 256 ^ ((b.drop k).take wd).length ≤ 256 ^ 2 := Nat.pow_le_pow_right (by omega) h2
  unfold rd
  have : (256 : Nat) ^ 2 = 65536 := by decide
  omega
/-- what is still to be read of a type when j of its numbers are -/
def tyR (b : List Nat) (k i : Nat) (j x y z : Nat) : Except Er Ty :=
  match j with
  | 0 => tyAt b k i
  | 1 => (fld b (k + 1) 1 59 (fun n => okOut i n)).bind fun y => (fld b (k + 2) 2 59 (fun n => okMost n)).bind fun z => .ok ((x : Int), (y : Int), (z : Int))
  | 2 => (fld b (k + 2) 2 59 (fun n => okMost n)).bind fun z => .ok ((x : Int), (y : Int), (z : Int))
  | _ => .ok ((x : Int), (y : Int), (z : Int))
/-- the type's cells when j of its numbers are laid -/
def tyC (j x y z : Nat) : List Value :=
  match j with
  | 0 => [.int .i64 0, .int .i64 0, .int .i64 0]
  | 1 => [.int .i64 (x : Int), .int .i64 0, .int .i64 0]
  | 2 => [.int .i64 (x : Int), .int .i64 (y : Int), .int .i64 0]
  | _ => [.int .i64 (x : Int), .int .i64 (y : Int), .int .i64 (z : Int)]
def tyO (j : Nat) : Nat := match j with
  | 0 => 0
  | 1 => 1
  | 2 => 2
  | _ => 4
def z0V : Value := .int .i64 0
theorem ty_cell (A B : List Value) (n j : Nat) (c : List Value) (hA : A.length = n) (v : Value) (h : c[j]? = some v) : (A ++ (c ++ B))[n + j]? = some v := by
  rw [List.getElem?_append_right (by omega), hA, Nat.add_sub_cancel_left, List.getElem?_append_left (List.getElem?_eq_some_iff.1 h).1]
  exact h
theorem ty_set (A B : List Value) (n j : Nat) (c : List Value) (hA : A.length = n) (v : Value) (hj : j < c.length) : (A ++ (c ++ B)).set (n + j) v = A ++ (c.set j v ++ B) := by
  rw [List.set_append_right _ _ (by omega), hA, Nat.add_sub_cancel_left, List.set_append_left _ _ hj]
theorem tyC_len (j x y z : Nat) : (tyC j x y z).length = 3 := by unfold tyC; split <;> rfl
/-- types that were read -/
structure TyQ (rb : Nat) (w w' : World) (bs : Value) (b : List Nat) (k : Nat) (e : Ending) (l : List Ty) : Prop where
  ex : ∃ g, e = .returned (.slice (some ⟨g, 0, none⟩) l.length l.length) ∧ CBox w' g 77 (tV l) ∧ w.heap.size ≤ g
  rd : Rdr w' rb bs b k
  but : RB rb w w'
/-- in the midst of types -/
structure TyM (rb bw g bp : Nat) (w W : World) (bs : Value) (b : List Nat) (cs : List Value) (k : Nat) : Prop where
  cg : CBox W g 77 cs
  cp : CBox W bp 109 partsL
  rd : Rdr W rb bs b k
  but : RB rb w W
  kl : k ≤ b.length
section
variable {rb bw g bp k k' : Nat} {w W W' : World} {bs : Value} {b : List Nat} {cs cs' : List Value}
theorem TyM.past (h : TyM rb bw g bp w W bs b cs k) (q : Below W.heap.size W W') : TyM rb bw g bp w W' bs b cs k := ⟨h.cg.past q, h.cp.past q, h.rd.past q, h.but.trans (below_but q), h.kl⟩
theorem TyM.read (h : TyM rb bw g bp w W bs b cs k) (hg : rb < g) (q : RB rb W W') (r : Rdr W' rb bs b k') (hk : k' ≤ b.length) : TyM rb bw g bp w W' bs b cs k' := ⟨h.cg.but q (by omega), h.cp.but q (fun e => by
    have h1 : W.heap[bp]? = _ := h.cp
    have h2 : W.heap[rb]? = _ := h.rd.box
    rw [e, h2] at h1
    injection h1 with h1
    injection h1 with _ h1 _
    exact absurd h1 (by decide)), r, h.but.trans q, hk⟩
theorem TyM.put (h : TyM rb bw g bp w W bs b cs k) (hg : rb < g) (hw : w.heap.size ≤ g) (j : Nat) (v : Value) : TyM rb bw g bp w (W.setCell ⟨g, j, none⟩ v) bs b (cs.set j v) k := by
  have hs : But (fun y => y = g) W (W.setCell ⟨g, j, none⟩ v) := (But.refl (fun y => y = g) W).setCell ⟨g, j, none⟩ _ (Or.inl rfl)
  exact ⟨h.cg.set j v, h.cp.but hs (fun e => by
    have h1 : W.heap[bp]? = _ := h.cp
    have h2 : W.heap[g]? = _ := h.cg
    rw [e, h2] at h1
    injection h1 with h1
    injection h1 with _ h1 _
    exact absurd h1 (by decide)), h.rd.keep hs (fun y hy e => by omega), h.but.setCell ⟨g, j, none⟩ _ (Or.inr hw), h.kl⟩
end
set_option maxHeartbeats 4000000 in
set_option maxRecDepth 100000 in
theorem types_is (w : World) (rb : Nat) (bs : Value) (b : List Nat) (k m : Nat) (h : Rdr w rb bs b k) (hk : k ≤ b.length) (hm : m ≤ 65536) :
    Calls Try.prog 99 #[.pointer (some ⟨rb, 0, none⟩), .int .i64 (m : Int)] w fun e w' => Out rb w (tys b k 0 m) (fun l e w' => TyQ rb w w' bs b (k + 4 * m) e l) e w' := by
  obtain ⟨W1, hmk, hcb, hB1, hsz⟩ := make_n 25 77 (.agg #[.int .i64 0, .int .i64 0, .int .i64 0]) (.int .i64 0) 3 24 Try.underlying25 Try.infoT (fun i hi => by
    have h3 : i < 3 := hi
    obtain rfl | rfl | rfl : i = 0 ∨ i = 1 ∨ i = 2 := by omega
    all_goals rfl) (by simp [Value.cells]) .i64 w m (by omega) (by omega)
  have HRG : Hid (rb < w.heap.size) := h.box.lt
  obtain ⟨LL, hLL⟩ : ∃ LL, LL = tys b k 0 m := ⟨_, rfl⟩
  rw [← hLL]
  have C0 : Hid (CBox W1 w.heap.size 77 (List.replicate (m * 3) z0V) ∧ Below w.heap.size w W1 ∧ Rdr W1 rb bs b k ∧ k ≤ b.length ∧ LL = (tys b (k + 4 * 0) 0 (m - 0)).bind fun r => .ok ([] ++ r)) := ⟨hcb, hB1, h.past hB1, hk, by rw [hLL]; cases tys b k 0 m <;> simp [Except.bind]⟩
  have mI : (m : Int) ≤ 65536 := by omega
  have HB : Hid (Byt b) := h.byt
  clear hcb hB1 hsz h hk hLL hm
  generalize hbw : w.heap.size = bw at *
  have GB : Hid (w.heap.size = bw) := hbw
  have GE : Hid (bw ≤ w.heap.size) := by unfold Hid; omega
  go_enter Try.func99, Try.ntmps99
  go_upto_region 2 with fail
  clear hmk hbw
  go_upto_region 3 with (go_at_call 87; refine (typeParts_is _).mono ?_; rintro e w1 ⟨rfl, hB1⟩; unfold partsV partsL pF)
  have HGW : Hid (w.heap.size ≤ bw) := by unfold Hid; have := GB.out; omega
  have hb1 : RB rb w W1 := below_but (by rw [GB.out]; exact C0.out.2.1)
  have C1 : Hid (TyM rb bw bw w1.heap.size w (w1.alloc (.cells partsL.toArray 109)) bs b (tV [] ++ List.replicate ((m - 0) * 3) z0V) (k + 4 * 0) ∧ LL = (tys b (k + 4 * 0) 0 (m - 0)).bind fun r => .ok ([] ++ r)) := ⟨⟨(C0.out.1.past hB1).past (below_alloc _ _), CBox.new _ _ _, (C0.out.2.2.1.past hB1).past (below_alloc _ _), (hb1.trans (below_but hB1)).trans (below_but (below_alloc _ _)), C0.out.2.2.2.1⟩, C0.out.2.2.2.2⟩
  unfold partsL pF at C1
  clear hb1 hB1 C0
  generalize w1.alloc _ = V0 at C1 ⊢
  generalize w1.heap.size = bp at C1 ⊢
  generalize hg : bw = g at C1 HGW HRG ⊢
  have HGB : Hid (bw = g) := hg
  clear hg
  go_wp2
  go_loopw [16] (fun s16 wr => ∃ (i : Nat) (L : List Ty), s16 = .int .i64 (i : Int) ∧ i ≤ m ∧ L.length = i ∧ TyM rb bw g bp w wr bs b (tV L ++ List.replicate ((m - i) * 3) z0V) (k + 4 * i) ∧ LL = (tys b (k + 4 * i) i (m - i)).bind fun r => .ok (L ++ r)) (fun s16 _ => m - (intOf s16).toNat)
  case atStart => exact ⟨0, [], rfl, by omega, rfl, by rw [HGB.out]; exact C1.out⟩
  case round =>
    obtain ⟨i, L, rfl, hi, hL, hM, hE⟩ := hrel
    have HM : Hid (TyM rb bw g bp w wr bs b (tV L ++ List.replicate ((m - i) * 3) z0V) (k + 4 * i)) := hM
    have HE : Hid (LL = (tys b (k + 4 * i) i (m - i)).bind fun r => .ok (L ++ r)) := hE
    have HLn : Hid (L.length = i) := hL
    clear hM hE hL C1
    by_cases e : i = m
    · subst e
      have E0 : Hid (LL = .ok L) := by unfold Hid; rw [HE.out, Nat.sub_self, tys]; simp [Except.bind]
      have E1 : Hid (CBox wr g 77 (tV L)) := by have := HM.out.cg; rwa [Nat.sub_self, Nat.zero_mul, List.replicate_zero, List.append_nil] at this
      go_wp2
      go_ret
      rw [E0.out]
      exact ⟨⟨g, by rw [HLn.out]; rfl, E1.out, HGW.out⟩, HM.out.rd, HM.out.but⟩
    · have iI : (i : Int) < (m : Int) := by omega
      obtain ⟨r, hr⟩ : ∃ r, m - i = r + 1 := ⟨m - i - 1, by omega⟩
      have HTV : Hid ((tV L).length = i * 3) := by unfold Hid; rw [tV_len, HLn.out]
      have HR1 : Hid (m - i = r + 1) := hr
      have HE2 : Hid (LL = (tyR b (k + 4 * i) i 0 0 0 0).bind fun t => (tys b (k + 4 * i + 4) (i + 1) r).bind fun q => .ok (L ++ (t :: q))) := by
        unfold Hid
        rw [HE.out, hr, tys, tyR]
        cases tyAt b (k + 4 * i) i with
        | error er => rfl
        | ok t => cases tys b (k + 4 * i + 4) (i + 1) r <;> rfl
      have M7 : Hid (TyM rb bw g bp w (wr.alloc (.cells #[.int .i64 (i : Int)] 3)) bs b (tV L ++ (tyC 0 0 0 0 ++ List.replicate (r * 3) z0V)) (k + 4 * i + 0) ∧ CBox (wr.alloc (.cells #[.int .i64 (i : Int)] 3)) wr.heap.size 3 [.int .i64 (i : Int)]) := by
        refine ⟨?_, CBox.new _ _ [_]⟩
        have h9 := HM.out.past (below_alloc wr (.cells #[.int .i64 (i : Int)] 3))
        rw [hr, show (r + 1) * 3 = r * 3 + 1 + 1 + 1 by omega, List.replicate_succ, List.replicate_succ, List.replicate_succ] at h9
        exact h9
      have N7 : Hid (wr.heap.size ≠ g) := by unfold Hid; have := HM.out.cg.lt; omega
      have N7r : Hid (wr.heap.size ≠ rb) := by unfold Hid; have := HM.out.rd.box.lt; omega
      clear HM HE hr e
      go_upto_region 6 with fail
      generalize wr.alloc _ = V1 at M7 ⊢
      generalize wr.heap.size = b7 at M7 N7 N7r ⊢
      have p0 : V1.cell? ⟨bp, 0, none⟩ = some (.int .i64 1) := M7.out.1.cp.cell 0
      have p1 : V1.cell? ⟨bp, 1, none⟩ = some (.func (.func 106) #[] #[]) := M7.out.1.cp.cell 1
      have p2 : V1.cell? ⟨bp, 2, none⟩ = some (.func (.func 107) #[] #[]) := M7.out.1.cp.cell 2
      have p3 : V1.cell? ⟨bp, 3, none⟩ = some (.int .i64 1) := M7.out.1.cp.cell 3
      have p4 : V1.cell? ⟨bp, 4, none⟩ = some (.func (.func 108) #[] #[]) := M7.out.1.cp.cell 4
      have p5 : V1.cell? ⟨bp, 5, none⟩ = some (.func (.func 109) #[] #[]) := M7.out.1.cp.cell 5
      have p6 : V1.cell? ⟨bp, 6, none⟩ = some (.int .i64 2) := M7.out.1.cp.cell 6
      have p7 : V1.cell? ⟨bp, 7, none⟩ = some (.func (.func 110) #[] #[]) := M7.out.1.cp.cell 7
      have p8 : V1.cell? ⟨bp, 8, none⟩ = some (.func (.func 111) #[] #[]) := M7.out.1.cp.cell 8
      go_wp2
      clear p0 p1 p2 p3 p4 p5 p6 p7 p8
      go_loopw [20] (fun s20 wq => ∃ j x y z : Nat, s20 = .int .i64 (j : Int) ∧ j ≤ 3 ∧ (TyM rb bw g bp w wq bs b (tV L ++ (tyC j x y z ++ List.replicate (r * 3) z0V)) (k + 4 * i + tyO j) ∧ CBox wq b7 3 [.int .i64 (i : Int)]) ∧ LL = (tyR b (k + 4 * i) i j x y z).bind fun t => (tys b (k + 4 * i + 4) (i + 1) r).bind fun q => .ok (L ++ (t :: q))) (fun s20 _ => 3 - (intOf s20).toNat)
      case atStart => exact ⟨0, 0, 0, 0, rfl, by omega, M7.out, HE2.out⟩
      case round =>
        obtain ⟨j, x, y, z, rfl, hj, hM, hE⟩ := hrel
        clear M7 HE2
        obtain rfl | rfl | rfl | rfl : j = 3 ∨ j = 0 ∨ j = 1 ∨ j = 2 := by omega
        · have E0 : Hid (LL = (tys b (k + 4 * (i + 1)) (i + 1) (m - (i + 1))).bind fun q => .ok ((L ++ [((x : Int), (y : Int), (z : Int))]) ++ q)) := by
            unfold Hid
            rw [hE, show m - (i + 1) = r by have := HR1.out; omega, show k + 4 * (i + 1) = k + 4 * i + 4 by omega, show tyR b (k + 4 * i) i 3 x y z = .ok ((x : Int), (y : Int), (z : Int)) from rfl]
            cases tys b (k + 4 * i + 4) (i + 1) r <;> simp [Except.bind]
          have E1 : Hid (TyM rb bw g bp w wr bs b (tV (L ++ [((x : Int), (y : Int), (z : Int))]) ++ List.replicate ((m - (i + 1)) * 3) z0V) (k + 4 * (i + 1))) := by
            unfold Hid
            rw [tV_app, List.append_assoc, show m - (i + 1) = r by have := HR1.out; omega]
            exact hM.1
          clear hM hE
          go_wp2
          go_roundw
          case rel => exact ⟨i + 1, L ++ [((x : Int), (y : Int), (z : Int))], by first | rfl | go_num, by omega, by rw [List.length_append, HLn.out]; rfl, E1.out, E0.out⟩
          case measure => simp [intOf]; omega
        · have C7 : Hid (TyM rb bw g bp w (wr.alloc (.cells #[.int .i64 1, .func (.func 106) #[] #[], .func (.func 107) #[] #[]] 108)) bs b (tV L ++ (tyC 0 x y z ++ List.replicate (r * 3) z0V)) (k + 4 * i + 0) ∧ CBox (wr.alloc (.cells #[.int .i64 1, .func (.func 106) #[] #[], .func (.func 107) #[] #[]] 108)) b7 3 [.int .i64 (i : Int)] ∧ CBox (wr.alloc (.cells #[.int .i64 1, .func (.func 106) #[] #[], .func (.func 107) #[] #[]] 108)) wr.heap.size 108 [.int .i64 1, .func (.func 106) #[] #[], .func (.func 107) #[] #[]]) := ⟨hM.1.past (below_alloc _ _), hM.2.past (below_alloc _ _), CBox.new _ _ [_, _, _]⟩
          have N9h : Hid (wr.heap.size ≠ g) := by unfold Hid; have := hM.1.cg.lt; omega
          have N9r : Hid (wr.heap.size ≠ rb) := by unfold Hid; have := hM.1.rd.box.lt; omega
          have HE3 : Hid (LL = ((fld b (k + 4 * i + 0) 1 59 (fun n => okIn i n)).bind fun xv => tyR b (k + 4 * i) i 1 xv y z).bind fun t => (tys b (k + 4 * i + 4) (i + 1) r).bind fun q => .ok (L ++ (t :: q))) := hE
          have ix := ixp0 wr
          clear hM hE
          go_upto_region 9 with fail
          clear ix
          generalize wr.alloc _ = V7 at C7 ⊢
          generalize wr.heap.size = b9 at C7 N9h N9r ⊢
          have FC0 := field2_is V7 rb bs b (k + 4 * i + 0) 1 59 C7.out.1.rd C7.out.1.kl (by omega) (fun n => okIn i n) 114 (.pointer (some ⟨b9, 0, none⟩)) (.pointer (some ⟨b7, 0, none⟩)) (fun _ _ => by kernel_rfl) (fun V hV => ty1_0 V b9 b7 i (rd b (k + 4 * i + 0) 1) (rd_small HB.out _ _ (by omega)) ((C7.out.2.2.but hV N9r.out).cell 2) ((C7.out.2.1.but hV N7r.out).cell 0))
          have FC : Hid _ := FC0
          have FK : Hid (∀ q, fld b (k + 4 * i + 0) 1 59 (fun n => okIn i n) = .ok q → k + 4 * i + 1 ≤ b.length ∧ q ≤ 65535) := fun q hq => by
            unfold fld at hq
            split at hq
            · cases hq
            · split at hq
              · cases hq
                exact ⟨by omega, rd_small HB.out _ _ (by omega)⟩
              · cases hq
          clear FC0
          generalize fld b (k + 4 * i + 0) 1 59 (fun n => okIn i n) = FF at *
          have hmf : ∀ (fn : Fn) (first cap : Array Value) (w : World), (Instr.makeFunc fn first cap).run Try.prog w = .ok (.func fn first cap) w := fun _ _ _ _ => rfl
          have c9 : V7.cell? ⟨b9, 0, none⟩ = some (.int .i64 1) := C7.out.2.2.cell 0
          cases FF with
          | error er =>
            obtain ⟨ec, ea⟩ := er
            have E0 : Hid (LL = .error (ec, ea)) := HE3.out
            go_wp2_with (go_at_call 91; refine Calls.mono FC.out ?_; rintro e w' ⟨rfl, hB⟩; unfold thrown rejV)
            refine ⟨rfl, ?_⟩
            rw [E0.out]
            exact ⟨rfl, C7.out.1.but.trans hB⟩
          | ok xv =>
          have HE4 : Hid (LL = (tyR b (k + 4 * i) i 1 xv y z).bind fun t => (tys b (k + 4 * i + 4) (i + 1) r).bind fun q => .ok (L ++ (t :: q))) := HE3.out
          have HKX : Hid (k + 4 * i + 1 ≤ b.length ∧ xv ≤ 65535) := FK.out xv rfl
          have wxv : IntKind.i64.wrap (xv : Int) = (xv : Int) := by rw [IntKind.wrap_i64]; have := HKX.out; omega
          clear HE3 FK
          go_upto_region 10 with (go_at_call 91; refine Calls.mono FC.out ?_; rintro e w5 ⟨rfl, hR, hB⟩)
          have M5 : Hid (TyM rb bw g bp w w5 bs b (tV L ++ (tyC 0 x y z ++ List.replicate (r * 3) z0V)) (k + 4 * i + 1) ∧ CBox w5 b7 3 [.int .i64 (i : Int)] ∧ CBox w5 b9 108 [.int .i64 1, .func (.func 106) #[] #[], .func (.func 107) #[] #[]]) := ⟨C7.out.1.read HRG.out hB hR HKX.out.1, C7.out.2.1.but hB N7r.out, C7.out.2.2.but hB N9r.out⟩
          clear hR hB C7 FC c9 hmf
          refine wp_region_held_drew (S := fun V' => CBox V' b7 3 [.int .i64 (i : Int)] ∧ CBox V' b9 108 [.int .i64 1, .func (.func 106) #[] #[], .func (.func 107) #[] #[]]) (by kernel_rfl) ⟨M5.out.2.1.past below_drew, M5.out.2.2.past below_drew⟩ (fun hHeld => ?_)
          have M0 : Hid (TyM rb bw g bp w w5.drew bs b (tV L ++ (tyC 0 x y z ++ List.replicate (r * 3) z0V)) (k + 4 * i + 1)) := M5.out.1.past below_drew
          have N9 : b9 ≠ g := N9h.out
          clear M5
          generalize w5.drew = z0 at hHeld M0 ⊢
          refine wpAnyH_take (i := 0) (v := .pointer (some ⟨b9, 1, none⟩)) ov0 (by kernel_rfl) (by kernel_rfl) (by kernel_rfl) (fun _ _ _ h => h) (Or.inl ⟨by rfl, fun V' hS => ?_⟩) hHeld ?_
          · go_simp
          simp only [Act.put, List.setIfInBounds_toArray, List.set_cons_zero, List.set_cons_succ]
          refine wpAnyH_take (i := 1) (v := .func (.func 106) #[] #[]) ov1 (by kernel_rfl) (by kernel_rfl) (by kernel_rfl) (fun _ _ _ h => h) (Or.inl ⟨by rfl, fun V' hS => ?_⟩) hHeld ?_
          · have c1 : V'.cell? ⟨b9, 1, none⟩ = some (.func (.func 106) #[] #[]) := hS.2.cell 1
            go_simp
          simp only [Act.put, List.setIfInBounds_toArray, List.set_cons_zero, List.set_cons_succ]
          refine wpAnyH_take (i := 2) (v := .slice (some ⟨g, 0, none⟩) m m) ov2 (by kernel_rfl) (by kernel_rfl) (by kernel_rfl) (fun _ _ _ h => h) (Or.inl ⟨by rfl, fun V' hS => ?_⟩) hHeld ?_
          · go_simp
          simp only [Act.put, List.setIfInBounds_toArray, List.set_cons_zero, List.set_cons_succ]
          refine wpAnyH_take (i := 3) (v := .int .i64 (i : Int)) ov3 (by kernel_rfl) (by kernel_rfl) (by kernel_rfl) (fun _ _ _ h => h) (Or.inl ⟨by rfl, fun V' hS => ?_⟩) hHeld ?_
          · have c1 : V'.cell? ⟨b7, 0, none⟩ = some (.int .i64 (i : Int)) := hS.1.cell 0
            go_simp
          simp only [Act.put, List.setIfInBounds_toArray, List.set_cons_zero, List.set_cons_succ]
          refine wpAnyH_take (i := 4) (v := .pointer (some ⟨g, i * 3, none⟩)) ov4 (by kernel_rfl) (by kernel_rfl) (by kernel_rfl) (fun _ _ _ h => h) (Or.inl ⟨by rfl, fun V' hS => ?_⟩) hHeld ?_
          · go_simp
          simp only [Act.put, List.setIfInBounds_toArray, List.set_cons_zero, List.set_cons_succ]
          refine wpAnyH_take (i := 6) (v := .int .u64 (xv : Int)) ov6 (by kernel_rfl) (by kernel_rfl) (by kernel_rfl) (fun _ _ _ h => h) (Or.inl ⟨by rfl, fun V' hS => ?_⟩) hHeld ?_
          · go_simp
          simp only [Act.put, List.setIfInBounds_toArray, List.set_cons_zero, List.set_cons_succ]
          refine wpAnyH_take (i := 7) (v := .int .i64 (xv : Int)) ov7 (by kernel_rfl) (by kernel_rfl) (by kernel_rfl) (fun _ _ _ h => h) (Or.inl ⟨by rfl, fun V' hS => ?_⟩) hHeld ?_
          · go_simp
          simp only [Act.put, List.setIfInBounds_toArray, List.set_cons_zero, List.set_cons_succ]
          refine wpAnyH_ready (rs := [5]) (by kernel_rfl) (by simp) ?_
          refine AllReadyH.cons ov5 (fun K hK => ?_) AllReadyH.nil
          rw [if_pos (by rfl)]
          go_simp
          refine (of0_is _ g (i * 3)).mono ?_
          rintro e w' ⟨rfl, hw⟩
          have hw2 := hw.symm
          clear hw
          subst hw2
          (try go_wp2_with fail)
          refine hK.out _ _ hHeld (fun _ => ?_)
          clear hK K
          (try simp only [Act.put, List.setIfInBounds_toArray, List.set_cons_zero, List.set_cons_succ])
          refine wpAnyH_take (i := 8) (v := .pointer (some ⟨g, i * 3, none⟩)) ov8 (by kernel_rfl) (by kernel_rfl) (by kernel_rfl) (fun _ _ _ h => h) (Or.inl ⟨by rfl, fun V' hS => ?_⟩) hHeld ?_
          · go_simp
          simp only [Act.put, List.setIfInBounds_toArray, List.set_cons_zero, List.set_cons_succ]
          refine wpAnyH_ready (rs := [9]) (by kernel_rfl) (by simp) ?_
          refine AllReadyH.cons ov9 (fun K hK => ?_) AllReadyH.nil
          rw [if_pos (by rfl)]
          have k0 : z0.cell? ⟨g, i * 3, none⟩ = some (.int .i64 0) := by (rw [M0.out.cg.cell]; exact ty_cell _ _ _ 0 _ HTV.out _ rfl)
          have f0 := M0.out.cg.frozen (i * 3)
          go_simp
          have M1 : Hid (TyM rb bw g bp w (z0.setCell ⟨g, i * 3, none⟩ (.int .i64 (xv : Int))) bs b (tV L ++ (tyC 1 xv y z ++ List.replicate (r * 3) z0V)) (k + 4 * i + 1) ∧ CBox (z0.setCell ⟨g, i * 3, none⟩ (.int .i64 (xv : Int))) b7 3 [.int .i64 (i : Int)] ∧ CBox (z0.setCell ⟨g, i * 3, none⟩ (.int .i64 (xv : Int))) b9 108 [.int .i64 1, .func (.func 106) #[] #[], .func (.func 107) #[] #[]]) := by
            have hs : But (fun y => y = g) z0 (z0.setCell ⟨g, i * 3, none⟩ (.int .i64 (xv : Int))) := (But.refl (fun y => y = g) z0).setCell ⟨g, i * 3, none⟩ _ (Or.inl rfl)
            refine ⟨?_, hHeld.1.but hs N7.out, hHeld.2.but hs N9⟩
            have h9 := M0.out.put HRG.out HGW.out (i * 3) (.int .i64 (xv : Int))
            rw [show i * 3 = i * 3 + 0 from rfl, ty_set _ _ _ 0 _ HTV.out _ (by rw [tyC_len]; omega)] at h9
            exact h9
          refine hK.out _ (z0.setCell ⟨g, i * 3, none⟩ (.int .i64 (xv : Int))) M1.out.2 (fun _ => ?_)
          clear hK K
          (try simp only [Act.put, List.setIfInBounds_toArray, List.set_cons_zero, List.set_cons_succ])
          clear k0 f0
          generalize (z0.setCell ⟨g, i * 3, none⟩ (.int .i64 (xv : Int))) = z5 at M1 ⊢
          refine wpAnyH_done (by kernel_rfl) ?_ _
          clear hHeld M0
          have E9 : Hid (TyM rb bw g bp w z5 bs b (tV L ++ (tyC 1 xv y z ++ List.replicate (r * 3) z0V)) (k + 4 * i + 1) ∧ CBox z5 b7 3 [.int .i64 (i : Int)]) := ⟨M1.out.1, M1.out.2.1⟩
          clear M1
          go_wp2
          go_roundw
          case rel => exact ⟨1, xv, y, z, by first | rfl | go_num, by omega, E9.out, HE4.out⟩
          case measure => simp [intOf]
        · have C7 : Hid (TyM rb bw g bp w (wr.alloc (.cells #[.int .i64 1, .func (.func 108) #[] #[], .func (.func 109) #[] #[]] 108)) bs b (tV L ++ (tyC 1 x y z ++ List.replicate (r * 3) z0V)) (k + 4 * i + 1) ∧ CBox (wr.alloc (.cells #[.int .i64 1, .func (.func 108) #[] #[], .func (.func 109) #[] #[]] 108)) b7 3 [.int .i64 (i : Int)] ∧ CBox (wr.alloc (.cells #[.int .i64 1, .func (.func 108) #[] #[], .func (.func 109) #[] #[]] 108)) wr.heap.size 108 [.int .i64 1, .func (.func 108) #[] #[], .func (.func 109) #[] #[]]) := ⟨hM.1.past (below_alloc _ _), hM.2.past (below_alloc _ _), CBox.new _ _ [_, _, _]⟩
          have N9h : Hid (wr.heap.size ≠ g) := by unfold Hid; have := hM.1.cg.lt; omega
          have N9r : Hid (wr.heap.size ≠ rb) := by unfold Hid; have := hM.1.rd.box.lt; omega
          have HE3 : Hid (LL = ((fld b (k + 4 * i + 1) 1 59 (fun n => okOut i n)).bind fun xv => tyR b (k + 4 * i) i 2 x xv z).bind fun t => (tys b (k + 4 * i + 4) (i + 1) r).bind fun q => .ok (L ++ (t :: q))) := hE
          have ix := ixp1 wr
          clear hM hE
          go_upto_region 9 with fail
          clear ix
          generalize wr.alloc _ = V7 at C7 ⊢
          generalize wr.heap.size = b9 at C7 N9h N9r ⊢
          have FC0 := field2_is V7 rb bs b (k + 4 * i + 1) 1 59 C7.out.1.rd C7.out.1.kl (by omega) (fun n => okOut i n) 114 (.pointer (some ⟨b9, 0, none⟩)) (.pointer (some ⟨b7, 0, none⟩)) (fun _ _ => by kernel_rfl) (fun V hV => ty1_1 V b9 b7 i (rd b (k + 4 * i + 1) 1) (rd_small HB.out _ _ (by omega)) ((C7.out.2.2.but hV N9r.out).cell 2) ((C7.out.2.1.but hV N7r.out).cell 0))
          have FC : Hid _ := FC0
          have FK : Hid (∀ q, fld b (k + 4 * i + 1) 1 59 (fun n => okOut i n) = .ok q → k + 4 * i + 2 ≤ b.length ∧ q ≤ 65535) := fun q hq => by
            unfold fld at hq
            split at hq
            · cases hq
            · split at hq
              · cases hq
                exact ⟨by omega, rd_small HB.out _ _ (by omega)⟩
              · cases hq
          clear FC0
          generalize fld b (k + 4 * i + 1) 1 59 (fun n => okOut i n) = FF at *
          have hmf : ∀ (fn : Fn) (first cap : Array Value) (w : World), (Instr.makeFunc fn first cap).run Try.prog w = .ok (.func fn first cap) w := fun _ _ _ _ => rfl
          have c9 : V7.cell? ⟨b9, 0, none⟩ = some (.int .i64 1) := C7.out.2.2.cell 0
          cases FF with
          | error er =>
            obtain ⟨ec, ea⟩ := er
            have E0 : Hid (LL = .error (ec, ea)) := HE3.out
            go_wp2_with (go_at_call 91; refine Calls.mono FC.out ?_; rintro e w' ⟨rfl, hB⟩; unfold thrown rejV)
            refine ⟨rfl, ?_⟩
            rw [E0.out]
            exact ⟨rfl, C7.out.1.but.trans hB⟩
          | ok xv =>
          have HE4 : Hid (LL = (tyR b (k + 4 * i) i 2 x xv z).bind fun t => (tys b (k + 4 * i + 4) (i + 1) r).bind fun q => .ok (L ++ (t :: q))) := HE3.out
          have HKX : Hid (k + 4 * i + 2 ≤ b.length ∧ xv ≤ 65535) := FK.out xv rfl
          have wxv : IntKind.i64.wrap (xv : Int) = (xv : Int) := by rw [IntKind.wrap_i64]; have := HKX.out; omega
          clear HE3 FK
          go_upto_region 10 with (go_at_call 91; refine Calls.mono FC.out ?_; rintro e w5 ⟨rfl, hR, hB⟩)
          have M5 : Hid (TyM rb bw g bp w w5 bs b (tV L ++ (tyC 1 x y z ++ List.replicate (r * 3) z0V)) (k + 4 * i + 2) ∧ CBox w5 b7 3 [.int .i64 (i : Int)] ∧ CBox w5 b9 108 [.int .i64 1, .func (.func 108) #[] #[], .func (.func 109) #[] #[]]) := ⟨C7.out.1.read HRG.out hB hR HKX.out.1, C7.out.2.1.but hB N7r.out, C7.out.2.2.but hB N9r.out⟩
          clear hR hB C7 FC c9 hmf
          refine wp_region_held_drew (S := fun V' => CBox V' b7 3 [.int .i64 (i : Int)] ∧ CBox V' b9 108 [.int .i64 1, .func (.func 108) #[] #[], .func (.func 109) #[] #[]]) (by kernel_rfl) ⟨M5.out.2.1.past below_drew, M5.out.2.2.past below_drew⟩ (fun hHeld => ?_)
          have M0 : Hid (TyM rb bw g bp w w5.drew bs b (tV L ++ (tyC 1 x y z ++ List.replicate (r * 3) z0V)) (k + 4 * i + 2)) := M5.out.1.past below_drew
          have N9 : b9 ≠ g := N9h.out
          clear M5
          generalize w5.drew = z0 at hHeld M0 ⊢
          refine wpAnyH_take (i := 0) (v := .pointer (some ⟨b9, 1, none⟩)) ov0 (by kernel_rfl) (by kernel_rfl) (by kernel_rfl) (fun _ _ _ h => h) (Or.inl ⟨by rfl, fun V' hS => ?_⟩) hHeld ?_
          · go_simp
          simp only [Act.put, List.setIfInBounds_toArray, List.set_cons_zero, List.set_cons_succ]
          refine wpAnyH_take (i := 1) (v := .func (.func 108) #[] #[]) ov1 (by kernel_rfl) (by kernel_rfl) (by kernel_rfl) (fun _ _ _ h => h) (Or.inl ⟨by rfl, fun V' hS => ?_⟩) hHeld ?_
          · have c1 : V'.cell? ⟨b9, 1, none⟩ = some (.func (.func 108) #[] #[]) := hS.2.cell 1
            go_simp
          simp only [Act.put, List.setIfInBounds_toArray, List.set_cons_zero, List.set_cons_succ]
          refine wpAnyH_take (i := 2) (v := .slice (some ⟨g, 0, none⟩) m m) ov2 (by kernel_rfl) (by kernel_rfl) (by kernel_rfl) (fun _ _ _ h => h) (Or.inl ⟨by rfl, fun V' hS => ?_⟩) hHeld ?_
          · go_simp
          simp only [Act.put, List.setIfInBounds_toArray, List.set_cons_zero, List.set_cons_succ]
          refine wpAnyH_take (i := 3) (v := .int .i64 (i : Int)) ov3 (by kernel_rfl) (by kernel_rfl) (by kernel_rfl) (fun _ _ _ h => h) (Or.inl ⟨by rfl, fun V' hS => ?_⟩) hHeld ?_
          · have c1 : V'.cell? ⟨b7, 0, none⟩ = some (.int .i64 (i : Int)) := hS.1.cell 0
            go_simp
          simp only [Act.put, List.setIfInBounds_toArray, List.set_cons_zero, List.set_cons_succ]
          refine wpAnyH_take (i := 4) (v := .pointer (some ⟨g, i * 3, none⟩)) ov4 (by kernel_rfl) (by kernel_rfl) (by kernel_rfl) (fun _ _ _ h => h) (Or.inl ⟨by rfl, fun V' hS => ?_⟩) hHeld ?_
          · go_simp
          simp only [Act.put, List.setIfInBounds_toArray, List.set_cons_zero, List.set_cons_succ]
          refine wpAnyH_take (i := 6) (v := .int .u64 (xv : Int)) ov6 (by kernel_rfl) (by kernel_rfl) (by kernel_rfl) (fun _ _ _ h => h) (Or.inl ⟨by rfl, fun V' hS => ?_⟩) hHeld ?_
          · go_simp
          simp only [Act.put, List.setIfInBounds_toArray, List.set_cons_zero, List.set_cons_succ]
          refine wpAnyH_take (i := 7) (v := .int .i64 (xv : Int)) ov7 (by kernel_rfl) (by kernel_rfl) (by kernel_rfl) (fun _ _ _ h => h) (Or.inl ⟨by rfl, fun V' hS => ?_⟩) hHeld ?_
          · go_simp
          simp only [Act.put, List.setIfInBounds_toArray, List.set_cons_zero, List.set_cons_succ]
          refine wpAnyH_ready (rs := [5]) (by kernel_rfl) (by simp) ?_
          refine AllReadyH.cons ov5 (fun K hK => ?_) AllReadyH.nil
          rw [if_pos (by rfl)]
          go_simp
          refine (of1_is _ g (i * 3)).mono ?_
          rintro e w' ⟨rfl, hw⟩
          have hw2 := hw.symm
          clear hw
          subst hw2
          (try go_wp2_with fail)
          refine hK.out _ _ hHeld (fun _ => ?_)
          clear hK K
          (try simp only [Act.put, List.setIfInBounds_toArray, List.set_cons_zero, List.set_cons_succ])
          refine wpAnyH_take (i := 8) (v := .pointer (some ⟨g, i * 3 + 1, none⟩)) ov8 (by kernel_rfl) (by kernel_rfl) (by kernel_rfl) (fun _ _ _ h => h) (Or.inl ⟨by rfl, fun V' hS => ?_⟩) hHeld ?_
          · go_simp
          simp only [Act.put, List.setIfInBounds_toArray, List.set_cons_zero, List.set_cons_succ]
          refine wpAnyH_ready (rs := [9]) (by kernel_rfl) (by simp) ?_
          refine AllReadyH.cons ov9 (fun K hK => ?_) AllReadyH.nil
          rw [if_pos (by rfl)]
          have k0 : z0.cell? ⟨g, i * 3 + 1, none⟩ = some (.int .i64 0) := by (rw [M0.out.cg.cell]; exact ty_cell _ _ _ 1 _ HTV.out _ rfl)
          have f0 := M0.out.cg.frozen (i * 3 + 1)
          go_simp
          have M1 : Hid (TyM rb bw g bp w (z0.setCell ⟨g, i * 3 + 1, none⟩ (.int .i64 (xv : Int))) bs b (tV L ++ (tyC 2 x xv z ++ List.replicate (r * 3) z0V)) (k + 4 * i + 2) ∧ CBox (z0.setCell ⟨g, i * 3 + 1, none⟩ (.int .i64 (xv : Int))) b7 3 [.int .i64 (i : Int)] ∧ CBox (z0.setCell ⟨g, i * 3 + 1, none⟩ (.int .i64 (xv : Int))) b9 108 [.int .i64 1, .func (.func 108) #[] #[], .func (.func 109) #[] #[]]) := by
            have hs : But (fun y => y = g) z0 (z0.setCell ⟨g, i * 3 + 1, none⟩ (.int .i64 (xv : Int))) := (But.refl (fun y => y = g) z0).setCell ⟨g, i * 3 + 1, none⟩ _ (Or.inl rfl)
            refine ⟨?_, hHeld.1.but hs N7.out, hHeld.2.but hs N9⟩
            have h9 := M0.out.put HRG.out HGW.out (i * 3 + 1) (.int .i64 (xv : Int))
            rw [ty_set _ _ _ 1 _ HTV.out _ (by rw [tyC_len]; omega)] at h9
            exact h9
          refine hK.out _ (z0.setCell ⟨g, i * 3 + 1, none⟩ (.int .i64 (xv : Int))) M1.out.2 (fun _ => ?_)
          clear hK K
          (try simp only [Act.put, List.setIfInBounds_toArray, List.set_cons_zero, List.set_cons_succ])
          clear k0 f0
          generalize (z0.setCell ⟨g, i * 3 + 1, none⟩ (.int .i64 (xv : Int))) = z5 at M1 ⊢
          refine wpAnyH_done (by kernel_rfl) ?_ _
          clear hHeld M0
          have E9 : Hid (TyM rb bw g bp w z5 bs b (tV L ++ (tyC 2 x xv z ++ List.replicate (r * 3) z0V)) (k + 4 * i + 2) ∧ CBox z5 b7 3 [.int .i64 (i : Int)]) := ⟨M1.out.1, M1.out.2.1⟩
          clear M1
          go_wp2
          go_roundw
          case rel => exact ⟨2, x, xv, z, by first | rfl | go_num, by omega, E9.out, HE4.out⟩
          case measure => simp [intOf]
        · have C7 : Hid (TyM rb bw g bp w (wr.alloc (.cells #[.int .i64 2, .func (.func 110) #[] #[], .func (.func 111) #[] #[]] 108)) bs b (tV L ++ (tyC 2 x y z ++ List.replicate (r * 3) z0V)) (k + 4 * i + 2) ∧ CBox (wr.alloc (.cells #[.int .i64 2, .func (.func 110) #[] #[], .func (.func 111) #[] #[]] 108)) b7 3 [.int .i64 (i : Int)] ∧ CBox (wr.alloc (.cells #[.int .i64 2, .func (.func 110) #[] #[], .func (.func 111) #[] #[]] 108)) wr.heap.size 108 [.int .i64 2, .func (.func 110) #[] #[], .func (.func 111) #[] #[]]) := ⟨hM.1.past (below_alloc _ _), hM.2.past (below_alloc _ _), CBox.new _ _ [_, _, _]⟩
          have N9h : Hid (wr.heap.size ≠ g) := by unfold Hid; have := hM.1.cg.lt; omega
          have N9r : Hid (wr.heap.size ≠ rb) := by unfold Hid; have := hM.1.rd.box.lt; omega
          have HE3 : Hid (LL = ((fld b (k + 4 * i + 2) 2 59 (fun n => okMost n)).bind fun xv => tyR b (k + 4 * i) i 3 x y xv).bind fun t => (tys b (k + 4 * i + 4) (i + 1) r).bind fun q => .ok (L ++ (t :: q))) := hE
          have ix := ixp2 wr
          clear hM hE
          go_upto_region 9 with fail
          clear ix
          generalize wr.alloc _ = V7 at C7 ⊢
          generalize wr.heap.size = b9 at C7 N9h N9r ⊢
          have FC0 := field2_is V7 rb bs b (k + 4 * i + 2) 2 59 C7.out.1.rd C7.out.1.kl (by omega) (fun n => okMost n) 114 (.pointer (some ⟨b9, 0, none⟩)) (.pointer (some ⟨b7, 0, none⟩)) (fun _ _ => by kernel_rfl) (fun V hV => ty1_2 V b9 b7 i (rd b (k + 4 * i + 2) 2) (rd_small HB.out _ _ (by omega)) ((C7.out.2.2.but hV N9r.out).cell 2) ((C7.out.2.1.but hV N7r.out).cell 0))
          have FC : Hid _ := FC0
          have FK : Hid (∀ q, fld b (k + 4 * i + 2) 2 59 (fun n => okMost n) = .ok q → k + 4 * i + 4 ≤ b.length ∧ q ≤ 65535) := fun q hq => by
            unfold fld at hq
            split at hq
            · cases hq
            · split at hq
              · cases hq
                exact ⟨by omega, rd_small HB.out _ _ (by omega)⟩
              · cases hq
          clear FC0
          generalize fld b (k + 4 * i + 2) 2 59 (fun n => okMost n) = FF at *
          have hmf : ∀ (fn : Fn) (first cap : Array Value) (w : World), (Instr.makeFunc fn first cap).run Try.prog w = .ok (.func fn first cap) w := fun _ _ _ _ => rfl
          have c9 : V7.cell? ⟨b9, 0, none⟩ = some (.int .i64 2) := C7.out.2.2.cell 0
          cases FF with
          | error er =>
            obtain ⟨ec, ea⟩ := er
            have E0 : Hid (LL = .error (ec, ea)) := HE3.out
            go_wp2_with (go_at_call 91; refine Calls.mono FC.out ?_; rintro e w' ⟨rfl, hB⟩; unfold thrown rejV)
            refine ⟨rfl, ?_⟩
            rw [E0.out]
            exact ⟨rfl, C7.out.1.but.trans hB⟩
          | ok xv =>
          have HE4 : Hid (LL = (tyR b (k + 4 * i) i 3 x y xv).bind fun t => (tys b (k + 4 * i + 4) (i + 1) r).bind fun q => .ok (L ++ (t :: q))) := HE3.out
          have HKX : Hid (k + 4 * i + 4 ≤ b.length ∧ xv ≤ 65535) := FK.out xv rfl
          have wxv : IntKind.i64.wrap (xv : Int) = (xv : Int) := by rw [IntKind.wrap_i64]; have := HKX.out; omega
          clear HE3 FK
          go_upto_region 10 with (go_at_call 91; refine Calls.mono FC.out ?_; rintro e w5 ⟨rfl, hR, hB⟩)
          have M5 : Hid (TyM rb bw g bp w w5 bs b (tV L ++ (tyC 2 x y z ++ List.replicate (r * 3) z0V)) (k + 4 * i + 4) ∧ CBox w5 b7 3 [.int .i64 (i : Int)] ∧ CBox w5 b9 108 [.int .i64 2, .func (.func 110) #[] #[], .func (.func 111) #[] #[]]) := ⟨C7.out.1.read HRG.out hB hR HKX.out.1, C7.out.2.1.but hB N7r.out, C7.out.2.2.but hB N9r.out⟩
          clear hR hB C7 FC c9 hmf
          refine wp_region_held_drew (S := fun V' => CBox V' b7 3 [.int .i64 (i : Int)] ∧ CBox V' b9 108 [.int .i64 2, .func (.func 110) #[] #[], .func (.func 111) #[] #[]]) (by kernel_rfl) ⟨M5.out.2.1.past below_drew, M5.out.2.2.past below_drew⟩ (fun hHeld => ?_)
          have M0 : Hid (TyM rb bw g bp w w5.drew bs b (tV L ++ (tyC 2 x y z ++ List.replicate (r * 3) z0V)) (k + 4 * i + 4)) := M5.out.1.past below_drew
          have N9 : b9 ≠ g := N9h.out
          clear M5
          generalize w5.drew = z0 at hHeld M0 ⊢
          refine wpAnyH_take (i := 0) (v := .pointer (some ⟨b9, 1, none⟩)) ov0 (by kernel_rfl) (by kernel_rfl) (by kernel_rfl) (fun _ _ _ h => h) (Or.inl ⟨by rfl, fun V' hS => ?_⟩) hHeld ?_
          · go_simp
          simp only [Act.put, List.setIfInBounds_toArray, List.set_cons_zero, List.set_cons_succ]
          refine wpAnyH_take (i := 1) (v := .func (.func 110) #[] #[]) ov1 (by kernel_rfl) (by kernel_rfl) (by kernel_rfl) (fun _ _ _ h => h) (Or.inl ⟨by rfl, fun V' hS => ?_⟩) hHeld ?_
          · have c1 : V'.cell? ⟨b9, 1, none⟩ = some (.func (.func 110) #[] #[]) := hS.2.cell 1
            go_simp
          simp only [Act.put, List.setIfInBounds_toArray, List.set_cons_zero, List.set_cons_succ]
          refine wpAnyH_take (i := 2) (v := .slice (some ⟨g, 0, none⟩) m m) ov2 (by kernel_rfl) (by kernel_rfl) (by kernel_rfl) (fun _ _ _ h => h) (Or.inl ⟨by rfl, fun V' hS => ?_⟩) hHeld ?_
          · go_simp
          simp only [Act.put, List.setIfInBounds_toArray, List.set_cons_zero, List.set_cons_succ]
          refine wpAnyH_take (i := 3) (v := .int .i64 (i : Int)) ov3 (by kernel_rfl) (by kernel_rfl) (by kernel_rfl) (fun _ _ _ h => h) (Or.inl ⟨by rfl, fun V' hS => ?_⟩) hHeld ?_
          · have c1 : V'.cell? ⟨b7, 0, none⟩ = some (.int .i64 (i : Int)) := hS.1.cell 0
            go_simp
          simp only [Act.put, List.setIfInBounds_toArray, List.set_cons_zero, List.set_cons_succ]
          refine wpAnyH_take (i := 4) (v := .pointer (some ⟨g, i * 3, none⟩)) ov4 (by kernel_rfl) (by kernel_rfl) (by kernel_rfl) (fun _ _ _ h => h) (Or.inl ⟨by rfl, fun V' hS => ?_⟩) hHeld ?_
          · go_simp
          simp only [Act.put, List.setIfInBounds_toArray, List.set_cons_zero, List.set_cons_succ]
          refine wpAnyH_take (i := 6) (v := .int .u64 (xv : Int)) ov6 (by kernel_rfl) (by kernel_rfl) (by kernel_rfl) (fun _ _ _ h => h) (Or.inl ⟨by rfl, fun V' hS => ?_⟩) hHeld ?_
          · go_simp
          simp only [Act.put, List.setIfInBounds_toArray, List.set_cons_zero, List.set_cons_succ]
          refine wpAnyH_take (i := 7) (v := .int .i64 (xv : Int)) ov7 (by kernel_rfl) (by kernel_rfl) (by kernel_rfl) (fun _ _ _ h => h) (Or.inl ⟨by rfl, fun V' hS => ?_⟩) hHeld ?_
          · go_simp
          simp only [Act.put, List.setIfInBounds_toArray, List.set_cons_zero, List.set_cons_succ]
          refine wpAnyH_ready (rs := [5]) (by kernel_rfl) (by simp) ?_
          refine AllReadyH.cons ov5 (fun K hK => ?_) AllReadyH.nil
          rw [if_pos (by rfl)]
          go_simp
          refine (of2_is _ g (i * 3)).mono ?_
          rintro e w' ⟨rfl, hw⟩
          have hw2 := hw.symm
          clear hw
          subst hw2
          (try go_wp2_with fail)
          refine hK.out _ _ hHeld (fun _ => ?_)
          clear hK K
          (try simp only [Act.put, List.setIfInBounds_toArray, List.set_cons_zero, List.set_cons_succ])
          refine wpAnyH_take (i := 8) (v := .pointer (some ⟨g, i * 3 + 2, none⟩)) ov8 (by kernel_rfl) (by kernel_rfl) (by kernel_rfl) (fun _ _ _ h => h) (Or.inl ⟨by rfl, fun V' hS => ?_⟩) hHeld ?_
          · go_simp
          simp only [Act.put, List.setIfInBounds_toArray, List.set_cons_zero, List.set_cons_succ]
          refine wpAnyH_ready (rs := [9]) (by kernel_rfl) (by simp) ?_
          refine AllReadyH.cons ov9 (fun K hK => ?_) AllReadyH.nil
          rw [if_pos (by rfl)]
          have k0 : z0.cell? ⟨g, i * 3 + 2, none⟩ = some (.int .i64 0) := by (rw [M0.out.cg.cell]; exact ty_cell _ _ _ 2 _ HTV.out _ rfl)
          have f0 := M0.out.cg.frozen (i * 3 + 2)
          go_simp
          have M1 : Hid (TyM rb bw g bp w (z0.setCell ⟨g, i * 3 + 2, none⟩ (.int .i64 (xv : Int))) bs b (tV L ++ (tyC 3 x y xv ++ List.replicate (r * 3) z0V)) (k + 4 * i + 4) ∧ CBox (z0.setCell ⟨g, i * 3 + 2, none⟩ (.int .i64 (xv : Int))) b7 3 [.int .i64 (i : Int)] ∧ CBox (z0.setCell ⟨g, i * 3 + 2, none⟩ (.int .i64 (xv : Int))) b9 108 [.int .i64 2, .func (.func 110) #[] #[], .func (.func 111) #[] #[]]) := by
            have hs : But (fun y => y = g) z0 (z0.setCell ⟨g, i * 3 + 2, none⟩ (.int .i64 (xv : Int))) := (But.refl (fun y => y = g) z0).setCell ⟨g, i * 3 + 2, none⟩ _ (Or.inl rfl)
            refine ⟨?_, hHeld.1.but hs N7.out, hHeld.2.but hs N9⟩
            have h9 := M0.out.put HRG.out HGW.out (i * 3 + 2) (.int .i64 (xv : Int))
            rw [ty_set _ _ _ 2 _ HTV.out _ (by rw [tyC_len]; omega)] at h9
            exact h9
          refine hK.out _ (z0.setCell ⟨g, i * 3 + 2, none⟩ (.int .i64 (xv : Int))) M1.out.2 (fun _ => ?_)
          clear hK K
          (try simp only [Act.put, List.setIfInBounds_toArray, List.set_cons_zero, List.set_cons_succ])
          clear k0 f0
          generalize (z0.setCell ⟨g, i * 3 + 2, none⟩ (.int .i64 (xv : Int))) = z5 at M1 ⊢
          refine wpAnyH_done (by kernel_rfl) ?_ _
          clear hHeld M0
          have E9 : Hid (TyM rb bw g bp w z5 bs b (tV L ++ (tyC 3 x y xv ++ List.replicate (r * 3) z0V)) (k + 4 * i + 4) ∧ CBox z5 b7 3 [.int .i64 (i : Int)]) := ⟨M1.out.1, M1.out.2.1⟩
          clear M1
          go_wp2
          go_roundw
          case rel => exact ⟨3, x, y, xv, by first | rfl | go_num, by omega, E9.out, HE4.out⟩
          case measure => simp [intOf]
end Go.Proofs.Ytndhabhlajldeaa
/- Package container: the reader's header. -/
namespace Go.Proofs.Ytndhabhlajldeaa
open Go.RowKit
theorem hd1_is (V : World) (x : Nat) : Calls Try.prog 92 #[.int .u64 (x : Int)] V fun e V' => e = .returned (.bool (pT x)) ∧ V' = V := by
  have t1 : Int.tmod (x : Int) 4 = ((x % 4 : Nat) : Int) := by rw [Int.tmod_eq_emod_of_nonneg (by omega)]; omega
  have EP : Hid (pT x = (decide (0 < x) && (x % 4 == 0 && decide (x ≤ 4096)))) := rfl
  generalize hq : x % 4 = q at *
  clear hq
  generalize pT x = r at *
  by_cases e0 : 0 < x
  · have c0 : (0 : Int) < (x : Int) := by omega
    by_cases e1 : q = 0
    · subst e1
      by_cases e2 : x ≤ 4096
      · have c2 : (x : Int) ≤ 4096 := by omega
        have E0 : Hid (r = true) := by unfold Hid; rw [EP.out]; simp [e0, e2]
        clear e0 e2
        go_enter Try.func92, Try.ntmps92
        go_wp2
        go_ret
        exact ⟨by rw [E0.out]; rfl, rfl⟩
      · have c2 : ¬ (x : Int) ≤ 4096 := by omega
        have E0 : Hid (r = false) := by unfold Hid; rw [EP.out]; simp [e2]
        clear e0 e2
        go_enter Try.func92, Try.ntmps92
        go_wp2
        go_ret
        exact ⟨by rw [E0.out]; rfl, rfl⟩
    · have c1 : ((q : Int) == 0) = false := by simp; omega
      have E0 : Hid (r = false) := by unfold Hid; rw [EP.out]; simp [e1]
      clear e0 e1
      go_enter Try.func92, Try.ntmps92
      go_wp2
      go_ret
      exact ⟨by rw [E0.out]; rfl, rfl⟩
  · have c0 : ¬ (0 : Int) < (x : Int) := by omega
    have E0 : Hid (r = false) := by unfold Hid; rw [EP.out]; simp [e0]
    clear e0
    go_enter Try.func92, Try.ntmps92
    go_wp2
    go_ret
    exact ⟨by rw [E0.out]; rfl, rfl⟩
theorem hd2_is (V : World) (g x t : Nat) (ht : t < 18446744073709551616) (h : V.cell? ⟨g, 0, none⟩ = some (.int .u64 (t : Int))) : Calls Try.prog 93 #[.int .u64 (x : Int), .pointer (some ⟨g, 0, none⟩)] V fun e V' => e = .returned (.bool (x == t / 4)) ∧ V' = V := by
  obtain ⟨q, hq⟩ : ∃ q, q = t / 4 := ⟨_, rfl⟩
  have t1 : Int.tdiv (t : Int) 4 = (q : Int) := by rw [Int.tdiv_eq_ediv_of_nonneg (by omega)]; omega
  have t2 : (t : Int) / 4 = (q : Int) := by omega
  rw [← hq]
  have EQ := eq_nat x q
  have wq : IntKind.u64.wrap (q : Int) = (q : Int) := by rw [IntKind.wrap_u64]; omega
  clear hq ht
  go_enter Try.func93, Try.ntmps93
  go_wp2
  go_ret
  exact ⟨by rw [← EQ]; rfl, rfl⟩
theorem hd3_is (V : World) (x : Nat) : Calls Try.prog 95 #[.int .u64 (x : Int)] V fun e V' => e = .returned (.bool (pK x)) ∧ V' = V := by
  have EP : Hid (pK x = (x == 3 || x == 255)) := rfl
  generalize pK x = r at *
  by_cases e0 : x = 3
  · subst e0
    have E0 : Hid (r = true) := EP.out
    go_enter Try.func95, Try.ntmps95
    go_wp2
    go_ret
    exact ⟨by rw [E0.out]; rfl, rfl⟩
  have c0 : ((x : Int) == 3) = false := by simp; omega
  by_cases e1 : x = 255
  · subst e1
    have E0 : Hid (r = true) := EP.out
    go_enter Try.func95, Try.ntmps95
    go_wp2
    go_ret
    exact ⟨by rw [E0.out]; rfl, rfl⟩
  have c1 : ((x : Int) == 255) = false := by simp; omega
  have E0 : Hid (r = false) := by unfold Hid; rw [EP.out]; simp [e0, e1]
  clear e0 e1
  go_enter Try.func95, Try.ntmps95
  go_wp2
  go_ret
  exact ⟨by rw [E0.out]; rfl, rfl⟩
theorem hd4_is (V : World) (x : Nat) : Calls Try.prog 96 #[.int .u64 (x : Int)] V fun e V' => e = .returned (.bool (pS x)) ∧ V' = V := by
  have EP : Hid (pS x = (decide (0 < x) && decide (x ≤ 256))) := rfl
  generalize pS x = r at *
  by_cases e0 : 0 < x
  · have c0 : (0 : Int) < (x : Int) := by omega
    by_cases e2 : x ≤ 256
    · have c2 : (x : Int) ≤ 256 := by omega
      have E0 : Hid (r = true) := by unfold Hid; rw [EP.out]; simp [e0, e2]
      clear e0 e2
      go_enter Try.func96, Try.ntmps96
      go_wp2
      go_ret
      exact ⟨by rw [E0.out]; rfl, rfl⟩
    · have c2 : ¬ (x : Int) ≤ 256 := by omega
      have E0 : Hid (r = false) := by unfold Hid; rw [EP.out]; simp [e2]
      clear e0 e2
      go_enter Try.func96, Try.ntmps96
      go_wp2
      go_ret
      exact ⟨by rw [E0.out]; rfl, rfl⟩
  · have c0 : ¬ (0 : Int) < (x : Int) := by omega
    have E0 : Hid (r = false) := by unfold Hid; rw [EP.out]; simp [e0]
    clear e0
    go_enter Try.func96, Try.ntmps96
    go_wp2
    go_ret
    exact ⟨by rw [E0.out]; rfl, rfl⟩
end Go.Proofs.Ytndhabhlajldeaa
/- Package container: the reader's header, whole. -/
namespace Go.Proofs.Ytndhabhlajldeaa
open Go.RowKit
/-- in the midst of a header -/
structure HdM (rb b2 b3 : Nat) (w W : World) (bs : Value) (b : List Nat) (cv sv : Value) (cs ss : List Nat) (d k : Nat) : Prop where
  c2 : CBox W b2 84 [.slice none 0 0, .slice none 0 0, .int .u64 0]
  c3 : CBox W b3 84 [cv, sv, .int .u64 (d : Int)]
  uc : UL W cv cs
  us : UL W sv ss
  rd : Rdr W rb bs b k
  but : RB rb w W
  kl : k ≤ b.length
  ge : w.heap.size ≤ b3
  n2 : w.heap.size ≤ b2
  ne : b2 ≠ b3
section
variable {rb b2 b3 d d' k k' : Nat} {w W W' : World} {bs cv sv : Value} {b cs ss : List Nat}
theorem HdM.lt (h : HdM rb b2 b3 w W bs b cv sv cs ss d k) (hr : rb < w.heap.size) : rb ≠ b2 ∧ rb ≠ b3 := by have := h.ge; have := h.n2; omega
theorem HdM.past (h : HdM rb b2 b3 w W bs b cv sv cs ss d k) (q : Below W.heap.size W W') : HdM rb b2 b3 w W' bs b cv sv cs ss d k := ⟨h.c2.past q, h.c3.past q, h.uc.past q, h.us.past q, h.rd.past q, h.but.trans (below_but q), h.kl, h.ge, h.n2, h.ne⟩
theorem HdM.read (h : HdM rb b2 b3 w W bs b cv sv cs ss d k) (hr : rb < w.heap.size) (q : RB rb W W') (r : Rdr W' rb bs b k') (hk : k' ≤ b.length) : HdM rb b2 b3 w W' bs b cv sv cs ss d k' :=
  ⟨h.c2.but q (h.lt hr).1.symm, h.c3.but q (h.lt hr).2.symm, h.uc.but2 q h.rd.box (by decide), h.us.but2 q h.rd.box (by decide), r, h.but.trans q, hk, h.ge, h.n2, h.ne⟩
theorem HdM.step {b3 : Nat} {j : Nat} {v : Value} (h : HdM rb b2 b3 w W bs b cv sv cs ss d k) (hr : rb < w.heap.size) : But (fun y => y = b3) W (W.setCell ⟨b3, j, none⟩ v) ∧ CBox (W.setCell ⟨b3, j, none⟩ v) b2 84 [.slice none 0 0, .slice none 0 0, .int .u64 0] ∧ UL (W.setCell ⟨b3, j, none⟩ v) cv cs ∧ UL (W.setCell ⟨b3, j, none⟩ v) sv ss ∧ Rdr (W.setCell ⟨b3, j, none⟩ v) rb bs b k ∧ RB rb w (W.setCell ⟨b3, j, none⟩ v) := by
  have hs : But (fun y => y = b3) W (W.setCell ⟨b3, j, none⟩ v) := (But.refl (fun y => y = b3) W).setCell ⟨b3, j, none⟩ _ (Or.inl rfl)
  exact ⟨hs, h.c2.but hs h.ne, h.uc.but2 hs h.c3 (by decide), h.us.but2 hs h.c3 (by decide), h.rd.keep hs (fun y hy e => by have := h.ge; omega), h.but.setCell ⟨b3, j, none⟩ _ (Or.inr h.ge)⟩
theorem HdM.put0 {v : Value} {l : List Nat} (h : HdM rb b2 b3 w W bs b cv sv cs ss d k) (hr : rb < w.heap.size) (hv : UL W v l) : HdM rb b2 b3 w (W.setCell ⟨b3, 0, none⟩ v) bs b v sv l ss d k := by
  obtain ⟨hs, h2, h3, h4, h5, h6⟩ := h.step hr (j := 0) (v := v)
  exact ⟨h2, h.c3.set 0 _, hv.but2 hs h.c3 (by decide), h4, h5, h6, h.kl, h.ge, h.n2, h.ne⟩
theorem HdM.put1 {v : Value} {l : List Nat} (h : HdM rb b2 b3 w W bs b cv sv cs ss d k) (hr : rb < w.heap.size) (hv : UL W v l) : HdM rb b2 b3 w (W.setCell ⟨b3, 1, none⟩ v) bs b cv v cs l d k := by
  obtain ⟨hs, h2, h3, h4, h5, h6⟩ := h.step hr (j := 1) (v := v)
  exact ⟨h2, h.c3.set 1 _, h3, hv.but2 hs h.c3 (by decide), h5, h6, h.kl, h.ge, h.n2, h.ne⟩
theorem HdM.put2 (h : HdM rb b2 b3 w W bs b cv sv cs ss d k) (hr : rb < w.heap.size) (x : Nat) : HdM rb b2 b3 w (W.setCell ⟨b3, 2, none⟩ (.int .u64 (x : Int))) bs b cv sv cs ss x k := by
  obtain ⟨hs, h2, h3, h4, h5, h6⟩ := h.step hr (j := 2) (v := .int .u64 (x : Int))
  exact ⟨h2, h.c3.set 2 _, h3, h4, h5, h6, h.kl, h.ge, h.n2, h.ne⟩
end
theorem fld_k {b : List Nat} {k wd why q : Nat} {p : Nat → Bool} (h : fld b k wd why p = .ok q) : k + wd ≤ b.length ∧ q = rd b k wd ∧ p q = true := by
  unfold fld at h
  split at h
  · cases h
  · split at h
    · cases h
      exact ⟨by omega, rfl, by assumption⟩
    · cases h
/-- a header that was read -/
structure HdQ (rb : Nat) (w w' : World) (bs : Value) (b : List Nat) (e : Ending) (h : Hd) : Prop where
  ex : ∃ cv sv, e = .returned (.agg #[cv, sv, .int .u64 (h.d : Int)]) ∧ UL w' cv h.cs ∧ UL w' sv h.ss
  rd : Rdr w' rb bs b h.e
  but : RB rb w w'
  kl : h.e ≤ b.length
  dl : h.d ≤ 65535
  cl : h.cs.length ≤ 1024
  sl : h.ss.length ≤ 256
theorem lens_k : ∀ (b : List Nat) (wd k m : Nat) (l : List Nat), lens b wd k m = .ok l → k ≤ b.length → k + wd * m ≤ b.length
  | b, wd, k, 0, l, h, hk => by omega
  | b, wd, k, m + 1, l, h, hk => by
    unfold lens at h
    cases e1 : fld b k wd 56 (fun n => decide (0 < n)) with
    | error er => rw [e1] at h; cases h
    | ok x =>
      rw [e1] at h
      cases e2 : lens b wd (k + wd) m with
      | error er => simp only [Except.bind, e2] at h; cases h
      | ok r =>
        have := lens_k b wd (k + wd) m r e2 (fld_k e1).1
        rw [Nat.mul_add]
        omega
set_option maxHeartbeats 4000000 in
set_option maxRecDepth 100000 in
theorem header_is (w : World) (rb : Nat) (bs : Value) (b : List Nat) (h : Rdr w rb bs b 0) :
    Calls Try.prog 65 #[.pointer (some ⟨rb, 0, none⟩)] w fun e w' => Out rb w (hdr b) (fun h e w' => HdQ rb w w' bs b e h) e w' := by
  obtain ⟨LL, hLL⟩ : ∃ LL, LL = hdr b := ⟨_, rfl⟩
  rw [← hLL]
  have HRG : Hid (rb < w.heap.size) := h.box.lt
  have HBY : Hid (Byt b) := h.byt
  have HE : Hid (LL = hdr b) := hLL
  have M : Hid (HdM rb w.heap.size (w.heap.size + 1) w ((w.alloc (.cells #[.slice none 0 0, .slice none 0 0, .int .u64 0] 84)).alloc (.cells #[.slice none 0 0, .slice none 0 0, .int .u64 0] 84)) bs b (.slice none 0 0) (.slice none 0 0) [] [] 0 0) := by
    have b1 := below_alloc w (.cells #[.slice none 0 0, .slice none 0 0, .int .u64 0] 84)
    have b2 := below_alloc (w.alloc (.cells #[.slice none 0 0, .slice none 0 0, .int .u64 0] 84)) (.cells #[.slice none 0 0, .slice none 0 0, .int .u64 0] 84)
    have c3 := CBox.new (w.alloc (.cells #[.slice none 0 0, .slice none 0 0, .int .u64 0] 84)) 84 [.slice none 0 0, .slice none 0 0, .int .u64 0]
    refine ⟨(CBox.new w 84 [.slice none 0 0, .slice none 0 0, .int .u64 0]).past b2, by simpa using c3, Or.inl ⟨rfl, rfl⟩, Or.inl ⟨rfl, rfl⟩, (h.past b1).past b2, (below_but b1).trans (below_but b2), by omega, by omega, by omega, by omega⟩
  clear h hLL
  go_enter Try.func65, Try.ntmps65
  go_upto_region 2 with fail
  generalize (w.alloc _).alloc _ = W0 at M ⊢
  generalize w.heap.size + 1 = b3 at M ⊢
  generalize hb2 : w.heap.size = b2 at M ⊢
  rw [hb2] at HRG
  have HRG : Hid (rb < w.heap.size) := by unfold Hid; have := HRG.out; omega
  clear hb2
  have HE : Hid (LL = (fld b (0) 1 51 (fun n => n == 239)).bind fun _ => (fld b 1 1 51 (fun n => n == 0)).bind fun _ => (fld b 2 1 52 (fun n => n == 1)).bind fun _ => (fld b 3 1 53 (fun n => n == 1)).bind fun _ => (fld b 4 2 54 pT).bind fun t => (fld b 6 1 53 (fun n => n == 2)).bind fun _ => (fld b 7 2 55 (fun n => n == t / 4)).bind fun m => (lens b 2 9 m).bind fun cs => hdKind b (9 + 2 * m) cs) := HE.out
  have FC0 := fixed_is W0 rb bs b (0) 239 51 M.out.rd M.out.kl
  have FK : Hid (∀ q, fld b (0) 1 51 (fun n => n == 239) = .ok q → 0 + 1 ≤ b.length) := fun q hq => (fld_k hq).1
  have FC : Hid _ := FC0
  clear FC0
  generalize fld b (0) 1 51 (fun n => n == 239) = FF at *
  cases FF with
  | error er =>
    obtain ⟨ec, ea⟩ := er
    have E0 : Hid (LL = .error (ec, ea)) := HE.out
    go_wp2_with (go_at_call 90; refine Calls.mono FC.out ?_; rintro e w' ⟨rfl, hB⟩; unfold thrown rejV)
    refine ⟨rfl, ?_⟩
    rw [E0.out]
    exact ⟨rfl, M.out.but.trans hB⟩
  | ok xq =>
  have HE : Hid (LL = (fld b 1 1 51 (fun n => n == 0)).bind fun _ => (fld b 2 1 52 (fun n => n == 1)).bind fun _ => (fld b 3 1 53 (fun n => n == 1)).bind fun _ => (fld b 4 2 54 pT).bind fun t => (fld b 6 1 53 (fun n => n == 2)).bind fun _ => (fld b 7 2 55 (fun n => n == t / 4)).bind fun m => (lens b 2 9 m).bind fun cs => hdKind b (9 + 2 * m) cs) := HE.out
  have HK := FK.out xq rfl
  go_upto_region 3 with (go_at_call 90; refine Calls.mono FC.out ?_; rintro e W1 ⟨rfl, hR, hB⟩)
  have M2 : Hid (HdM rb b2 b3 w W1 bs b (.slice none 0 0) (.slice none 0 0) [] [] 0 (0 + 1)) := M.out.read HRG.out hB hR HK
  clear hR hB HK FC FK M
  have M := M2
  clear M2
  have HE : Hid (LL = (fld b (0 + 1) 1 51 (fun n => n == 0)).bind fun _ => (fld b 2 1 52 (fun n => n == 1)).bind fun _ => (fld b 3 1 53 (fun n => n == 1)).bind fun _ => (fld b 4 2 54 pT).bind fun t => (fld b 6 1 53 (fun n => n == 2)).bind fun _ => (fld b 7 2 55 (fun n => n == t / 4)).bind fun m => (lens b 2 9 m).bind fun cs => hdKind b (9 + 2 * m) cs) := HE.out
  have FC0 := fixed_is W1 rb bs b (0 + 1) 0 51 M.out.rd M.out.kl
  have FK : Hid (∀ q, fld b (0 + 1) 1 51 (fun n => n == 0) = .ok q → 0 + 1 + 1 ≤ b.length) := fun q hq => (fld_k hq).1
  have FC : Hid _ := FC0
  clear FC0
  generalize fld b (0 + 1) 1 51 (fun n => n == 0) = FF at *
  cases FF with
  | error er =>
    obtain ⟨ec, ea⟩ := er
    have E0 : Hid (LL = .error (ec, ea)) := HE.out
    go_wp2_with (go_at_call 90; refine Calls.mono FC.out ?_; rintro e w' ⟨rfl, hB⟩; unfold thrown rejV)
    refine ⟨rfl, ?_⟩
    rw [E0.out]
    exact ⟨rfl, M.out.but.trans hB⟩
  | ok xq =>
  have HE : Hid (LL = (fld b 2 1 52 (fun n => n == 1)).bind fun _ => (fld b 3 1 53 (fun n => n == 1)).bind fun _ => (fld b 4 2 54 pT).bind fun t => (fld b 6 1 53 (fun n => n == 2)).bind fun _ => (fld b 7 2 55 (fun n => n == t / 4)).bind fun m => (lens b 2 9 m).bind fun cs => hdKind b (9 + 2 * m) cs) := HE.out
  have HK := FK.out xq rfl
  go_upto_region 4 with (go_at_call 90; refine Calls.mono FC.out ?_; rintro e W2 ⟨rfl, hR, hB⟩)
  have M2 : Hid (HdM rb b2 b3 w W2 bs b (.slice none 0 0) (.slice none 0 0) [] [] 0 (0 + 1 + 1)) := M.out.read HRG.out hB hR HK
  clear hR hB HK FC FK M
  have M := M2
  clear M2
  have HE : Hid (LL = (fld b (0 + 1 + 1) 1 52 (fun n => n == 1)).bind fun _ => (fld b 3 1 53 (fun n => n == 1)).bind fun _ => (fld b 4 2 54 pT).bind fun t => (fld b 6 1 53 (fun n => n == 2)).bind fun _ => (fld b 7 2 55 (fun n => n == t / 4)).bind fun m => (lens b 2 9 m).bind fun cs => hdKind b (9 + 2 * m) cs) := HE.out
  have FC0 := fixed_is W2 rb bs b (0 + 1 + 1) 1 52 M.out.rd M.out.kl
  have FK : Hid (∀ q, fld b (0 + 1 + 1) 1 52 (fun n => n == 1) = .ok q → 0 + 1 + 1 + 1 ≤ b.length) := fun q hq => (fld_k hq).1
  have FC : Hid _ := FC0
  clear FC0
  generalize fld b (0 + 1 + 1) 1 52 (fun n => n == 1) = FF at *
  cases FF with
  | error er =>
    obtain ⟨ec, ea⟩ := er
    have E0 : Hid (LL = .error (ec, ea)) := HE.out
    go_wp2_with (go_at_call 90; refine Calls.mono FC.out ?_; rintro e w' ⟨rfl, hB⟩; unfold thrown rejV)
    refine ⟨rfl, ?_⟩
    rw [E0.out]
    exact ⟨rfl, M.out.but.trans hB⟩
  | ok xq =>
  have HE : Hid (LL = (fld b 3 1 53 (fun n => n == 1)).bind fun _ => (fld b 4 2 54 pT).bind fun t => (fld b 6 1 53 (fun n => n == 2)).bind fun _ => (fld b 7 2 55 (fun n => n == t / 4)).bind fun m => (lens b 2 9 m).bind fun cs => hdKind b (9 + 2 * m) cs) := HE.out
  have HK := FK.out xq rfl
  go_upto_region 5 with (go_at_call 90; refine Calls.mono FC.out ?_; rintro e W3 ⟨rfl, hR, hB⟩)
  have M2 : Hid (HdM rb b2 b3 w W3 bs b (.slice none 0 0) (.slice none 0 0) [] [] 0 (0 + 1 + 1 + 1)) := M.out.read HRG.out hB hR HK
  clear hR hB HK FC FK M
  have M := M2
  clear M2
  have HE : Hid (LL = (fld b (0 + 1 + 1 + 1) 1 53 (fun n => n == 1)).bind fun _ => (fld b 4 2 54 pT).bind fun t => (fld b 6 1 53 (fun n => n == 2)).bind fun _ => (fld b 7 2 55 (fun n => n == t / 4)).bind fun m => (lens b 2 9 m).bind fun cs => hdKind b (9 + 2 * m) cs) := HE.out
  have FC0 := fixed_is W3 rb bs b (0 + 1 + 1 + 1) 1 53 M.out.rd M.out.kl
  have FK : Hid (∀ q, fld b (0 + 1 + 1 + 1) 1 53 (fun n => n == 1) = .ok q → 0 + 1 + 1 + 1 + 1 ≤ b.length) := fun q hq => (fld_k hq).1
  have FC : Hid _ := FC0
  clear FC0
  generalize fld b (0 + 1 + 1 + 1) 1 53 (fun n => n == 1) = FF at *
  cases FF with
  | error er =>
    obtain ⟨ec, ea⟩ := er
    have E0 : Hid (LL = .error (ec, ea)) := HE.out
    go_wp2_with (go_at_call 90; refine Calls.mono FC.out ?_; rintro e w' ⟨rfl, hB⟩; unfold thrown rejV)
    refine ⟨rfl, ?_⟩
    rw [E0.out]
    exact ⟨rfl, M.out.but.trans hB⟩
  | ok xq =>
  have HE : Hid (LL = (fld b 4 2 54 pT).bind fun t => (fld b 6 1 53 (fun n => n == 2)).bind fun _ => (fld b 7 2 55 (fun n => n == t / 4)).bind fun m => (lens b 2 9 m).bind fun cs => hdKind b (9 + 2 * m) cs) := HE.out
  have HK := FK.out xq rfl
  go_upto_region 6 with (go_at_call 90; refine Calls.mono FC.out ?_; rintro e W4 ⟨rfl, hR, hB⟩)
  have M2 : Hid (HdM rb b2 b3 w W4 bs b (.slice none 0 0) (.slice none 0 0) [] [] 0 (0 + 1 + 1 + 1 + 1)) := M.out.read HRG.out hB hR HK
  clear hR hB HK FC FK M
  have M := M2
  clear M2
  have HE : Hid (LL = (fld b (4) 2 54 (pT)).bind fun t => (fld b 6 1 53 (fun n => n == 2)).bind fun _ => (fld b 7 2 55 (fun n => n == t / 4)).bind fun m => (lens b 2 9 m).bind fun cs => hdKind b (9 + 2 * m) cs) := HE.out
  have FC0 := field0_is W4 rb bs b (4) 2 54 M.out.rd M.out.kl (by omega) (pT) 92 (fun _ _ => by kernel_rfl) (fun V hV => hd1_is V (rd b 4 2))
  have FK : Hid (∀ q, fld b (4) 2 54 (pT) = .ok q → (4 + 2 ≤ b.length ∧ q = rd b (4) 2 ∧ (pT) q = true)) := fun q hq => fld_k hq
  have FC : Hid _ := FC0
  clear FC0
  generalize fld b (4) 2 54 (pT) = FF at *
  cases FF with
  | error er =>
    obtain ⟨ec, ea⟩ := er
    have E0 : Hid (LL = .error (ec, ea)) := HE.out
    go_wp2_with (go_at_call 91; refine Calls.mono FC.out ?_; rintro e w' ⟨rfl, hB⟩; unfold thrown rejV)
    refine ⟨rfl, ?_⟩
    rw [E0.out]
    exact ⟨rfl, M.out.but.trans hB⟩
  | ok t =>
  have HE : Hid (LL = (fld b 6 1 53 (fun n => n == 2)).bind fun _ => (fld b 7 2 55 (fun n => n == t / 4)).bind fun m => (lens b 2 9 m).bind fun cs => hdKind b (9 + 2 * m) cs) := HE.out
  have HK : Hid (4 + 2 ≤ b.length ∧ t = rd b (4) 2 ∧ (pT) t = true) := FK.out t rfl
  have HXt : Hid (t ≤ 65535 ∧ (pT) t = true) := ⟨by rw [HK.out.2.1]; exact rd_small HBY.out _ _ (by omega), HK.out.2.2⟩
  go_upto_region 7 with (go_at_call 91; refine Calls.mono FC.out ?_; rintro e W5 ⟨rfl, hR, hB⟩)
  have M2 : Hid (HdM rb b2 b3 w W5 bs b (.slice none 0 0) (.slice none 0 0) [] [] 0 (4 + 2)) := M.out.read HRG.out hB hR HK.out.1
  have M3 : Hid (HdM rb b2 b3 w (W5.alloc (.cells #[.int .u64 (t : Int)] 73)) bs b (.slice none 0 0) (.slice none 0 0) [] [] 0 (4 + 2) ∧ CBox (W5.alloc (.cells #[.int .u64 (t : Int)] 73)) W5.heap.size 73 [.int .u64 (t : Int)] ∧ W5.heap.size ≠ rb) := ⟨M2.out.past (below_alloc _ _), CBox.new _ _ [_], by have := M2.out.rd.box.lt; omega⟩
  clear hR hB HK FC FK M M2
  generalize W5.alloc _ = W6 at M3 ⊢
  generalize W5.heap.size = g4 at M3 ⊢
  have CT : Hid (CBox W6 g4 73 [.int .u64 (t : Int)] ∧ g4 ≠ rb) := M3.out.2
  have M : Hid (HdM rb b2 b3 w W6 bs b (.slice none 0 0) (.slice none 0 0) [] [] 0 6) := M3.out.1
  clear M3
  have HE : Hid (LL = (fld b (6) 1 53 (fun n => n == 2)).bind fun _ => (fld b 7 2 55 (fun n => n == t / 4)).bind fun m => (lens b 2 9 m).bind fun cs => hdKind b (9 + 2 * m) cs) := HE.out
  have FC0 := fixed_is W6 rb bs b (6) 2 53 M.out.rd M.out.kl
  have FK : Hid (∀ q, fld b (6) 1 53 (fun n => n == 2) = .ok q → 6 + 1 ≤ b.length) := fun q hq => (fld_k hq).1
  have FC : Hid _ := FC0
  clear FC0
  generalize fld b (6) 1 53 (fun n => n == 2) = FF at *
  cases FF with
  | error er =>
    obtain ⟨ec, ea⟩ := er
    have E0 : Hid (LL = .error (ec, ea)) := HE.out
    go_wp2_with (go_at_call 90; refine Calls.mono FC.out ?_; rintro e w' ⟨rfl, hB⟩; unfold thrown rejV)
    refine ⟨rfl, ?_⟩
    rw [E0.out]
    exact ⟨rfl, M.out.but.trans hB⟩
  | ok xq =>
  have HE : Hid (LL = (fld b 7 2 55 (fun n => n == t / 4)).bind fun m => (lens b 2 9 m).bind fun cs => hdKind b (9 + 2 * m) cs) := HE.out
  have HK := FK.out xq rfl
  go_upto_region 8 with (go_at_call 90; refine Calls.mono FC.out ?_; rintro e W7 ⟨rfl, hR, hB⟩)
  have M2 : Hid (HdM rb b2 b3 w W7 bs b (.slice none 0 0) (.slice none 0 0) [] [] 0 (6 + 1)) := M.out.read HRG.out hB hR HK
  have CT2 : Hid (CBox W7 g4 73 [.int .u64 (t : Int)] ∧ g4 ≠ rb) := ⟨CT.out.1.but hB CT.out.2, CT.out.2⟩
  clear hR hB HK FC FK M CT
  have M := M2
  clear M2
  have HE : Hid (LL = (fld b (7) 2 55 (fun n => n == t / 4)).bind fun m => (lens b 2 9 m).bind fun cs => hdKind b (9 + 2 * m) cs) := HE.out
  have FC0 := field1_is W7 rb bs b (7) 2 55 M.out.rd M.out.kl (by omega) (fun n => n == t / 4) 93 (.pointer (some ⟨g4, 0, none⟩)) (fun _ _ => by kernel_rfl) (fun V hV => hd2_is V g4 (rd b 7 2) t (by have := HXt.out; omega) ((CT2.out.1.but hV CT2.out.2).cell 0))
  have FK : Hid (∀ q, fld b (7) 2 55 (fun n => n == t / 4) = .ok q → (7 + 2 ≤ b.length ∧ q = rd b (7) 2 ∧ (fun n => n == t / 4) q = true)) := fun q hq => fld_k hq
  have FC : Hid _ := FC0
  clear FC0
  generalize fld b (7) 2 55 (fun n => n == t / 4) = FF at *
  have hmf : ∀ (fn : Fn) (first cap : Array Value) (w : World), (Instr.makeFunc fn first cap).run Try.prog w = .ok (.func fn first cap) w := fun _ _ _ _ => rfl
  cases FF with
  | error er =>
    obtain ⟨ec, ea⟩ := er
    have E0 : Hid (LL = .error (ec, ea)) := HE.out
    go_wp2_with (go_at_call 91; refine Calls.mono FC.out ?_; rintro e w' ⟨rfl, hB⟩; unfold thrown rejV)
    refine ⟨rfl, ?_⟩
    rw [E0.out]
    exact ⟨rfl, M.out.but.trans hB⟩
  | ok m =>
  have HE : Hid (LL = (lens b 2 9 m).bind fun cs => hdKind b (9 + 2 * m) cs) := HE.out
  have HK : Hid (7 + 2 ≤ b.length ∧ m = rd b (7) 2 ∧ (fun n => n == t / 4) m = true) := FK.out m rfl
  have HXm : Hid (m ≤ 65535 ∧ (fun n => n == t / 4) m = true) := ⟨by rw [HK.out.2.1]; exact rd_small HBY.out _ _ (by omega), HK.out.2.2⟩
  go_upto_region 9 with (go_at_call 91; refine Calls.mono FC.out ?_; rintro e W8 ⟨rfl, hR, hB⟩)
  have M2 : Hid (HdM rb b2 b3 w W8 bs b (.slice none 0 0) (.slice none 0 0) [] [] 0 (7 + 2)) := M.out.read HRG.out hB hR HK.out.1
  clear hR hB HK FC FK M
  have M := M2
  clear M2
  clear CT2 hmf
  have hm : m ≤ 1024 := by
    have h1 := HXm.out.2
    have h2 := HXt.out.2
    unfold pT at h2
    simp at h1 h2
    omega
  have HM4 : Hid (m ≤ 1024) := hm
  have HE : Hid (LL = (lens b 2 9 m).bind fun cs => hdKind b (9 + 2 * m) cs) := HE.out
  have FC0 := rlengths_is W8 rb bs b 9 m 2 M.out.rd M.out.kl (by omega) (by omega)
  have FK : Hid (∀ q, lens b 2 9 m = .ok q → (q.length = m ∧ 9 + 2 * m ≤ b.length)) := fun q hq => ⟨lens_len b 2 9 m q hq, lens_k b 2 9 m q hq M.out.kl⟩
  have FC : Hid _ := FC0
  clear FC0 hm
  generalize lens b 2 9 m = FF at *
  cases FF with
  | error er =>
    obtain ⟨ec, ea⟩ := er
    have E0 : Hid (LL = .error (ec, ea)) := HE.out
    go_wp2_with (go_at_call 94; refine Calls.mono FC.out ?_; rintro e w' ⟨rfl, hB⟩; unfold thrown rejV)
    refine ⟨rfl, ?_⟩
    rw [E0.out]
    exact ⟨rfl, M.out.but.trans hB⟩
  | ok cs =>
  have HE : Hid (LL = hdKind b (9 + 2 * m) cs) := HE.out
  have HLncs : Hid (cs.length = m ∧ 9 + 2 * m ≤ b.length) := FK.out cs rfl
  go_upto_region 10 with (go_at_call 94; refine Calls.mono FC.out ?_; rintro e w9 hQ; (obtain ⟨g9, rfl, hC9, _⟩ := LnQ.ex hQ); (have N0 := M.out.read HRG.out (LnQ.but hQ) (LnQ.rd hQ) HLncs.out.2); (have z1 : w9.cell? ⟨b3, 0, none⟩ = some (.slice none 0 0) := N0.c3.cell 0); (have z2 := N0.c3.frozen 0); (have hU9 : UL w9 (.slice (some ⟨g9, 0, none⟩) m m) cs := Or.inr ⟨g9, by rw [HLncs.out.1], hC9⟩); rw [HLncs.out.1])
  have M2 : Hid (HdM rb b2 b3 w (w9.setCell ⟨b3, 0, none⟩ (.slice (some ⟨g9, 0, none⟩) m m)) bs b (.slice (some ⟨g9, 0, none⟩) m m) (.slice none 0 0) cs [] 0 (9 + 2 * m)) := HdM.put0 N0 HRG.out hU9
  clear z1 z2 hU9 N0 hC9 hQ FC FK M
  generalize w9.setCell ⟨b3, 0, none⟩ _ = W9 at M2 ⊢
  have M := M2
  clear M2
  generalize hg9 : g9 = ga at M ⊢
  clear hg9
  have HE : Hid (LL = (fld b (9 + 2 * m) 1 53 (pK)).bind fun q => if q = 3 then hdSubs b (9 + 2 * m + 1) cs else hdEnd b (9 + 2 * m + 1) cs []) := HE.out
  have FC0 := field0_is W9 rb bs b (9 + 2 * m) 1 53 M.out.rd M.out.kl (by omega) (pK) 95 (fun _ _ => by kernel_rfl) (fun V hV => hd3_is V (rd b (9 + 2 * m) 1))
  have FK : Hid (∀ q, fld b (9 + 2 * m) 1 53 (pK) = .ok q → (9 + 2 * m + 1 ≤ b.length ∧ q = rd b (9 + 2 * m) 1 ∧ (pK) q = true)) := fun q hq => fld_k hq
  have FC : Hid _ := FC0
  clear FC0
  generalize fld b (9 + 2 * m) 1 53 (pK) = FF at *
  cases FF with
  | error er =>
    obtain ⟨ec, ea⟩ := er
    have E0 : Hid (LL = .error (ec, ea)) := HE.out
    go_wp2_with (go_at_call 91; refine Calls.mono FC.out ?_; rintro e w' ⟨rfl, hB⟩; unfold thrown rejV)
    refine ⟨rfl, ?_⟩
    rw [E0.out]
    exact ⟨rfl, M.out.but.trans hB⟩
  | ok q =>
  have HE : Hid (LL = if q = 3 then hdSubs b (9 + 2 * m + 1) cs else hdEnd b (9 + 2 * m + 1) cs []) := HE.out
  have HK : Hid (9 + 2 * m + 1 ≤ b.length ∧ q = rd b (9 + 2 * m) 1 ∧ (pK) q = true) := FK.out q rfl
  have HXq : Hid (q ≤ 65535 ∧ (pK) q = true) := ⟨by rw [HK.out.2.1]; exact rd_small HBY.out _ _ (by omega), HK.out.2.2⟩
  go_upto_region 11 with (go_at_call 91; refine Calls.mono FC.out ?_; rintro e W10 ⟨rfl, hR, hB⟩)
  have M2 : Hid (HdM rb b2 b3 w W10 bs b (.slice (some ⟨ga, 0, none⟩) m m) (.slice none 0 0) cs [] 0 (9 + 2 * m + 1)) := M.out.read HRG.out hB hR HK.out.1
  clear hR hB HK FC FK M
  have M := M2
  clear M2
  by_cases e3 : q = 3
  rotate_left
  · have HE : Hid (LL = hdEnd b (9 + 2 * m + 1) cs []) := by unfold Hid; rw [HE.out, if_neg e3]
    have q3 : ((q : Int) == 3) = false := by simp; omega
    clear e3
    go_upto_region 15 with fail
    have HE : Hid (LL = (fld b (9 + 2 * m + 1) 2 0 (fun _ => true)).bind fun d => (fld b (9 + 2 * m + 1 + 2) 1 53 (fun n => n == 0)).bind fun _ => .ok ⟨cs, [], d, 9 + 2 * m + 1 + 3⟩) := HE.out
    by_cases ec : b.length < 9 + 2 * m + 1 + 2
    · have E0 : Hid (LL = .error (50, b.length)) := by unfold Hid; rw [HE.out, fld_cut ec]; rfl
      have FC0 := number_cut W10 rb bs b (9 + 2 * m + 1) 2 M.out.rd M.out.kl (by omega) ec
      have FC : Hid _ := FC0
      clear FC0 ec HE
      go_wp2_with (go_at_call 97; refine Calls.mono FC.out ?_; rintro e w' ⟨rfl, hB⟩; unfold thrown rejV)
      refine ⟨rfl, ?_⟩
      rw [E0.out]
      exact ⟨rfl, M.out.but.trans (below_but hB)⟩
    have HE : Hid (LL = (fld b (9 + 2 * m + 1 + 2) 1 53 (fun n => n == 0)).bind fun _ => .ok ⟨cs, [], rd b (9 + 2 * m + 1) 2, 9 + 2 * m + 1 + 3⟩) := by unfold Hid; rw [HE.out, fld_ok (by omega) rfl]; rfl
    have FC0 := number_ok W10 rb bs b (9 + 2 * m + 1) 2 M.out.rd (by omega) (by omega)
    have HDL : Hid (rd b (9 + 2 * m + 1) 2 ≤ 65535) := rd_small HBY.out _ _ (by omega)
    have HK2 : Hid (9 + 2 * m + 1 + 2 ≤ b.length) := by unfold Hid; omega
    have FC : Hid _ := FC0
    clear FC0 ec
    generalize rd b (9 + 2 * m + 1) 2 = dd at *
    go_upto_region 16 with (go_at_call 97; refine Calls.mono FC.out ?_; rintro e w8 ⟨rfl, hR, hB⟩; (have N0 := M.out.read HRG.out hB hR HK2.out); (have z1 : w8.cell? ⟨b3, 2, none⟩ = some (.int .u64 0) := N0.c3.cell 2); (have z2 := N0.c3.frozen 2))
    have M2 : Hid (HdM rb b2 b3 w (w8.setCell ⟨b3, 2, none⟩ (.int .u64 (dd : Int))) bs b (.slice (some ⟨ga, 0, none⟩) m m) (.slice none 0 0) cs [] dd (9 + 2 * m + 1 + 2)) := HdM.put2 N0 HRG.out dd
    clear z1 z2 N0 hR hB FC M
    generalize w8.setCell ⟨b3, 2, none⟩ _ = Wp at M2 ⊢
    have M := M2
    clear M2
    have HE : Hid (LL = (fld b (9 + 2 * m + 1 + 2) 1 53 (fun n => n == 0)).bind fun _ => .ok ⟨cs, [], dd, 9 + 2 * m + 1 + 3⟩) := HE.out
    have FC0 := fixed_is Wp rb bs b (9 + 2 * m + 1 + 2) 0 53 M.out.rd M.out.kl
    have FK : Hid (∀ q, fld b (9 + 2 * m + 1 + 2) 1 53 (fun n => n == 0) = .ok q → 9 + 2 * m + 1 + 2 + 1 ≤ b.length) := fun q hq => (fld_k hq).1
    have FC : Hid _ := FC0
    clear FC0
    generalize fld b (9 + 2 * m + 1 + 2) 1 53 (fun n => n == 0) = FF at *
    cases FF with
    | error er =>
      obtain ⟨ec, ea⟩ := er
      have E0 : Hid (LL = .error (ec, ea)) := HE.out
      go_wp2_with (go_at_call 90; refine Calls.mono FC.out ?_; rintro e w' ⟨rfl, hB⟩; unfold thrown rejV)
      refine ⟨rfl, ?_⟩
      rw [E0.out]
      exact ⟨rfl, M.out.but.trans hB⟩
    | ok xq =>
    have HE : Hid (LL = .ok ⟨cs, [], dd, 9 + 2 * m + 1 + 3⟩) := HE.out
    have HK := FK.out xq rfl
    go_upto_region 17 with (go_at_call 90; refine Calls.mono FC.out ?_; rintro e Wfp ⟨rfl, hR, hB⟩)
    have M2 : Hid (HdM rb b2 b3 w Wfp bs b (.slice (some ⟨ga, 0, none⟩) m m) (.slice none 0 0) cs [] dd (9 + 2 * m + 1 + 2 + 1)) := M.out.read HRG.out hB hR HK
    clear hR hB HK FC FK M
    have M := M2
    clear M2
    have a0 : Wfp.cell? ⟨b3, 0, none⟩ = some (.slice (some ⟨ga, 0, none⟩) m m) := M.out.c3.cell 0
    have a1 : Wfp.cell? ⟨b3, 1, none⟩ = some (.slice none 0 0) := M.out.c3.cell 1
    have a2 : Wfp.cell? ⟨b3, 2, none⟩ = some (.int .u64 (dd : Int)) := M.out.c3.cell 2
    have k0 : Wfp.cell? ⟨b2, 0, none⟩ = some (.slice none 0 0) := M.out.c2.cell 0
    have k1 : Wfp.cell? ⟨b2, 1, none⟩ = some (.slice none 0 0) := M.out.c2.cell 1
    have k2 : Wfp.cell? ⟨b2, 2, none⟩ = some (.int .u64 0) := M.out.c2.cell 2
    have f0 := M.out.c2.frozen 0
    have f1 := M.out.c2.frozen 1
    have f2 := M.out.c2.frozen 2
    have HF : Hid (CBox (((Wfp.setCell ⟨b2, 0, none⟩ (.slice (some ⟨ga, 0, none⟩) m m)).setCell ⟨b2, 1, none⟩ (.slice none 0 0)).setCell ⟨b2, 2, none⟩ (.int .u64 (dd : Int))) b2 84 [.slice (some ⟨ga, 0, none⟩) m m, .slice none 0 0, .int .u64 (dd : Int)] ∧ UL (((Wfp.setCell ⟨b2, 0, none⟩ (.slice (some ⟨ga, 0, none⟩) m m)).setCell ⟨b2, 1, none⟩ (.slice none 0 0)).setCell ⟨b2, 2, none⟩ (.int .u64 (dd : Int))) (.slice (some ⟨ga, 0, none⟩) m m) cs ∧ UL (((Wfp.setCell ⟨b2, 0, none⟩ (.slice (some ⟨ga, 0, none⟩) m m)).setCell ⟨b2, 1, none⟩ (.slice none 0 0)).setCell ⟨b2, 2, none⟩ (.int .u64 (dd : Int))) (.slice none 0 0) [] ∧ Rdr (((Wfp.setCell ⟨b2, 0, none⟩ (.slice (some ⟨ga, 0, none⟩) m m)).setCell ⟨b2, 1, none⟩ (.slice none 0 0)).setCell ⟨b2, 2, none⟩ (.int .u64 (dd : Int))) rb bs b (9 + 2 * m + 1 + 2 + 1) ∧ RB rb w (((Wfp.setCell ⟨b2, 0, none⟩ (.slice (some ⟨ga, 0, none⟩) m m)).setCell ⟨b2, 1, none⟩ (.slice none 0 0)).setCell ⟨b2, 2, none⟩ (.int .u64 (dd : Int))) ∧ 9 + 2 * m + 1 + 2 + 1 ≤ b.length) := by
      have hs : But (fun y => y = b2) Wfp (((Wfp.setCell ⟨b2, 0, none⟩ (.slice (some ⟨ga, 0, none⟩) m m)).setCell ⟨b2, 1, none⟩ (.slice none 0 0)).setCell ⟨b2, 2, none⟩ (.int .u64 (dd : Int))) := (((But.refl (fun y => y = b2) Wfp).setCell ⟨b2, 0, none⟩ _ (Or.inl rfl)).setCell ⟨b2, 1, none⟩ _ (Or.inl rfl)).setCell ⟨b2, 2, none⟩ _ (Or.inl rfl)
      exact ⟨((M.out.c2.set 0 _).set 1 _).set 2 _, M.out.uc.but2 hs M.out.c2 (by decide), M.out.us.but2 hs M.out.c2 (by decide), M.out.rd.keep hs (fun y hy e => by have := M.out.n2; have := HRG.out; omega), ((M.out.but.setCell ⟨b2, 0, none⟩ _ (Or.inr M.out.n2)).setCell ⟨b2, 1, none⟩ _ (Or.inr M.out.n2)).setCell ⟨b2, 2, none⟩ _ (Or.inr M.out.n2), M.out.kl⟩
    clear M
    go_wp2
    clear a0 a1 a2 k0 k1 k2 f0 f1 f2
    generalize (((Wfp.setCell ⟨b2, 0, none⟩ (.slice (some ⟨ga, 0, none⟩) m m)).setCell ⟨b2, 1, none⟩ (.slice none 0 0)).setCell ⟨b2, 2, none⟩ (.int .u64 (dd : Int))) = Z9 at HF ⊢
    refine bodyPost_ret (v := .agg #[.slice (some ⟨ga, 0, none⟩) m m, .slice none 0 0, .int .u64 (dd : Int)]) (results_c (p := 2) (ty := 84) Try.results65 _ _ _ ⟨b2, 0, none⟩ rfl (run_loadVar_mid Z9 b2 0 84 [.slice (some ⟨ga, 0, none⟩) m m, .slice none 0 0, .int .u64 (dd : Int)] _ HF.out.1.range Try.underlying84 rfl (by kernel_rfl))) rfl ?_
    rw [HE.out]
    exact ⟨⟨_, _, rfl, HF.out.2.1, HF.out.2.2.1⟩, HF.out.2.2.2.1, HF.out.2.2.2.2.1, HF.out.2.2.2.2.2, HDL.out, by have := HLncs.out; have := HM4.out; (show cs.length ≤ 1024); omega, by simp⟩
  have HE : Hid (LL = hdSubs b (9 + 2 * m + 1) cs) := by unfold Hid; rw [HE.out, if_pos e3]
  subst e3
  go_upto_region 12 with fail
  have HE : Hid (LL = (fld b (9 + 2 * m + 1) 2 57 (pS)).bind fun s => (lens b 4 (9 + 2 * m + 1 + 2) s).bind fun ss => (fld b (9 + 2 * m + 1 + 2 + 4 * s) 1 53 (fun n => n == 255)).bind fun _ => hdEnd b (9 + 2 * m + 1 + 2 + 4 * s + 1) cs ss) := HE.out
  have FC0 := field0_is W10 rb bs b (9 + 2 * m + 1) 2 57 M.out.rd M.out.kl (by omega) (pS) 96 (fun _ _ => by kernel_rfl) (fun V hV => hd4_is V (rd b (9 + 2 * m + 1) 2))
  have FK : Hid (∀ q, fld b (9 + 2 * m + 1) 2 57 (pS) = .ok q → (9 + 2 * m + 1 + 2 ≤ b.length ∧ q = rd b (9 + 2 * m + 1) 2 ∧ (pS) q = true)) := fun q hq => fld_k hq
  have FC : Hid _ := FC0
  clear FC0
  generalize fld b (9 + 2 * m + 1) 2 57 (pS) = FF at *
  cases FF with
  | error er =>
    obtain ⟨ec, ea⟩ := er
    have E0 : Hid (LL = .error (ec, ea)) := HE.out
    go_wp2_with (go_at_call 91; refine Calls.mono FC.out ?_; rintro e w' ⟨rfl, hB⟩; unfold thrown rejV)
    refine ⟨rfl, ?_⟩
    rw [E0.out]
    exact ⟨rfl, M.out.but.trans hB⟩
  | ok s =>
  have HE : Hid (LL = (lens b 4 (9 + 2 * m + 1 + 2) s).bind fun ss => (fld b (9 + 2 * m + 1 + 2 + 4 * s) 1 53 (fun n => n == 255)).bind fun _ => hdEnd b (9 + 2 * m + 1 + 2 + 4 * s + 1) cs ss) := HE.out
  have HK : Hid (9 + 2 * m + 1 + 2 ≤ b.length ∧ s = rd b (9 + 2 * m + 1) 2 ∧ (pS) s = true) := FK.out s rfl
  have HXs : Hid (s ≤ 65535 ∧ (pS) s = true) := ⟨by rw [HK.out.2.1]; exact rd_small HBY.out _ _ (by omega), HK.out.2.2⟩
  go_upto_region 13 with (go_at_call 91; refine Calls.mono FC.out ?_; rintro e W12 ⟨rfl, hR, hB⟩)
  have M2 : Hid (HdM rb b2 b3 w W12 bs b (.slice (some ⟨ga, 0, none⟩) m m) (.slice none 0 0) cs [] 0 (9 + 2 * m + 1 + 2)) := M.out.read HRG.out hB hR HK.out.1
  clear hR hB HK FC FK M
  have M := M2
  clear M2
  have hs4 : s ≤ 256 := by
    have h1 := HXs.out.2
    unfold pS at h1
    simp at h1
    omega
  have HS4 : Hid (s ≤ 256) := hs4
  have FC0 := rlengths_is W12 rb bs b (9 + 2 * m + 1 + 2) s 4 M.out.rd M.out.kl (by omega) (by omega)
  have FK : Hid (∀ q, lens b 4 (9 + 2 * m + 1 + 2) s = .ok q → (q.length = s ∧ 9 + 2 * m + 1 + 2 + 4 * s ≤ b.length)) := fun q hq => ⟨lens_len b 4 _ s q hq, lens_k b 4 _ s q hq M.out.kl⟩
  have FC : Hid _ := FC0
  clear FC0 hs4
  generalize lens b 4 (9 + 2 * m + 1 + 2) s = FF at *
  cases FF with
  | error er =>
    obtain ⟨ec, ea⟩ := er
    have E0 : Hid (LL = .error (ec, ea)) := HE.out
    go_wp2_with (go_at_call 94; refine Calls.mono FC.out ?_; rintro e w' ⟨rfl, hB⟩; unfold thrown rejV)
    refine ⟨rfl, ?_⟩
    rw [E0.out]
    exact ⟨rfl, M.out.but.trans hB⟩
  | ok ss =>
  have HE : Hid (LL = (fld b (9 + 2 * m + 1 + 2 + 4 * s) 1 53 (fun n => n == 255)).bind fun _ => hdEnd b (9 + 2 * m + 1 + 2 + 4 * s + 1) cs ss) := HE.out
  have HLnss : Hid (ss.length = s ∧ 9 + 2 * m + 1 + 2 + 4 * s ≤ b.length) := FK.out ss rfl
  go_upto_region 14 with (go_at_call 94; refine Calls.mono FC.out ?_; rintro e w9 hQ; (obtain ⟨g9, rfl, hC9, _⟩ := LnQ.ex hQ); (have N0 := M.out.read HRG.out (LnQ.but hQ) (LnQ.rd hQ) HLnss.out.2); (have z1 : w9.cell? ⟨b3, 1, none⟩ = some (.slice none 0 0) := N0.c3.cell 1); (have z2 := N0.c3.frozen 1); (have hU9 : UL w9 (.slice (some ⟨g9, 0, none⟩) s s) ss := Or.inr ⟨g9, by rw [HLnss.out.1], hC9⟩); rw [HLnss.out.1])
  have M2 : Hid (HdM rb b2 b3 w (w9.setCell ⟨b3, 1, none⟩ (.slice (some ⟨g9, 0, none⟩) s s)) bs b (.slice (some ⟨ga, 0, none⟩) m m) (.slice (some ⟨g9, 0, none⟩) s s) cs ss 0 (9 + 2 * m + 1 + 2 + 4 * s)) := HdM.put1 N0 HRG.out hU9
  clear z1 z2 hU9 N0 hC9 hQ FC FK M
  generalize w9.setCell ⟨b3, 1, none⟩ _ = W13 at M2 ⊢
  have M := M2
  clear M2
  generalize hg9 : g9 = gc at M ⊢
  clear hg9
  have HE : Hid (LL = (fld b (9 + 2 * m + 1 + 2 + 4 * s) 1 53 (fun n => n == 255)).bind fun _ => hdEnd b (9 + 2 * m + 1 + 2 + 4 * s + 1) cs ss) := HE.out
  have FC0 := fixed_is W13 rb bs b (9 + 2 * m + 1 + 2 + 4 * s) 255 53 M.out.rd M.out.kl
  have FK : Hid (∀ q, fld b (9 + 2 * m + 1 + 2 + 4 * s) 1 53 (fun n => n == 255) = .ok q → 9 + 2 * m + 1 + 2 + 4 * s + 1 ≤ b.length) := fun q hq => (fld_k hq).1
  have FC : Hid _ := FC0
  clear FC0
  generalize fld b (9 + 2 * m + 1 + 2 + 4 * s) 1 53 (fun n => n == 255) = FF at *
  cases FF with
  | error er =>
    obtain ⟨ec, ea⟩ := er
    have E0 : Hid (LL = .error (ec, ea)) := HE.out
    go_wp2_with (go_at_call 90; refine Calls.mono FC.out ?_; rintro e w' ⟨rfl, hB⟩; unfold thrown rejV)
    refine ⟨rfl, ?_⟩
    rw [E0.out]
    exact ⟨rfl, M.out.but.trans hB⟩
  | ok xq =>
  have HE : Hid (LL = hdEnd b (9 + 2 * m + 1 + 2 + 4 * s + 1) cs ss) := HE.out
  have HK := FK.out xq rfl
  go_upto_region 15 with (go_at_call 90; refine Calls.mono FC.out ?_; rintro e W14 ⟨rfl, hR, hB⟩)
  have M2 : Hid (HdM rb b2 b3 w W14 bs b (.slice (some ⟨ga, 0, none⟩) m m) (.slice (some ⟨gc, 0, none⟩) s s) cs ss 0 (9 + 2 * m + 1 + 2 + 4 * s + 1)) := M.out.read HRG.out hB hR HK
  clear hR hB HK FC FK M
  have M := M2
  clear M2
  have HE : Hid (LL = (fld b (9 + 2 * m + 1 + 2 + 4 * s + 1) 2 0 (fun _ => true)).bind fun d => (fld b (9 + 2 * m + 1 + 2 + 4 * s + 1 + 2) 1 53 (fun n => n == 0)).bind fun _ => .ok ⟨cs, ss, d, 9 + 2 * m + 1 + 2 + 4 * s + 1 + 3⟩) := HE.out
  by_cases ec : b.length < 9 + 2 * m + 1 + 2 + 4 * s + 1 + 2
  · have E0 : Hid (LL = .error (50, b.length)) := by unfold Hid; rw [HE.out, fld_cut ec]; rfl
    have FC0 := number_cut W14 rb bs b (9 + 2 * m + 1 + 2 + 4 * s + 1) 2 M.out.rd M.out.kl (by omega) ec
    have FC : Hid _ := FC0
    clear FC0 ec HE
    go_wp2_with (go_at_call 97; refine Calls.mono FC.out ?_; rintro e w' ⟨rfl, hB⟩; unfold thrown rejV)
    refine ⟨rfl, ?_⟩
    rw [E0.out]
    exact ⟨rfl, M.out.but.trans (below_but hB)⟩
  have HE : Hid (LL = (fld b (9 + 2 * m + 1 + 2 + 4 * s + 1 + 2) 1 53 (fun n => n == 0)).bind fun _ => .ok ⟨cs, ss, rd b (9 + 2 * m + 1 + 2 + 4 * s + 1) 2, 9 + 2 * m + 1 + 2 + 4 * s + 1 + 3⟩) := by unfold Hid; rw [HE.out, fld_ok (by omega) rfl]; rfl
  have FC0 := number_ok W14 rb bs b (9 + 2 * m + 1 + 2 + 4 * s + 1) 2 M.out.rd (by omega) (by omega)
  have HDL : Hid (rd b (9 + 2 * m + 1 + 2 + 4 * s + 1) 2 ≤ 65535) := rd_small HBY.out _ _ (by omega)
  have HK2 : Hid (9 + 2 * m + 1 + 2 + 4 * s + 1 + 2 ≤ b.length) := by unfold Hid; omega
  have FC : Hid _ := FC0
  clear FC0 ec
  generalize rd b (9 + 2 * m + 1 + 2 + 4 * s + 1) 2 = dd at *
  go_upto_region 16 with (go_at_call 97; refine Calls.mono FC.out ?_; rintro e w8 ⟨rfl, hR, hB⟩; (have N0 := M.out.read HRG.out hB hR HK2.out); (have z1 : w8.cell? ⟨b3, 2, none⟩ = some (.int .u64 0) := N0.c3.cell 2); (have z2 := N0.c3.frozen 2))
  have M2 : Hid (HdM rb b2 b3 w (w8.setCell ⟨b3, 2, none⟩ (.int .u64 (dd : Int))) bs b (.slice (some ⟨ga, 0, none⟩) m m) (.slice (some ⟨gc, 0, none⟩) s s) cs ss dd (9 + 2 * m + 1 + 2 + 4 * s + 1 + 2)) := HdM.put2 N0 HRG.out dd
  clear z1 z2 N0 hR hB FC M
  generalize w8.setCell ⟨b3, 2, none⟩ _ = Wr at M2 ⊢
  have M := M2
  clear M2
  have HE : Hid (LL = (fld b (9 + 2 * m + 1 + 2 + 4 * s + 1 + 2) 1 53 (fun n => n == 0)).bind fun _ => .ok ⟨cs, ss, dd, 9 + 2 * m + 1 + 2 + 4 * s + 1 + 3⟩) := HE.out
  have FC0 := fixed_is Wr rb bs b (9 + 2 * m + 1 + 2 + 4 * s + 1 + 2) 0 53 M.out.rd M.out.kl
  have FK : Hid (∀ q, fld b (9 + 2 * m + 1 + 2 + 4 * s + 1 + 2) 1 53 (fun n => n == 0) = .ok q → 9 + 2 * m + 1 + 2 + 4 * s + 1 + 2 + 1 ≤ b.length) := fun q hq => (fld_k hq).1
  have FC : Hid _ := FC0
  clear FC0
  generalize fld b (9 + 2 * m + 1 + 2 + 4 * s + 1 + 2) 1 53 (fun n => n == 0) = FF at *
  cases FF with
  | error er =>
    obtain ⟨ec, ea⟩ := er
    have E0 : Hid (LL = .error (ec, ea)) := HE.out
    go_wp2_with (go_at_call 90; refine Calls.mono FC.out ?_; rintro e w' ⟨rfl, hB⟩; unfold thrown rejV)
    refine ⟨rfl, ?_⟩
    rw [E0.out]
    exact ⟨rfl, M.out.but.trans hB⟩
  | ok xq =>
  have HE : Hid (LL = .ok ⟨cs, ss, dd, 9 + 2 * m + 1 + 2 + 4 * s + 1 + 3⟩) := HE.out
  have HK := FK.out xq rfl
  go_upto_region 17 with (go_at_call 90; refine Calls.mono FC.out ?_; rintro e Wfr ⟨rfl, hR, hB⟩)
  have M2 : Hid (HdM rb b2 b3 w Wfr bs b (.slice (some ⟨ga, 0, none⟩) m m) (.slice (some ⟨gc, 0, none⟩) s s) cs ss dd (9 + 2 * m + 1 + 2 + 4 * s + 1 + 2 + 1)) := M.out.read HRG.out hB hR HK
  clear hR hB HK FC FK M
  have M := M2
  clear M2
  have a0 : Wfr.cell? ⟨b3, 0, none⟩ = some (.slice (some ⟨ga, 0, none⟩) m m) := M.out.c3.cell 0
  have a1 : Wfr.cell? ⟨b3, 1, none⟩ = some (.slice (some ⟨gc, 0, none⟩) s s) := M.out.c3.cell 1
  have a2 : Wfr.cell? ⟨b3, 2, none⟩ = some (.int .u64 (dd : Int)) := M.out.c3.cell 2
  have k0 : Wfr.cell? ⟨b2, 0, none⟩ = some (.slice none 0 0) := M.out.c2.cell 0
  have k1 : Wfr.cell? ⟨b2, 1, none⟩ = some (.slice none 0 0) := M.out.c2.cell 1
  have k2 : Wfr.cell? ⟨b2, 2, none⟩ = some (.int .u64 0) := M.out.c2.cell 2
  have f0 := M.out.c2.frozen 0
  have f1 := M.out.c2.frozen 1
  have f2 := M.out.c2.frozen 2
  have HF : Hid (CBox (((Wfr.setCell ⟨b2, 0, none⟩ (.slice (some ⟨ga, 0, none⟩) m m)).setCell ⟨b2, 1, none⟩ (.slice (some ⟨gc, 0, none⟩) s s)).setCell ⟨b2, 2, none⟩ (.int .u64 (dd : Int))) b2 84 [.slice (some ⟨ga, 0, none⟩) m m, .slice (some ⟨gc, 0, none⟩) s s, .int .u64 (dd : Int)] ∧ UL (((Wfr.setCell ⟨b2, 0, none⟩ (.slice (some ⟨ga, 0, none⟩) m m)).setCell ⟨b2, 1, none⟩ (.slice (some ⟨gc, 0, none⟩) s s)).setCell ⟨b2, 2, none⟩ (.int .u64 (dd : Int))) (.slice (some ⟨ga, 0, none⟩) m m) cs ∧ UL (((Wfr.setCell ⟨b2, 0, none⟩ (.slice (some ⟨ga, 0, none⟩) m m)).setCell ⟨b2, 1, none⟩ (.slice (some ⟨gc, 0, none⟩) s s)).setCell ⟨b2, 2, none⟩ (.int .u64 (dd : Int))) (.slice (some ⟨gc, 0, none⟩) s s) ss ∧ Rdr (((Wfr.setCell ⟨b2, 0, none⟩ (.slice (some ⟨ga, 0, none⟩) m m)).setCell ⟨b2, 1, none⟩ (.slice (some ⟨gc, 0, none⟩) s s)).setCell ⟨b2, 2, none⟩ (.int .u64 (dd : Int))) rb bs b (9 + 2 * m + 1 + 2 + 4 * s + 1 + 2 + 1) ∧ RB rb w (((Wfr.setCell ⟨b2, 0, none⟩ (.slice (some ⟨ga, 0, none⟩) m m)).setCell ⟨b2, 1, none⟩ (.slice (some ⟨gc, 0, none⟩) s s)).setCell ⟨b2, 2, none⟩ (.int .u64 (dd : Int))) ∧ 9 + 2 * m + 1 + 2 + 4 * s + 1 + 2 + 1 ≤ b.length) := by
    have hs : But (fun y => y = b2) Wfr (((Wfr.setCell ⟨b2, 0, none⟩ (.slice (some ⟨ga, 0, none⟩) m m)).setCell ⟨b2, 1, none⟩ (.slice (some ⟨gc, 0, none⟩) s s)).setCell ⟨b2, 2, none⟩ (.int .u64 (dd : Int))) := (((But.refl (fun y => y = b2) Wfr).setCell ⟨b2, 0, none⟩ _ (Or.inl rfl)).setCell ⟨b2, 1, none⟩ _ (Or.inl rfl)).setCell ⟨b2, 2, none⟩ _ (Or.inl rfl)
    exact ⟨((M.out.c2.set 0 _).set 1 _).set 2 _, M.out.uc.but2 hs M.out.c2 (by decide), M.out.us.but2 hs M.out.c2 (by decide), M.out.rd.keep hs (fun y hy e => by have := M.out.n2; have := HRG.out; omega), ((M.out.but.setCell ⟨b2, 0, none⟩ _ (Or.inr M.out.n2)).setCell ⟨b2, 1, none⟩ _ (Or.inr M.out.n2)).setCell ⟨b2, 2, none⟩ _ (Or.inr M.out.n2), M.out.kl⟩
  clear M
  go_wp2
  clear a0 a1 a2 k0 k1 k2 f0 f1 f2
  generalize (((Wfr.setCell ⟨b2, 0, none⟩ (.slice (some ⟨ga, 0, none⟩) m m)).setCell ⟨b2, 1, none⟩ (.slice (some ⟨gc, 0, none⟩) s s)).setCell ⟨b2, 2, none⟩ (.int .u64 (dd : Int))) = Z9 at HF ⊢
  refine bodyPost_ret (v := .agg #[.slice (some ⟨ga, 0, none⟩) m m, .slice (some ⟨gc, 0, none⟩) s s, .int .u64 (dd : Int)]) (results_c (p := 2) (ty := 84) Try.results65 _ _ _ ⟨b2, 0, none⟩ rfl (run_loadVar_mid Z9 b2 0 84 [.slice (some ⟨ga, 0, none⟩) m m, .slice (some ⟨gc, 0, none⟩) s s, .int .u64 (dd : Int)] _ HF.out.1.range Try.underlying84 rfl (by kernel_rfl))) rfl ?_
  rw [HE.out]
  exact ⟨⟨_, _, rfl, HF.out.2.1, HF.out.2.2.1⟩, HF.out.2.2.2.1, HF.out.2.2.2.2.1, HF.out.2.2.2.2.2, HDL.out, by have := HLncs.out; have := HM4.out; (show cs.length ≤ 1024); omega, by have := HLnss.out; have := HS4.out; (show ss.length ≤ 256); omega⟩
end Go.Proofs.Ytndhabhlajldeaa
