/- Package container: writeTypes. -/
import Derived.Test.YtndhabhlajldeaaBki
namespace Go.Proofs.Ytndhabhlajldeaa
open Go.RowKit
/-- types that are being written -/
structure WT (B bp : Nat) (w W : World) (v0 v : Value) (l : List Nat) : Prop where
  app : App B 5 1 w W v0 v l.length (bV l)
  cp : CBox W bp 109 partsL
  hB : B ≤ w.heap.size
section
variable {B bp : Nat} {w W W' : World} {v0 v v' : Value} {l l' : List Nat}
theorem WT.le (h : WT B bp w W v0 v l) : B ≤ W.heap.size := Nat.le_trans h.hB h.app.but.size
theorem WT.past (h : WT B bp w W v0 v l) (k : Below W.heap.size W W') : WT B bp w W' v0 v l := ⟨h.app.then k, h.cp.past k, h.hB⟩
theorem WT.step (h : WT B bp w W v0 v l) (k : App B 5 1 W W' v v' l'.length (bV l')) : WT B bp w W' v0 v' l' := ⟨h.app.trans k, h.cp.app k h.app.row (by decide), h.hB⟩
end
def TyOk (t : Ty) : Prop := (0 ≤ t.1 ∧ t.1 ≤ 65535) ∧ (0 ≤ t.2.1 ∧ t.2.1 ≤ 65535) ∧ (0 ≤ t.2.2 ∧ t.2.2 ≤ 65535)
theorem tyb_len (t : Ty) : (tyb t).length = 4 := by simp only [tyb, List.length_append, dig_len]
theorem tys_len : ∀ l : List Ty, (l.flatMap tyb).length = 4 * l.length
  | [] => rfl
  | t :: l => by rw [List.flatMap_cons, List.length_append, tyb_len, tys_len l, List.length_cons]; omega
/-- of a type the first j numbers' bytes -/
def tybj (a b c : Nat) : Nat → List Nat
  | 0 => []
  | 1 => dig 1 a
  | 2 => dig 1 a ++ dig 1 b
  | _ => dig 1 a ++ dig 1 b ++ dig 2 c
theorem tybj_len (a b c j : Nat) : (tybj a b c j).length ≤ 4 := by
  unfold tybj
  split <;> simp only [List.length_append, List.length_nil, dig_len] <;> omega
set_option maxHeartbeats 4000000 in
set_option maxRecDepth 100000 in
theorem writeTypes_is {P : Nat → Prop} (w : World) (B : Nat) (hB : B ≤ w.heap.size) (v : Value) (l : List Nat) (hv : w.ownsRow B 5 1 v l.length (bV l)) (tv : Value) (ts : List Ty) (h : TL P w tv ts) (hP : ∀ g, P g → ¬ OwnV v g) (hT : ∀ t ∈ ts, TyOk t) (hn : ts.length ≤ 16777216) (hl : l.length ≤ 4294967296) :
    Calls Try.prog 76 #[v, tv] w fun e w' => ∃ v', e = .returned v' ∧ App B 5 1 w w' v v' (l ++ ts.flatMap tyb).length (bV (l ++ ts.flatMap tyb)) := by
  obtain ⟨ad, cap, rfl, hc0, hc1⟩ := h.len
  have HP : Hid (TL P w (.slice ad ts.length cap) ts ∧ ∀ g, P g → ¬ OwnV v g) := ⟨h, hP⟩
  have HV : Hid (w.ownsRow B 5 1 v l.length (bV l)) := hv
  have HTy : Hid (∀ t ∈ ts, TyOk t) := hT
  have HW : Hid (ts.length ≤ 16777216 ∧ l.length ≤ 4294967296 ∧ B ≤ w.heap.size) := ⟨hn, hl, hB⟩
  have nI : (ts.length : Int) ≤ 16777216 := by omega
  generalize hN : ts.length = n at *
  have HN : Hid (ts.length = n) := hN
  clear h hc0 hc1 hN hP hv hT hn hl hB
  go_enter Try.func76, Try.ntmps76
  go_upto_region 2 with (go_at_call 87; refine (typeParts_is _).mono ?_; rintro e w1 ⟨rfl, hB1⟩; unfold partsV partsL pF)
  have C0 : Hid (WT B w1.heap.size w (w1.alloc (.cells partsL.toArray 109)) v v l) := ⟨(App.refl HV.out).then (hB1.trans ((below_alloc _ _).mono hB1.size)), CBox.new _ _ _, HW.out.2.2⟩
  unfold partsL pF at C0
  clear hB1
  generalize w1.alloc _ = V0 at C0 ⊢
  generalize w1.heap.size = bp at C0 ⊢
  go_wp2
  go_loopw [0, 13] (fun s0 s13 wr => ∃ k : Nat, s13 = .int .i64 (k : Int) ∧ k ≤ n ∧ WT B bp w wr v s0 (l ++ (ts.take k).flatMap tyb)) (fun _ s13 _ => n - (intOf s13).toNat)
  case atStart => exact ⟨0, rfl, by omega, by simpa using C0.out⟩
  case round =>
    obtain ⟨k, rfl, hk, hM⟩ := hrel
    have HM : Hid (WT B bp w wr v u0 (l ++ (ts.take k).flatMap tyb)) := hM
    clear C0 hM
    by_cases e : k = n
    · subst e
      have E0 : Hid (App B 5 1 w wr v u0 (l ++ ts.flatMap tyb).length (bV (l ++ ts.flatMap tyb))) := by have := HM.out.app; rwa [List.take_of_length_le (by have := HN.out; omega)] at this
      go_wp2
      go_ret
      exact ⟨_, rfl, E0.out⟩
    · have kn : k < n := by omega
      have knI : (k : Int) < (n : Int) := by omega
      obtain ⟨⟨y1, y2, y3⟩, hl⟩ : ∃ t, ts[k]? = some t := ⟨ts[k]'(by have := HN.out; omega), List.getElem?_eq_getElem _⟩
      have ok := HTy.out _ (List.mem_of_getElem? hl)
      unfold TyOk at ok
      obtain ⟨t1, e1⟩ : ∃ t1 : Nat, y1 = (t1 : Int) := ⟨y1.toNat, by have := ok.1; simp only at this; omega⟩
      obtain ⟨t2, e2⟩ : ∃ t2 : Nat, y2 = (t2 : Int) := ⟨y2.toNat, by have := ok.2.1; simp only at this; omega⟩
      obtain ⟨t3, e3⟩ : ∃ t3 : Nat, y3 = (t3 : Int) := ⟨y3.toNat, by have := ok.2.2; simp only at this; omega⟩
      subst e1 e2 e3
      have HT : Hid (t1 ≤ 65535 ∧ t2 ≤ 65535 ∧ t3 ≤ 65535) := by unfold Hid; simp only at ok; omega
      obtain ⟨g, a, rfl, f0, f1, f2⟩ := (HP.out.1.but HM.out.app.but HP.out.2).get hl
      have w1 : IntKind.u64.wrap (t1 : Int) = (t1 : Int) := by rw [IntKind.wrap_u64]; have := HT.out; omega
      have w2 : IntKind.u64.wrap (t2 : Int) = (t2 : Int) := by rw [IntKind.wrap_u64]; have := HT.out; omega
      have w3 : IntKind.u64.wrap (t3 : Int) = (t3 : Int) := by rw [IntKind.wrap_u64]; have := HT.out; omega
      have EL : Hid ((ts.take (k + 1)).flatMap tyb = (ts.take k).flatMap tyb ++ tybj t1 t2 t3 3) := by unfold Hid; rw [flat_snoc hl]; simp [tyb, tybj]
      have CT : Hid (WT B bp w (wr.alloc (.cells #[.int .i64 (t1 : Int), .int .i64 (t2 : Int), .int .i64 (t3 : Int)] 77)) v u0 (l ++ ((ts.take k).flatMap tyb ++ tybj t1 t2 t3 0)) ∧ CBox (wr.alloc (.cells #[.int .i64 (t1 : Int), .int .i64 (t2 : Int), .int .i64 (t3 : Int)] 77)) wr.heap.size 77 [.int .i64 (t1 : Int), .int .i64 (t2 : Int), .int .i64 (t3 : Int)]) := ⟨by simpa [tybj] using HM.out.past (below_alloc _ _), CBox.new _ _ [_, _, _]⟩
      clear hl ok HM
      go_upto_region 5 with fail
      generalize wr.alloc _ = V1 at CT ⊢
      generalize wr.heap.size = bt at CT ⊢
      clear f0 f1 f2
      have p0 : V1.cell? ⟨bp, 0, none⟩ = some (.int .i64 1) := CT.out.1.cp.cell 0
      have p1 : V1.cell? ⟨bp, 1, none⟩ = some (.func (.func 106) #[] #[]) := CT.out.1.cp.cell 1
      have p2 : V1.cell? ⟨bp, 2, none⟩ = some (.func (.func 107) #[] #[]) := CT.out.1.cp.cell 2
      have p3 : V1.cell? ⟨bp, 3, none⟩ = some (.int .i64 1) := CT.out.1.cp.cell 3
      have p4 : V1.cell? ⟨bp, 4, none⟩ = some (.func (.func 108) #[] #[]) := CT.out.1.cp.cell 4
      have p5 : V1.cell? ⟨bp, 5, none⟩ = some (.func (.func 109) #[] #[]) := CT.out.1.cp.cell 5
      have p6 : V1.cell? ⟨bp, 6, none⟩ = some (.int .i64 2) := CT.out.1.cp.cell 6
      have p7 : V1.cell? ⟨bp, 7, none⟩ = some (.func (.func 110) #[] #[]) := CT.out.1.cp.cell 7
      have p8 : V1.cell? ⟨bp, 8, none⟩ = some (.func (.func 111) #[] #[]) := CT.out.1.cp.cell 8
      go_wp2
      clear p0 p1 p2 p3 p4 p5 p6 p7 p8
      go_loopw [0, 18] (fun s0 s18 wq => ∃ j : Nat, s18 = .int .i64 (j : Int) ∧ j ≤ 3 ∧ WT B bp w wq v s0 (l ++ ((ts.take k).flatMap tyb ++ tybj t1 t2 t3 j)) ∧ CBox wq bt 77 [.int .i64 (t1 : Int), .int .i64 (t2 : Int), .int .i64 (t3 : Int)]) (fun _ s18 _ => 3 - (intOf s18).toNat)
      case atStart => exact ⟨0, rfl, by omega, CT.out⟩
      case round =>
        obtain ⟨j, rfl, hj, hM, hC⟩ := hrel
        clear CT
        generalize hvq : (u0 : Value) = vq at *
        obtain rfl | rfl | rfl | rfl : j = 3 ∨ j = 0 ∨ j = 1 ∨ j = 2 := by omega
        · have E0 : Hid (WT B bp w wr v vq (l ++ (ts.take (k + 1)).flatMap tyb)) := by unfold Hid; rw [EL.out]; exact hM
          clear hM hC
          go_wp2
          go_roundw
          case rel => exact ⟨k + 1, by first | rfl | go_num, by omega, E0.out⟩
          case measure => simp [intOf]; omega
        · have C7 : Hid (WT B bp w (wr.alloc (.cells #[.int .i64 1, .func (.func 106) #[] #[], .func (.func 107) #[] #[]] 108)) v vq (l ++ ((ts.take k).flatMap tyb ++ tybj t1 t2 t3 0)) ∧ CBox (wr.alloc (.cells #[.int .i64 1, .func (.func 106) #[] #[], .func (.func 107) #[] #[]] 108)) bt 77 [.int .i64 (t1 : Int), .int .i64 (t2 : Int), .int .i64 (t3 : Int)] ∧ CBox (wr.alloc (.cells #[.int .i64 1, .func (.func 106) #[] #[], .func (.func 107) #[] #[]] 108)) wr.heap.size 108 [.int .i64 1, .func (.func 106) #[] #[], .func (.func 107) #[] #[]]) := ⟨hM.past (below_alloc _ _), hC.past (below_alloc _ _), CBox.new _ _ [_, _, _]⟩
          have ix := ixp0 wr
          clear hM hC
          go_upto_region 8 with fail
          clear ix
          generalize wr.alloc _ = V7 at C7 ⊢
          generalize wr.heap.size = b9 at C7 ⊢
          have S7 : CBox V7.drew bt 77 [.int .i64 (t1 : Int), .int .i64 (t2 : Int), .int .i64 (t3 : Int)] ∧ CBox V7.drew b9 108 [.int .i64 1, .func (.func 106) #[] #[], .func (.func 107) #[] #[]] := ⟨C7.out.2.1.past below_drew, C7.out.2.2.past below_drew⟩
          refine wp_region_held_drew (S := fun V' => CBox V' bt 77 [.int .i64 (t1 : Int), .int .i64 (t2 : Int), .int .i64 (t3 : Int)] ∧ CBox V' b9 108 [.int .i64 1, .func (.func 106) #[] #[], .func (.func 107) #[] #[]]) (by kernel_rfl) S7 (fun hHeld => ?_)
          have M0 : Hid (WT B bp w V7.drew v vq (l ++ ((ts.take k).flatMap tyb ++ tybj t1 t2 t3 0))) := C7.out.1.past below_drew
          clear C7 S7
          generalize V7.drew = z0 at hHeld M0 ⊢
          refine wpAnyH_take (i := 0) (v := vq) ov0 (by kernel_rfl) (by kernel_rfl) (by kernel_rfl) (fun _ _ _ h => h) (Or.inl ⟨by rfl, fun V' hS => ?_⟩) hHeld ?_
          · go_simp
          simp only [Act.put, List.setIfInBounds_toArray, List.set_cons_zero, List.set_cons_succ]
          refine wpAnyH_take (i := 1) (v := .pointer (some ⟨b9, 0, none⟩)) ov1 (by kernel_rfl) (by kernel_rfl) (by kernel_rfl) (fun _ _ _ h => h) (Or.inl ⟨by rfl, fun V' hS => ?_⟩) hHeld ?_
          · go_simp
          simp only [Act.put, List.setIfInBounds_toArray, List.set_cons_zero, List.set_cons_succ]
          refine wpAnyH_take (i := 2) (v := .int .i64 1) ov2 (by kernel_rfl) (by kernel_rfl) (by kernel_rfl) (fun _ _ _ h => h) (Or.inl ⟨by rfl, fun V' hS => ?_⟩) hHeld ?_
          · have c2 : V'.cell? ⟨b9, 0, none⟩ = some (.int .i64 1) := hS.2.cell 0
            go_simp
          simp only [Act.put, List.setIfInBounds_toArray, List.set_cons_zero, List.set_cons_succ]
          refine wpAnyH_take (i := 3) (v := .pointer (some ⟨b9, 1, none⟩)) ov3 (by kernel_rfl) (by kernel_rfl) (by kernel_rfl) (fun _ _ _ h => h) (Or.inl ⟨by rfl, fun V' hS => ?_⟩) hHeld ?_
          · go_simp
          simp only [Act.put, List.setIfInBounds_toArray, List.set_cons_zero, List.set_cons_succ]
          refine wpAnyH_take (i := 4) (v := .func (.func 106) #[] #[]) ov4 (by kernel_rfl) (by kernel_rfl) (by kernel_rfl) (fun _ _ _ h => h) (Or.inl ⟨by rfl, fun V' hS => ?_⟩) hHeld ?_
          · have c1 : V'.cell? ⟨b9, 1, none⟩ = some (.func (.func 106) #[] #[]) := hS.2.cell 1
            go_simp
          simp only [Act.put, List.setIfInBounds_toArray, List.set_cons_zero, List.set_cons_succ]
          refine wpAnyH_ready (rs := [5]) (by kernel_rfl) (by simp) ?_
          refine AllReadyH.cons ov5 (fun K hK => ?_) AllReadyH.nil
          rw [if_pos (by rfl)]
          go_simp
          refine (of0_is _ bt 0).mono ?_
          rintro e w' ⟨rfl, hw⟩
          have hw2 := hw.symm
          clear hw
          subst hw2
          (try go_wp2_with fail)
          refine hK.out _ _ hHeld (fun _ => ?_)
          clear hK K
          (try simp only [Act.put, List.setIfInBounds_toArray, List.set_cons_zero, List.set_cons_succ])
          refine wpAnyH_take (i := 6) (v := .pointer (some ⟨bt, 0, none⟩)) ov6 (by kernel_rfl) (by kernel_rfl) (by kernel_rfl) (fun _ _ _ h => h) (Or.inl ⟨by rfl, fun V' hS => ?_⟩) hHeld ?_
          · go_simp
          simp only [Act.put, List.setIfInBounds_toArray, List.set_cons_zero, List.set_cons_succ]
          refine wpAnyH_take (i := 7) (v := .int .i64 (t1 : Int)) ov7 (by kernel_rfl) (by kernel_rfl) (by kernel_rfl) (fun _ _ _ h => h) (Or.inl ⟨by rfl, fun V' hS => ?_⟩) hHeld ?_
          · have ct : V'.cell? ⟨bt, 0, none⟩ = some (.int .i64 (t1 : Int)) := hS.1.cell 0
            go_simp
          simp only [Act.put, List.setIfInBounds_toArray, List.set_cons_zero, List.set_cons_succ]
          refine wpAnyH_take (i := 8) (v := .int .u64 (t1 : Int)) ov8 (by kernel_rfl) (by kernel_rfl) (by kernel_rfl) (fun _ _ _ h => h) (Or.inl ⟨by rfl, fun V' hS => ?_⟩) hHeld ?_
          · go_simp
          simp only [Act.put, List.setIfInBounds_toArray, List.set_cons_zero, List.set_cons_succ]
          refine wpAnyH_ready (rs := [9]) (by kernel_rfl) (by simp) ?_
          refine AllReadyH.cons ov9 (fun K hK => ?_) AllReadyH.nil
          rw [if_pos (by rfl)]
          go_simp
          refine (writeNumber_is _ B M0.out.le vq (l ++ ((ts.take k).flatMap tyb ++ tybj t1 t2 t3 0)) M0.out.app.row 1 t1 (by omega) (by have := HT.out; omega) (by have h1 := HW.out; have h2 := tys_len (ts.take k); have h3 := tybj_len t1 t2 t3 0; have h4 := HN.out; rw [List.length_append, List.length_append]; rw [List.length_take] at h2; omega)).mono ?_
          rintro e z3 ⟨v3, rfl, hA3⟩
          have M3 : Hid (WT B bp w z3 v v3 ((l ++ ((ts.take k).flatMap tyb ++ tybj t1 t2 t3 0)) ++ dig 1 t1)) := M0.out.step hA3
          have H3 := (⟨hHeld.1.app hA3 M0.out.app.row (by decide), hHeld.2.app hA3 M0.out.app.row (by decide)⟩ : _ ∧ _)
          clear hA3
          (try go_wp2_with fail)
          refine hK.out _ _ H3 (fun _ => ?_)
          clear hK K
          (try simp only [Act.put, List.setIfInBounds_toArray, List.set_cons_zero, List.set_cons_succ])
          refine wpAnyH_take (i := 10) (v := v3) ov10 (by kernel_rfl) (by kernel_rfl) (by kernel_rfl) (fun _ _ _ h => h) (Or.inl ⟨by rfl, fun V' hS => ?_⟩) H3 ?_
          · go_simp
          simp only [Act.put, List.setIfInBounds_toArray, List.set_cons_zero]
          refine wpAnyH_done (by kernel_rfl) ?_ _
          have E3 : Hid (WT B bp w z3 v v3 (l ++ ((ts.take k).flatMap tyb ++ tybj t1 t2 t3 1)) ∧ CBox z3 bt 77 [.int .i64 (t1 : Int), .int .i64 (t2 : Int), .int .i64 (t3 : Int)]) := ⟨by have := M3.out; rw [List.append_assoc, List.append_assoc] at this; rw [tybj, List.nil_append] at this; exact this, H3.1⟩
          clear M3 H3 hHeld M0
          go_wp2
          go_roundw
          case rel => exact ⟨1, by first | rfl | go_num, by omega, E3.out⟩
          case measure => simp [intOf]
        · have C7 : Hid (WT B bp w (wr.alloc (.cells #[.int .i64 1, .func (.func 108) #[] #[], .func (.func 109) #[] #[]] 108)) v vq (l ++ ((ts.take k).flatMap tyb ++ tybj t1 t2 t3 1)) ∧ CBox (wr.alloc (.cells #[.int .i64 1, .func (.func 108) #[] #[], .func (.func 109) #[] #[]] 108)) bt 77 [.int .i64 (t1 : Int), .int .i64 (t2 : Int), .int .i64 (t3 : Int)] ∧ CBox (wr.alloc (.cells #[.int .i64 1, .func (.func 108) #[] #[], .func (.func 109) #[] #[]] 108)) wr.heap.size 108 [.int .i64 1, .func (.func 108) #[] #[], .func (.func 109) #[] #[]]) := ⟨hM.past (below_alloc _ _), hC.past (below_alloc _ _), CBox.new _ _ [_, _, _]⟩
          have ix := ixp1 wr
          clear hM hC
          go_upto_region 8 with fail
          clear ix
          generalize wr.alloc _ = V7 at C7 ⊢
          generalize wr.heap.size = b9 at C7 ⊢
          have S7 : CBox V7.drew bt 77 [.int .i64 (t1 : Int), .int .i64 (t2 : Int), .int .i64 (t3 : Int)] ∧ CBox V7.drew b9 108 [.int .i64 1, .func (.func 108) #[] #[], .func (.func 109) #[] #[]] := ⟨C7.out.2.1.past below_drew, C7.out.2.2.past below_drew⟩
          refine wp_region_held_drew (S := fun V' => CBox V' bt 77 [.int .i64 (t1 : Int), .int .i64 (t2 : Int), .int .i64 (t3 : Int)] ∧ CBox V' b9 108 [.int .i64 1, .func (.func 108) #[] #[], .func (.func 109) #[] #[]]) (by kernel_rfl) S7 (fun hHeld => ?_)
          have M0 : Hid (WT B bp w V7.drew v vq (l ++ ((ts.take k).flatMap tyb ++ tybj t1 t2 t3 1))) := C7.out.1.past below_drew
          clear C7 S7
          generalize V7.drew = z0 at hHeld M0 ⊢
          refine wpAnyH_take (i := 0) (v := vq) ov0 (by kernel_rfl) (by kernel_rfl) (by kernel_rfl) (fun _ _ _ h => h) (Or.inl ⟨by rfl, fun V' hS => ?_⟩) hHeld ?_
          · go_simp
          simp only [Act.put, List.setIfInBounds_toArray, List.set_cons_zero, List.set_cons_succ]
          refine wpAnyH_take (i := 1) (v := .pointer (some ⟨b9, 0, none⟩)) ov1 (by kernel_rfl) (by kernel_rfl) (by kernel_rfl) (fun _ _ _ h => h) (Or.inl ⟨by rfl, fun V' hS => ?_⟩) hHeld ?_
          · go_simp
          simp only [Act.put, List.setIfInBounds_toArray, List.set_cons_zero, List.set_cons_succ]
          refine wpAnyH_take (i := 2) (v := .int .i64 1) ov2 (by kernel_rfl) (by kernel_rfl) (by kernel_rfl) (fun _ _ _ h => h) (Or.inl ⟨by rfl, fun V' hS => ?_⟩) hHeld ?_
          · have c2 : V'.cell? ⟨b9, 0, none⟩ = some (.int .i64 1) := hS.2.cell 0
            go_simp
          simp only [Act.put, List.setIfInBounds_toArray, List.set_cons_zero, List.set_cons_succ]
          refine wpAnyH_take (i := 3) (v := .pointer (some ⟨b9, 1, none⟩)) ov3 (by kernel_rfl) (by kernel_rfl) (by kernel_rfl) (fun _ _ _ h => h) (Or.inl ⟨by rfl, fun V' hS => ?_⟩) hHeld ?_
          · go_simp
          simp only [Act.put, List.setIfInBounds_toArray, List.set_cons_zero, List.set_cons_succ]
          refine wpAnyH_take (i := 4) (v := .func (.func 108) #[] #[]) ov4 (by kernel_rfl) (by kernel_rfl) (by kernel_rfl) (fun _ _ _ h => h) (Or.inl ⟨by rfl, fun V' hS => ?_⟩) hHeld ?_
          · have c1 : V'.cell? ⟨b9, 1, none⟩ = some (.func (.func 108) #[] #[]) := hS.2.cell 1
            go_simp
          simp only [Act.put, List.setIfInBounds_toArray, List.set_cons_zero, List.set_cons_succ]
          refine wpAnyH_ready (rs := [5]) (by kernel_rfl) (by simp) ?_
          refine AllReadyH.cons ov5 (fun K hK => ?_) AllReadyH.nil
          rw [if_pos (by rfl)]
          go_simp
          refine (of1_is _ bt 0).mono ?_
          rintro e w' ⟨rfl, hw⟩
          have hw2 := hw.symm
          clear hw
          subst hw2
          (try go_wp2_with fail)
          refine hK.out _ _ hHeld (fun _ => ?_)
          clear hK K
          (try simp only [Act.put, List.setIfInBounds_toArray, List.set_cons_zero, List.set_cons_succ])
          refine wpAnyH_take (i := 6) (v := .pointer (some ⟨bt, 1, none⟩)) ov6 (by kernel_rfl) (by kernel_rfl) (by kernel_rfl) (fun _ _ _ h => h) (Or.inl ⟨by rfl, fun V' hS => ?_⟩) hHeld ?_
          · go_simp
          simp only [Act.put, List.setIfInBounds_toArray, List.set_cons_zero, List.set_cons_succ]
          refine wpAnyH_take (i := 7) (v := .int .i64 (t2 : Int)) ov7 (by kernel_rfl) (by kernel_rfl) (by kernel_rfl) (fun _ _ _ h => h) (Or.inl ⟨by rfl, fun V' hS => ?_⟩) hHeld ?_
          · have ct : V'.cell? ⟨bt, 1, none⟩ = some (.int .i64 (t2 : Int)) := hS.1.cell 1
            go_simp
          simp only [Act.put, List.setIfInBounds_toArray, List.set_cons_zero, List.set_cons_succ]
          refine wpAnyH_take (i := 8) (v := .int .u64 (t2 : Int)) ov8 (by kernel_rfl) (by kernel_rfl) (by kernel_rfl) (fun _ _ _ h => h) (Or.inl ⟨by rfl, fun V' hS => ?_⟩) hHeld ?_
          · go_simp
          simp only [Act.put, List.setIfInBounds_toArray, List.set_cons_zero, List.set_cons_succ]
          refine wpAnyH_ready (rs := [9]) (by kernel_rfl) (by simp) ?_
          refine AllReadyH.cons ov9 (fun K hK => ?_) AllReadyH.nil
          rw [if_pos (by rfl)]
          go_simp
          refine (writeNumber_is _ B M0.out.le vq (l ++ ((ts.take k).flatMap tyb ++ tybj t1 t2 t3 1)) M0.out.app.row 1 t2 (by omega) (by have := HT.out; omega) (by have h1 := HW.out; have h2 := tys_len (ts.take k); have h3 := tybj_len t1 t2 t3 1; have h4 := HN.out; rw [List.length_append, List.length_append]; rw [List.length_take] at h2; omega)).mono ?_
          rintro e z3 ⟨v3, rfl, hA3⟩
          have M3 : Hid (WT B bp w z3 v v3 ((l ++ ((ts.take k).flatMap tyb ++ tybj t1 t2 t3 1)) ++ dig 1 t2)) := M0.out.step hA3
          have H3 := (⟨hHeld.1.app hA3 M0.out.app.row (by decide), hHeld.2.app hA3 M0.out.app.row (by decide)⟩ : _ ∧ _)
          clear hA3
          (try go_wp2_with fail)
          refine hK.out _ _ H3 (fun _ => ?_)
          clear hK K
          (try simp only [Act.put, List.setIfInBounds_toArray, List.set_cons_zero, List.set_cons_succ])
          refine wpAnyH_take (i := 10) (v := v3) ov10 (by kernel_rfl) (by kernel_rfl) (by kernel_rfl) (fun _ _ _ h => h) (Or.inl ⟨by rfl, fun V' hS => ?_⟩) H3 ?_
          · go_simp
          simp only [Act.put, List.setIfInBounds_toArray, List.set_cons_zero]
          refine wpAnyH_done (by kernel_rfl) ?_ _
          have E3 : Hid (WT B bp w z3 v v3 (l ++ ((ts.take k).flatMap tyb ++ tybj t1 t2 t3 2)) ∧ CBox z3 bt 77 [.int .i64 (t1 : Int), .int .i64 (t2 : Int), .int .i64 (t3 : Int)]) := ⟨by have := M3.out; rw [List.append_assoc, List.append_assoc] at this; exact this, H3.1⟩
          clear M3 H3 hHeld M0
          go_wp2
          go_roundw
          case rel => exact ⟨2, by first | rfl | go_num, by omega, E3.out⟩
          case measure => simp [intOf]
        · have C7 : Hid (WT B bp w (wr.alloc (.cells #[.int .i64 2, .func (.func 110) #[] #[], .func (.func 111) #[] #[]] 108)) v vq (l ++ ((ts.take k).flatMap tyb ++ tybj t1 t2 t3 2)) ∧ CBox (wr.alloc (.cells #[.int .i64 2, .func (.func 110) #[] #[], .func (.func 111) #[] #[]] 108)) bt 77 [.int .i64 (t1 : Int), .int .i64 (t2 : Int), .int .i64 (t3 : Int)] ∧ CBox (wr.alloc (.cells #[.int .i64 2, .func (.func 110) #[] #[], .func (.func 111) #[] #[]] 108)) wr.heap.size 108 [.int .i64 2, .func (.func 110) #[] #[], .func (.func 111) #[] #[]]) := ⟨hM.past (below_alloc _ _), hC.past (below_alloc _ _), CBox.new _ _ [_, _, _]⟩
          have ix := ixp2 wr
          clear hM hC
          go_upto_region 8 with fail
          clear ix
          generalize wr.alloc _ = V7 at C7 ⊢
          generalize wr.heap.size = b9 at C7 ⊢
          have S7 : CBox V7.drew bt 77 [.int .i64 (t1 : Int), .int .i64 (t2 : Int), .int .i64 (t3 : Int)] ∧ CBox V7.drew b9 108 [.int .i64 2, .func (.func 110) #[] #[], .func (.func 111) #[] #[]] := ⟨C7.out.2.1.past below_drew, C7.out.2.2.past below_drew⟩
          refine wp_region_held_drew (S := fun V' => CBox V' bt 77 [.int .i64 (t1 : Int), .int .i64 (t2 : Int), .int .i64 (t3 : Int)] ∧ CBox V' b9 108 [.int .i64 2, .func (.func 110) #[] #[], .func (.func 111) #[] #[]]) (by kernel_rfl) S7 (fun hHeld => ?_)
          have M0 : Hid (WT B bp w V7.drew v vq (l ++ ((ts.take k).flatMap tyb ++ tybj t1 t2 t3 2))) := C7.out.1.past below_drew
          clear C7 S7
          generalize V7.drew = z0 at hHeld M0 ⊢
          refine wpAnyH_take (i := 0) (v := vq) ov0 (by kernel_rfl) (by kernel_rfl) (by kernel_rfl) (fun _ _ _ h => h) (Or.inl ⟨by rfl, fun V' hS => ?_⟩) hHeld ?_
          · go_simp
          simp only [Act.put, List.setIfInBounds_toArray, List.set_cons_zero, List.set_cons_succ]
          refine wpAnyH_take (i := 1) (v := .pointer (some ⟨b9, 0, none⟩)) ov1 (by kernel_rfl) (by kernel_rfl) (by kernel_rfl) (fun _ _ _ h => h) (Or.inl ⟨by rfl, fun V' hS => ?_⟩) hHeld ?_
          · go_simp
          simp only [Act.put, List.setIfInBounds_toArray, List.set_cons_zero, List.set_cons_succ]
          refine wpAnyH_take (i := 2) (v := .int .i64 2) ov2 (by kernel_rfl) (by kernel_rfl) (by kernel_rfl) (fun _ _ _ h => h) (Or.inl ⟨by rfl, fun V' hS => ?_⟩) hHeld ?_
          · have c2 : V'.cell? ⟨b9, 0, none⟩ = some (.int .i64 2) := hS.2.cell 0
            go_simp
          simp only [Act.put, List.setIfInBounds_toArray, List.set_cons_zero, List.set_cons_succ]
          refine wpAnyH_take (i := 3) (v := .pointer (some ⟨b9, 1, none⟩)) ov3 (by kernel_rfl) (by kernel_rfl) (by kernel_rfl) (fun _ _ _ h => h) (Or.inl ⟨by rfl, fun V' hS => ?_⟩) hHeld ?_
          · go_simp
          simp only [Act.put, List.setIfInBounds_toArray, List.set_cons_zero, List.set_cons_succ]
          refine wpAnyH_take (i := 4) (v := .func (.func 110) #[] #[]) ov4 (by kernel_rfl) (by kernel_rfl) (by kernel_rfl) (fun _ _ _ h => h) (Or.inl ⟨by rfl, fun V' hS => ?_⟩) hHeld ?_
          · have c1 : V'.cell? ⟨b9, 1, none⟩ = some (.func (.func 110) #[] #[]) := hS.2.cell 1
            go_simp
          simp only [Act.put, List.setIfInBounds_toArray, List.set_cons_zero, List.set_cons_succ]
          refine wpAnyH_ready (rs := [5]) (by kernel_rfl) (by simp) ?_
          refine AllReadyH.cons ov5 (fun K hK => ?_) AllReadyH.nil
          rw [if_pos (by rfl)]
          go_simp
          refine (of2_is _ bt 0).mono ?_
          rintro e w' ⟨rfl, hw⟩
          have hw2 := hw.symm
          clear hw
          subst hw2
          (try go_wp2_with fail)
          refine hK.out _ _ hHeld (fun _ => ?_)
          clear hK K
          (try simp only [Act.put, List.setIfInBounds_toArray, List.set_cons_zero, List.set_cons_succ])
          refine wpAnyH_take (i := 6) (v := .pointer (some ⟨bt, 2, none⟩)) ov6 (by kernel_rfl) (by kernel_rfl) (by kernel_rfl) (fun _ _ _ h => h) (Or.inl ⟨by rfl, fun V' hS => ?_⟩) hHeld ?_
          · go_simp
          simp only [Act.put, List.setIfInBounds_toArray, List.set_cons_zero, List.set_cons_succ]
          refine wpAnyH_take (i := 7) (v := .int .i64 (t3 : Int)) ov7 (by kernel_rfl) (by kernel_rfl) (by kernel_rfl) (fun _ _ _ h => h) (Or.inl ⟨by rfl, fun V' hS => ?_⟩) hHeld ?_
          · have ct : V'.cell? ⟨bt, 2, none⟩ = some (.int .i64 (t3 : Int)) := hS.1.cell 2
            go_simp
          simp only [Act.put, List.setIfInBounds_toArray, List.set_cons_zero, List.set_cons_succ]
          refine wpAnyH_take (i := 8) (v := .int .u64 (t3 : Int)) ov8 (by kernel_rfl) (by kernel_rfl) (by kernel_rfl) (fun _ _ _ h => h) (Or.inl ⟨by rfl, fun V' hS => ?_⟩) hHeld ?_
          · go_simp
          simp only [Act.put, List.setIfInBounds_toArray, List.set_cons_zero, List.set_cons_succ]
          refine wpAnyH_ready (rs := [9]) (by kernel_rfl) (by simp) ?_
          refine AllReadyH.cons ov9 (fun K hK => ?_) AllReadyH.nil
          rw [if_pos (by rfl)]
          go_simp
          refine (writeNumber_is _ B M0.out.le vq (l ++ ((ts.take k).flatMap tyb ++ tybj t1 t2 t3 2)) M0.out.app.row 2 t3 (by omega) (by have := HT.out; omega) (by have h1 := HW.out; have h2 := tys_len (ts.take k); have h3 := tybj_len t1 t2 t3 2; have h4 := HN.out; rw [List.length_append, List.length_append]; rw [List.length_take] at h2; omega)).mono ?_
          rintro e z3 ⟨v3, rfl, hA3⟩
          have M3 : Hid (WT B bp w z3 v v3 ((l ++ ((ts.take k).flatMap tyb ++ tybj t1 t2 t3 2)) ++ dig 2 t3)) := M0.out.step hA3
          have H3 := (⟨hHeld.1.app hA3 M0.out.app.row (by decide), hHeld.2.app hA3 M0.out.app.row (by decide)⟩ : _ ∧ _)
          clear hA3
          (try go_wp2_with fail)
          refine hK.out _ _ H3 (fun _ => ?_)
          clear hK K
          (try simp only [Act.put, List.setIfInBounds_toArray, List.set_cons_zero, List.set_cons_succ])
          refine wpAnyH_take (i := 10) (v := v3) ov10 (by kernel_rfl) (by kernel_rfl) (by kernel_rfl) (fun _ _ _ h => h) (Or.inl ⟨by rfl, fun V' hS => ?_⟩) H3 ?_
          · go_simp
          simp only [Act.put, List.setIfInBounds_toArray, List.set_cons_zero]
          refine wpAnyH_done (by kernel_rfl) ?_ _
          have E3 : Hid (WT B bp w z3 v v3 (l ++ ((ts.take k).flatMap tyb ++ tybj t1 t2 t3 3)) ∧ CBox z3 bt 77 [.int .i64 (t1 : Int), .int .i64 (t2 : Int), .int .i64 (t3 : Int)]) := ⟨by have := M3.out; rw [List.append_assoc, List.append_assoc] at this; exact this, H3.1⟩
          clear M3 H3 hHeld M0
          go_wp2
          go_roundw
          case rel => exact ⟨3, by first | rfl | go_num, by omega, E3.out⟩
          case measure => simp [intOf]
end Go.Proofs.Ytndhabhlajldeaa
