/- Containers that may be: what follows of Check; how many bytes there are. -/
import Derived.Test.YtndhabhlajldeaaMy2
import Derived.Defers
import Derived.Recover
import Derived.Laws.Slices
namespace Go.Proofs.Ytndhabhlajldeaa
open Go.RowKit
/-- not too great for the laws -/
def Small (c : Con) : Prop := c.ts.length + c.cs.length + c.ss.length + c.d.length + c.cs.flatten.length + c.ss.flatten.length ≤ 16777216
theorem chkT_ok : ∀ (l : List Ty) (i : Nat), chkT i l = 0 → ∀ t ∈ l, TyOk t
  | [], _, _ => fun t ht => by cases ht
  | x :: l, i, h => by
    unfold chkT at h
    split at h
    · exact absurd h (by decide)
    · rename_i hb
      intro t ht
      rcases List.mem_cons.1 ht with rfl | ht
      · have h0 : okIn i t.1 = true := by
          cases e : okIn i t.1
          · exact absurd (by unfold tyBad; rw [if_pos e]; omega) hb
          · rfl
        have h1 : okOut i t.2.1 = true := by
          cases e : okOut i t.2.1
          · exact absurd (by unfold tyBad; rw [if_neg (by rw [h0]; decide), if_pos e]; omega) hb
          · rfl
        have h2 : okMost t.2.2 = true := by
          cases e : okMost t.2.2
          · exact absurd (by unfold tyBad; rw [if_neg (by rw [h0]; decide), if_neg (by rw [h1]; decide), if_pos e]; omega) hb
          · rfl
        unfold okIn at h0
        unfold okOut at h1
        unfold okMost at h2
        simp at h0 h1 h2
        unfold TyOk
        omega
      · exact chkT_ok l (i + 1) h t ht
theorem chkP_ok (m : Nat) : ∀ l : List (List Nat), chkP m l = 0 → ∀ x ∈ l, 0 < x.length ∧ x.length ≤ m
  | [], _ => fun x hx => by cases hx
  | y :: l, h => by
    unfold chkP at h
    split at h
    · exact absurd h (by decide)
    · split at h
      · exact absurd h (by decide)
      · intro x hx
        rcases List.mem_cons.1 hx with rfl | hx
        · omega
        · exact chkP_ok m l h x hx
/-- what Check asks -/
structure May (c : Con) : Prop where
  n1 : 0 < c.cs.length
  n2 : c.cs.length ≤ 1024
  nt : c.ts.length = c.cs.length
  pc : chkP 65535 c.cs = 0
  ns : c.ss.length ≤ 256
  ps : chkP 4294967295 c.ss = 0
  z1 : c.n ≤ 65535
  z2 : (c.d.length : Int) ≤ c.n
  ty : chkT 0 c.ts = 0
theorem chk_may {c : Con} (h : chk c = 0) : May c := by
  unfold chk at h
  split at h
  · exact absurd h (by decide)
  rename_i h1
  split at h
  · exact absurd h (by decide)
  rename_i h2
  split at h
  · exact absurd h (by assumption)
  rename_i h3
  split at h
  · exact absurd h (by decide)
  rename_i h4
  split at h
  · exact absurd h (by assumption)
  rename_i h5
  split at h
  · exact absurd h (by decide)
  rename_i h6
  split at h
  · exact absurd h (by decide)
  rename_i h7
  exact ⟨by omega, by omega, by omega, by simpa using h3, by omega, by simpa using h5, by omega, by omega, h⟩
theorem may_chk {c : Con} (h : May c) : chk c = 0 := by
  have := h.n1; have := h.n2; have := h.nt; have := h.ns; have := h.z1; have := h.z2
  unfold chk
  rw [if_neg (by omega), if_neg (by omega), if_neg (by rw [h.pc]; simp), if_neg (by omega), if_neg (by rw [h.ps]; simp), if_neg (by omega), if_neg (by omega)]
  exact h.ty
theorem sum_lns : ∀ l : List (List Nat), sumL (lns l) = l.flatten.length
  | [] => rfl
  | x :: l => by rw [lns, List.map_cons, sumL_cons, List.flatten_cons, List.length_append, ← sum_lns l]; rfl
theorem hd_len (cs ss : List Nat) (n : Nat) : (hd cs ss n).length = 13 + 2 * cs.length + (if ss.length = 0 then 0 else 3 + 4 * ss.length) := by
  unfold hd
  split
  · simp only [List.length_append, List.length_cons, List.length_nil, dig_len, flat_len]; omega
  · simp only [List.length_append, List.length_cons, List.length_nil, dig_len, flat_len]; omega
theorem lns_len (l : List (List Nat)) : (lns l).length = l.length := by simp [lns]
theorem ser_len {c : Con} (h : May c) : (ser c).length = (hd (lns c.cs) (lns c.ss) c.n.toNat).length + (4 * (lns c.cs).length + sumL (lns c.cs) + sumL (lns c.ss)) + c.d.length := by
  unfold ser
  simp only [List.length_append, tys_len, sum_lns, lns_len, h.nt]
  omega
theorem ser_small {c : Con} (h : May c) (hs : Small c) : (ser c).length ≤ 67108864 := by
  rw [ser_len h, hd_len, sum_lns, sum_lns, lns_len, lns_len]
  unfold Small at hs
  have := h.n2
  have := h.ns
  split <;> omega
theorem lns_lt {c : Con} (hs : Small c) : (∀ x ∈ lns c.cs, x < 18446744073709551616) ∧ ∀ x ∈ lns c.ss, x < 18446744073709551616 := by
  have key : ∀ (l : List (List Nat)) (x : Nat), x ∈ lns l → x ≤ l.flatten.length := by
    intro l x hx
    obtain ⟨y, hy, rfl⟩ := List.mem_map.1 hx
    exact (List.sublist_flatten_of_mem hy).length_le
  unfold Small at hs
  exact ⟨fun x hx => by have := key _ x hx; omega, fun x hx => by have := key _ x hx; omega⟩
theorem App.nil_below {B : Nat} {t : TypeId} {s : Nat} {W W' : World} {v' : Value} {n c : Nat} {cs : List Value} (h : App B t s W W' (.slice none 0 c) v' n cs) : Below W.heap.size W W' := ⟨h.but.os, h.but.tape, h.but.output, h.but.size, fun k hk => h.but.block k hk fun e => by cases e⟩
theorem make0 (W : World) (M : Nat) (hM : M ≤ 140737488355328) : ∃ W1, Sem.run Try.prog (Instr.makeSlice 22 (.int .i64 0) (.int .i64 (M : Int))) W = .ok (.slice (some ⟨W.heap.size, 0, none⟩) 0 M) W1 ∧ W1.ownsRow W.heap.size 5 1 (.slice (some ⟨W.heap.size, 0, none⟩) 0 M) 0 (bV []) ∧ Below W.heap.size W W1 := by
  obtain ⟨i0, hi0, hz0, hz1, hz2⟩ := info_parts Try.info8
  have h := run_make (P := Try.prog) W 22 5 i0 (.int .u8 0) Try.underlying22 hi0 hz0 .i64 .i64 0 (M : Int) (by omega) (by omega) (by rw [hz2]; omega) (by omega)
  rw [hz1, Int.toNat_natCast, Nat.mul_one] at h
  refine ⟨_, h, ⟨rfl, Or.inr ⟨W.heap.size, M, madeCells (Value.int .u8 0).cells M, rfl, Nat.le_refl _, heap_alloc_new W _, Nat.zero_le _, by unfold maxLen; omega, by rw [size_madeCells]; omega, by simp [bV]⟩⟩, below_alloc _ _⟩
end Go.Proofs.Ytndhabhlajldeaa
/- Package container: the reader: giveUp, number, field. -/
namespace Go.Proofs.Ytndhabhlajldeaa
open Go.RowKit
def rejV (c a : Int) : Value := .agg #[.int .i64 c, .slice none 0 0, .int .i64 0, .int .i64 a]
/-- what is thrown -/
def thrown (c a : Int) : Ending := .panicked [{ v := .iface 47 (rejV c a), recovered := false }]
set_option maxHeartbeats 1000000 in
theorem giveUp_is (w : World) (c a : Int) : Calls Try.prog 98 #[.int .i64 c, .int .i64 a] w fun e w' => e = thrown c a ∧ w' = w := by
  go_enter Try.func98, Try.ntmps98
  go_wp2
  exact ⟨rfl, rfl, rfl⟩
/-- a reader: its box, the bytes that it goes through, where it stands -/
structure Rdr (W : World) (rb : Nat) (bs : Value) (b : List Nat) (k : Nat) : Prop where
  box : CBox W rb 81 [bs, .int .i64 (k : Int)]
  by' : BL (fun g => g < rb) W bs b
  byt : Byt b
  len : b.length ≤ 16777216
/-- only the reader's box has changed -/
abbrev RB (rb : Nat) (W W' : World) : Prop := But (fun g => g = rb) W W'
theorem Rdr.past {W W' : World} {rb : Nat} {bs : Value} {b : List Nat} {k : Nat} (h : Rdr W rb bs b k) (q : Below W.heap.size W W') : Rdr W' rb bs b k := ⟨h.box.past q, h.by'.past q, h.byt, h.len⟩
theorem Rdr.go {W : World} {rb : Nat} {bs : Value} {b : List Nat} {k : Nat} (h : Rdr W rb bs b k) (m : Nat) : Rdr (W.setCell ⟨rb, 1, none⟩ (.int .i64 (m : Int))) rb bs b m ∧ RB rb W (W.setCell ⟨rb, 1, none⟩ (.int .i64 (m : Int))) := by
  have hb : RB rb W (W.setCell ⟨rb, 1, none⟩ (.int .i64 (m : Int))) := (But.refl (fun g => g = rb) W).setCell ⟨rb, 1, none⟩ _ (Or.inl rfl)
  exact ⟨⟨h.box.set 1 _, h.by'.but hb (fun g hg e => by omega), h.byt, h.len⟩, hb⟩
theorem Rdr.keep {W W' : World} {rb : Nat} {bs : Value} {b : List Nat} {k : Nat} (h : Rdr W rb bs b k) {S : Nat → Prop} (q : But S W W') (hs : ∀ g, g ≤ rb → ¬ S g) : Rdr W' rb bs b k := ⟨h.box.but q (hs rb (Nat.le_refl _)), h.by'.but q (fun g hg => hs g (by omega)), h.byt, h.len⟩
/-- b[i:j] of bytes -/
theorem slice_ij (ad : Option Addr) (n cap i j : Nat) (hi : i ≤ j) (hj : j ≤ cap) (W : World) : Sem.run Try.prog (Instr.slice 22 (.slice ad n cap) (some (.int .i64 (i : Int))) (some (.int .i64 (j : Int))) none) W = .ok (.slice (if cap = i then ad else ad.map (·.add i)) (j - i) (cap - i)) W := by
  simp [Instr.slice, Instr.sliceBounds, run_underlying Try.underlying22, run_sliceBound W .i64 (i : Int) j _ (by omega) (by omega), run_sliceBound W .i64 (j : Int) cap _ (by omega) (by omega)]
theorem slice_i (ad : Option Addr) (n cap i : Nat) (hi : i ≤ n) (W : World) : Sem.run Try.prog (Instr.slice 22 (.slice ad n cap) (some (.int .i64 (i : Int))) none none) W = .ok (.slice (if cap = i then ad else ad.map (·.add i)) (n - i) (cap - i)) W := by
  simp [Instr.slice, Instr.sliceBounds, run_underlying Try.underlying22, run_sliceBound W .i64 (i : Int) n _ (by omega) (by omega)]
theorem BL.mid {P : Nat → Prop} {W : World} {ad : Option Addr} {cap : Nat} {l : List Nat} (h : BL P W (.slice ad l.length cap) l) (i j : Nat) (hi : i ≤ j) (hj : j ≤ l.length) : BL P W (.slice (if cap = i then ad else ad.map (·.add i)) (j - i) (cap - i)) ((l.drop i).take (j - i)) := by
  obtain ⟨_, ad', cap', e, h0, h1, hz, h2⟩ := h
  injection e with e1 _ e3
  subst e1 e3
  have hl : ((l.drop i).take (j - i)).length = j - i := by simp; omega
  refine ⟨by rw [bV_len, hl]; omega, _, _, by rw [hl], by rw [hl]; omega, by rw [hl]; omega, fun e => ?_, fun hn => ?_⟩
  · by_cases ec : cap = i
    · omega
    · rw [if_neg ec] at e
      cases ad with
      | none => have := hz rfl; omega
      | some a => cases e
  · rw [hl] at hn
    obtain ⟨g, a, rfl, hp, hg, h3⟩ := h2 (by omega)
    refine ⟨g, a + i, ?_, hp, hg, fun m c hc => ?_⟩
    · rw [if_neg (by omega)]
      show some ((⟨g, a, none⟩ : Addr).add i) = _
      rw [Addr.add_mid]
    · obtain ⟨x, hx, rfl⟩ := bV_inv hc
      have hx2 : l[i + m]? = some x := by
        rw [List.getElem?_take] at hx
        split at hx
        · rw [List.getElem?_drop] at hx; exact hx
        · cases hx
      rw [Nat.add_assoc]
      exact h3 (i + m) _ (bV_get hx2)
theorem rd_lt {b : List Nat} (hb : Byt b) (k wd : Nat) (hw : wd ≤ 8) : rd b k wd < 18446744073709551616 := by
  have h1 := num_lt ((b.drop k).take wd) (fun x hx => hb x (List.mem_of_mem_drop (List.mem_of_mem_take hx)))
  have h2 : ((b.drop k).take wd).length ≤ 8 := by simp; omega
  have h3 : 256 ^ ((b.drop k).take wd).length ≤ 256 ^ 8 := Nat.pow_le_pow_right (by omega) h2
  unfold rd
  have : (256 : Nat) ^ 8 = 18446744073709551616 := by decide
  omega
end Go.Proofs.Ytndhabhlajldeaa
/- Package container: the reader's number and field. -/
namespace Go.Proofs.Ytndhabhlajldeaa
open Go.RowKit
theorem or8 (n x : Nat) (hx : x < 256) (hn : 256 * n + x < 18446744073709551616) : bits .or .u64 ((n * 256 : Nat) : Int) (x : Int) = ((256 * n + x : Nat) : Int) := by
  have e : (BitVec.ofInt 64 ((n * 256 : Nat) : Int) ||| BitVec.ofInt 64 (x : Int)).toNat = 256 * n + x := by
    have e64 : (2 : Nat) ^ 64 = 18446744073709551616 := by decide
    have e8 : (2 : Nat) ^ 8 = 256 := by decide
    have h := Nat.shiftLeft_add_eq_or_of_lt (i := 8) (b := x) (by rw [e8]; exact hx) n
    rw [Nat.shiftLeft_eq, e8] at h
    rw [BitVec.toNat_or, BitVec.ofInt_natCast, BitVec.ofInt_natCast, BitVec.toNat_ofNat, BitVec.toNat_ofNat, e64, Nat.mod_eq_of_lt (by omega), Nat.mod_eq_of_lt (by omega), ← h]
    omega
  show IntKind.u64.wrap (((BitVec.ofInt 64 ((n * 256 : Nat) : Int) ||| BitVec.ofInt 64 (x : Int)).toNat : Nat) : Int) = _
  rw [e, IntKind.wrap_u64]
  omega
theorem num_le_take (l : List Nat) (i : Nat) (hb : Byt l) : num (l.take i) < 256 ^ i := by
  have h := num_lt (l.take i) (fun x hx => hb x (List.mem_of_mem_take hx))
  exact Nat.lt_of_lt_of_le h (Nat.pow_le_pow_right (by omega) (by simp; omega))
set_option maxHeartbeats 4000000 in
set_option maxRecDepth 100000 in
theorem number_cut (w : World) (rb : Nat) (bs : Value) (b : List Nat) (k wd : Nat) (h : Rdr w rb bs b k) (hk : k ≤ b.length) (hw : wd ≤ 8) (hc : b.length < k + wd) :
    Calls Try.prog 97 #[.pointer (some ⟨rb, 0, none⟩), .int .i64 (wd : Int)] w fun e w' => e = thrown 50 (b.length : Int) ∧ Below w.heap.size w w' := by
  obtain ⟨ad, cap, rfl, hc0, _⟩ := h.by'.len
  have HR : Hid (Rdr w rb (.slice ad b.length cap) b k) := h
  have n0 : Hid (b.length ≤ 16777216) := h.len
  generalize hn : b.length = n at *
  obtain ⟨m, hm⟩ : ∃ m : Nat, m = n - k := ⟨_, rfl⟩
  have r1 : (n : Int) - (k : Int) = (m : Int) := by omega
  have w1 : IntKind.i64.wrap (m : Int) = (m : Int) := by rw [IntKind.wrap_i64]; have := n0.out; omega
  have c1 : (m : Int) < (wd : Int) := by omega
  have dc : decide ((m : Int) < (wd : Int)) = true := by simp [c1]
  have nI : (n : Int) ≤ 16777216 := by have := n0.out; omega
  clear h hk hc hm hn hc0 hw
  go_enter Try.func97, Try.ntmps97
  go_upto_region 1 with fail
  refine wp_region_held_drew (S := fun V' => CBox V' rb 81 [.slice ad n cap, .int .i64 (k : Int)]) (by kernel_rfl) (HR.out.box.past below_drew) (fun hHeld => ?_)
  have B0 : Hid (Below w.heap.size w w.drew) := below_drew
  generalize w.drew = z0 at hHeld B0 ⊢
  refine wpAnyH_take (i := 0) (v := .pointer (some ⟨rb, 0, none⟩)) ov0 (by kernel_rfl) (by kernel_rfl) (by kernel_rfl) (fun _ _ _ h => h) (Or.inl ⟨by rfl, fun V' hS => ?_⟩) hHeld ?_
  · go_simp
  simp only [Act.put, List.setIfInBounds_toArray, List.set_cons_zero, List.set_cons_succ]
  refine wpAnyH_take (i := 1) (v := .pointer (some ⟨rb, 0, none⟩)) ov1 (by kernel_rfl) (by kernel_rfl) (by kernel_rfl) (fun _ _ _ h => h) (Or.inl ⟨by rfl, fun V' hS => ?_⟩) hHeld ?_
  · go_simp
  simp only [Act.put, List.setIfInBounds_toArray, List.set_cons_zero, List.set_cons_succ]
  refine wpAnyH_take (i := 2) (v := .pointer (some ⟨rb, 0, none⟩)) ov2 (by kernel_rfl) (by kernel_rfl) (by kernel_rfl) (fun _ _ _ h => h) (Or.inl ⟨by rfl, fun V' hS => ?_⟩) hHeld ?_
  · go_simp
  simp only [Act.put, List.setIfInBounds_toArray, List.set_cons_zero, List.set_cons_succ]
  refine wpAnyH_take (i := 3) (v := .slice ad n cap) ov3 (by kernel_rfl) (by kernel_rfl) (by kernel_rfl) (fun _ _ _ h => h) (Or.inl ⟨by rfl, fun V' hS => ?_⟩) hHeld ?_
  · have c0 : V'.cell? ⟨rb, 0, none⟩ = some (.slice ad n cap) := hS.cell 0
    go_simp
  simp only [Act.put, List.setIfInBounds_toArray, List.set_cons_zero, List.set_cons_succ]
  refine wpAnyH_take (i := 4) (v := .int .i64 (n : Int)) ov4 (by kernel_rfl) (by kernel_rfl) (by kernel_rfl) (fun _ _ _ h => h) (Or.inl ⟨by rfl, fun V' hS => ?_⟩) hHeld ?_
  · go_simp
  simp only [Act.put, List.setIfInBounds_toArray, List.set_cons_zero, List.set_cons_succ]
  refine wpAnyH_take (i := 5) (v := .pointer (some ⟨rb, 0, none⟩)) ov5 (by kernel_rfl) (by kernel_rfl) (by kernel_rfl) (fun _ _ _ h => h) (Or.inl ⟨by rfl, fun V' hS => ?_⟩) hHeld ?_
  · go_simp
  simp only [Act.put, List.setIfInBounds_toArray, List.set_cons_zero, List.set_cons_succ]
  refine wpAnyH_take (i := 6) (v := .pointer (some ⟨rb, 0, none⟩)) ov6 (by kernel_rfl) (by kernel_rfl) (by kernel_rfl) (fun _ _ _ h => h) (Or.inl ⟨by rfl, fun V' hS => ?_⟩) hHeld ?_
  · go_simp
  simp only [Act.put, List.setIfInBounds_toArray, List.set_cons_zero, List.set_cons_succ]
  refine wpAnyH_take (i := 7) (v := .pointer (some ⟨rb, 1, none⟩)) ov7 (by kernel_rfl) (by kernel_rfl) (by kernel_rfl) (fun _ _ _ h => h) (Or.inl ⟨by rfl, fun V' hS => ?_⟩) hHeld ?_
  · go_simp
  simp only [Act.put, List.setIfInBounds_toArray, List.set_cons_zero, List.set_cons_succ]
  refine wpAnyH_take (i := 8) (v := .int .i64 (k : Int)) ov8 (by kernel_rfl) (by kernel_rfl) (by kernel_rfl) (fun _ _ _ h => h) (Or.inl ⟨by rfl, fun V' hS => ?_⟩) hHeld ?_
  · have c0 : V'.cell? ⟨rb, 1, none⟩ = some (.int .i64 (k : Int)) := hS.cell 1
    go_simp
  simp only [Act.put, List.setIfInBounds_toArray, List.set_cons_zero, List.set_cons_succ]
  refine wpAnyH_take (i := 9) (v := .int .i64 (m : Int)) ov9 (by kernel_rfl) (by kernel_rfl) (by kernel_rfl) (fun _ _ _ h => h) (Or.inl ⟨by rfl, fun V' hS => ?_⟩) hHeld ?_
  · go_simp
  simp only [Act.put, List.setIfInBounds_toArray, List.set_cons_zero, List.set_cons_succ]
  refine wpAnyH_take (i := 10) (v := .int .i64 (wd : Int)) ov10 (by kernel_rfl) (by kernel_rfl) (by kernel_rfl) (fun _ _ _ h => h) (Or.inl ⟨by rfl, fun V' hS => ?_⟩) hHeld ?_
  · go_simp
  simp only [Act.put, List.setIfInBounds_toArray, List.set_cons_zero, List.set_cons_succ]
  refine wpAnyH_take (i := 11) (v := .bool true) ov11 (by kernel_rfl) (by kernel_rfl) (by kernel_rfl) (fun _ _ _ h => h) (Or.inl ⟨by rfl, fun V' hS => ?_⟩) hHeld ?_
  · go_simp
  simp only [Act.put, List.setIfInBounds_toArray, List.set_cons_zero, List.set_cons_succ]
  refine wpAnyH_done (by kernel_rfl) ?_ _
  have c0 : z0.cell? ⟨rb, 0, none⟩ = some (.slice ad n cap) := hHeld.cell 0
  clear hHeld
  go_wp2_with (go_at_call 98; refine (giveUp_is _ 50 (n : Int)).mono ?_; rintro e w' ⟨rfl, hw⟩; (have hw2 := hw.symm); clear hw; subst hw2; unfold thrown rejV)
  exact ⟨rfl, rfl, B0.out⟩
set_option maxHeartbeats 4000000 in
set_option maxRecDepth 100000 in
theorem number_ok (w : World) (rb : Nat) (bs : Value) (b : List Nat) (k wd : Nat) (h : Rdr w rb bs b k) (hw : wd ≤ 8) (hc : k + wd ≤ b.length) :
    Calls Try.prog 97 #[.pointer (some ⟨rb, 0, none⟩), .int .i64 (wd : Int)] w fun e w' => e = .returned (.int .u64 (rd b k wd : Int)) ∧ Rdr w' rb bs b (k + wd) ∧ RB rb w w' := by
  obtain ⟨ad, cap, rfl, hc0, _⟩ := h.by'.len
  have HR : Hid (Rdr w rb (.slice ad b.length cap) b k) := h
  have n0 : Hid (b.length ≤ 16777216) := h.len
  have SLc : Hid (∀ W, BL (fun g => g < rb) W (.slice ad b.length cap) b → BL (fun g => g < rb) W (.slice (if cap = k then ad else ad.map (·.add k)) (k + wd - k) (cap - k)) ((b.drop k).take (k + wd - k))) := fun W q => q.mid k (k + wd) (by omega) hc
  have hsl := slice_ij ad b.length cap k (k + wd) (by omega) (by omega)
  have HB : Hid (Byt ((b.drop k).take wd)) := fun x hx => h.byt x (List.mem_of_mem_drop (List.mem_of_mem_take hx))
  have HL : Hid (((b.drop k).take wd).length = wd) := by unfold Hid; simp; omega
  rw [show k + wd - k = wd by omega] at SLc hsl
  generalize (if cap = k then ad else ad.map (·.add k)) = ad2 at SLc hsl
  generalize cap - k = cap2 at SLc hsl
  have HRD : Hid (num ((b.drop k).take wd) = rd b k wd) := rfl
  have RL : Hid (rd b k wd < 18446744073709551616) := rd_lt h.byt k wd hw
  generalize rd b k wd = RR at *
  generalize hseg : (b.drop k).take wd = seg at *
  clear hseg
  generalize hn : b.length = n at *
  obtain ⟨m, hm⟩ : ∃ m : Nat, m = n - k := ⟨_, rfl⟩
  obtain ⟨t, ht⟩ : ∃ t : Nat, t = k + wd := ⟨_, rfl⟩
  rw [← ht] at hsl
  rw [← ht]
  have r1 : (n : Int) - (k : Int) = (m : Int) := by omega
  have r2 : (k : Int) + (wd : Int) = (t : Int) := by omega
  have w1 : IntKind.i64.wrap (m : Int) = (m : Int) := by rw [IntKind.wrap_i64]; have := n0.out; omega
  have w2 : IntKind.i64.wrap (t : Int) = (t : Int) := by rw [IntKind.wrap_i64]; have := n0.out; omega
  have dc : ¬ (m : Int) < (wd : Int) := by omega
  have nI : (n : Int) ≤ 16777216 := by have := n0.out; omega
  have wI : (wd : Int) ≤ 8 := by omega
  have W8 : Hid (wd ≤ 8) := hw
  clear h hc hm hn hc0 hw ht
  go_enter Try.func97, Try.ntmps97
  go_upto_region 1 with fail
  refine wp_region_held_drew (S := fun V' => CBox V' rb 81 [.slice ad n cap, .int .i64 (k : Int)]) (by kernel_rfl) (HR.out.box.past below_drew) (fun hHeld => ?_)
  have B0 : Hid (Below w.heap.size w w.drew ∧ Rdr w.drew rb (.slice ad n cap) b k) := ⟨below_drew, HR.out.past below_drew⟩
  generalize w.drew = z0 at hHeld B0 ⊢
  refine wpAnyH_take (i := 0) (v := .pointer (some ⟨rb, 0, none⟩)) ov0 (by kernel_rfl) (by kernel_rfl) (by kernel_rfl) (fun _ _ _ h => h) (Or.inl ⟨by rfl, fun V' hS => ?_⟩) hHeld ?_
  · go_simp
  simp only [Act.put, List.setIfInBounds_toArray, List.set_cons_zero, List.set_cons_succ]
  refine wpAnyH_take (i := 1) (v := .pointer (some ⟨rb, 0, none⟩)) ov1 (by kernel_rfl) (by kernel_rfl) (by kernel_rfl) (fun _ _ _ h => h) (Or.inl ⟨by rfl, fun V' hS => ?_⟩) hHeld ?_
  · go_simp
  simp only [Act.put, List.setIfInBounds_toArray, List.set_cons_zero, List.set_cons_succ]
  refine wpAnyH_take (i := 2) (v := .pointer (some ⟨rb, 0, none⟩)) ov2 (by kernel_rfl) (by kernel_rfl) (by kernel_rfl) (fun _ _ _ h => h) (Or.inl ⟨by rfl, fun V' hS => ?_⟩) hHeld ?_
  · go_simp
  simp only [Act.put, List.setIfInBounds_toArray, List.set_cons_zero, List.set_cons_succ]
  refine wpAnyH_take (i := 3) (v := .slice ad n cap) ov3 (by kernel_rfl) (by kernel_rfl) (by kernel_rfl) (fun _ _ _ h => h) (Or.inl ⟨by rfl, fun V' hS => ?_⟩) hHeld ?_
  · have c0 : V'.cell? ⟨rb, 0, none⟩ = some (.slice ad n cap) := hS.cell 0
    go_simp
  simp only [Act.put, List.setIfInBounds_toArray, List.set_cons_zero, List.set_cons_succ]
  refine wpAnyH_take (i := 4) (v := .int .i64 (n : Int)) ov4 (by kernel_rfl) (by kernel_rfl) (by kernel_rfl) (fun _ _ _ h => h) (Or.inl ⟨by rfl, fun V' hS => ?_⟩) hHeld ?_
  · go_simp
  simp only [Act.put, List.setIfInBounds_toArray, List.set_cons_zero, List.set_cons_succ]
  refine wpAnyH_take (i := 5) (v := .pointer (some ⟨rb, 0, none⟩)) ov5 (by kernel_rfl) (by kernel_rfl) (by kernel_rfl) (fun _ _ _ h => h) (Or.inl ⟨by rfl, fun V' hS => ?_⟩) hHeld ?_
  · go_simp
  simp only [Act.put, List.setIfInBounds_toArray, List.set_cons_zero, List.set_cons_succ]
  refine wpAnyH_take (i := 6) (v := .pointer (some ⟨rb, 0, none⟩)) ov6 (by kernel_rfl) (by kernel_rfl) (by kernel_rfl) (fun _ _ _ h => h) (Or.inl ⟨by rfl, fun V' hS => ?_⟩) hHeld ?_
  · go_simp
  simp only [Act.put, List.setIfInBounds_toArray, List.set_cons_zero, List.set_cons_succ]
  refine wpAnyH_take (i := 7) (v := .pointer (some ⟨rb, 1, none⟩)) ov7 (by kernel_rfl) (by kernel_rfl) (by kernel_rfl) (fun _ _ _ h => h) (Or.inl ⟨by rfl, fun V' hS => ?_⟩) hHeld ?_
  · go_simp
  simp only [Act.put, List.setIfInBounds_toArray, List.set_cons_zero, List.set_cons_succ]
  refine wpAnyH_take (i := 8) (v := .int .i64 (k : Int)) ov8 (by kernel_rfl) (by kernel_rfl) (by kernel_rfl) (fun _ _ _ h => h) (Or.inl ⟨by rfl, fun V' hS => ?_⟩) hHeld ?_
  · have c0 : V'.cell? ⟨rb, 1, none⟩ = some (.int .i64 (k : Int)) := hS.cell 1
    go_simp
  simp only [Act.put, List.setIfInBounds_toArray, List.set_cons_zero, List.set_cons_succ]
  refine wpAnyH_take (i := 9) (v := .int .i64 (m : Int)) ov9 (by kernel_rfl) (by kernel_rfl) (by kernel_rfl) (fun _ _ _ h => h) (Or.inl ⟨by rfl, fun V' hS => ?_⟩) hHeld ?_
  · go_simp
  simp only [Act.put, List.setIfInBounds_toArray, List.set_cons_zero, List.set_cons_succ]
  refine wpAnyH_take (i := 10) (v := .int .i64 (wd : Int)) ov10 (by kernel_rfl) (by kernel_rfl) (by kernel_rfl) (fun _ _ _ h => h) (Or.inl ⟨by rfl, fun V' hS => ?_⟩) hHeld ?_
  · go_simp
  simp only [Act.put, List.setIfInBounds_toArray, List.set_cons_zero, List.set_cons_succ]
  refine wpAnyH_take (i := 11) (v := .bool false) ov11 (by kernel_rfl) (by kernel_rfl) (by kernel_rfl) (fun _ _ _ h => h) (Or.inl ⟨by rfl, fun V' hS => ?_⟩) hHeld ?_
  · go_simp
  simp only [Act.put, List.setIfInBounds_toArray, List.set_cons_zero, List.set_cons_succ]
  refine wpAnyH_done (by kernel_rfl) ?_ _
  clear hHeld HR
  go_upto_region 4 with fail
  refine wp_region_held_drew (S := fun V' => CBox V' rb 81 [.slice ad n cap, .int .i64 (k : Int)]) (by kernel_rfl) (B0.out.2.box.past below_drew) (fun hHeld => ?_)
  have B1 : Hid (Below w.heap.size w z0.drew ∧ Rdr z0.drew rb (.slice ad n cap) b k) := ⟨B0.out.1.trans (below_drew.mono B0.out.1.size), B0.out.2.past below_drew⟩
  clear B0
  generalize z0.drew = z1 at hHeld B1 ⊢
  refine wpAnyH_take (i := 0) (v := .pointer (some ⟨rb, 0, none⟩)) ov0 (by kernel_rfl) (by kernel_rfl) (by kernel_rfl) (fun _ _ _ h => h) (Or.inl ⟨by rfl, fun V' hS => ?_⟩) hHeld ?_
  · go_simp
  simp only [Act.put, List.setIfInBounds_toArray, List.set_cons_zero, List.set_cons_succ]
  refine wpAnyH_take (i := 1) (v := .pointer (some ⟨rb, 0, none⟩)) ov1 (by kernel_rfl) (by kernel_rfl) (by kernel_rfl) (fun _ _ _ h => h) (Or.inl ⟨by rfl, fun V' hS => ?_⟩) hHeld ?_
  · go_simp
  simp only [Act.put, List.setIfInBounds_toArray, List.set_cons_zero, List.set_cons_succ]
  refine wpAnyH_take (i := 2) (v := .pointer (some ⟨rb, 0, none⟩)) ov2 (by kernel_rfl) (by kernel_rfl) (by kernel_rfl) (fun _ _ _ h => h) (Or.inl ⟨by rfl, fun V' hS => ?_⟩) hHeld ?_
  · go_simp
  simp only [Act.put, List.setIfInBounds_toArray, List.set_cons_zero, List.set_cons_succ]
  refine wpAnyH_take (i := 3) (v := .slice ad n cap) ov3 (by kernel_rfl) (by kernel_rfl) (by kernel_rfl) (fun _ _ _ h => h) (Or.inl ⟨by rfl, fun V' hS => ?_⟩) hHeld ?_
  · have c0 : V'.cell? ⟨rb, 0, none⟩ = some (.slice ad n cap) := hS.cell 0
    go_simp
  simp only [Act.put, List.setIfInBounds_toArray, List.set_cons_zero, List.set_cons_succ]
  refine wpAnyH_take (i := 4) (v := .pointer (some ⟨rb, 0, none⟩)) ov4 (by kernel_rfl) (by kernel_rfl) (by kernel_rfl) (fun _ _ _ h => h) (Or.inl ⟨by rfl, fun V' hS => ?_⟩) hHeld ?_
  · go_simp
  simp only [Act.put, List.setIfInBounds_toArray, List.set_cons_zero, List.set_cons_succ]
  refine wpAnyH_take (i := 5) (v := .pointer (some ⟨rb, 0, none⟩)) ov5 (by kernel_rfl) (by kernel_rfl) (by kernel_rfl) (fun _ _ _ h => h) (Or.inl ⟨by rfl, fun V' hS => ?_⟩) hHeld ?_
  · go_simp
  simp only [Act.put, List.setIfInBounds_toArray, List.set_cons_zero, List.set_cons_succ]
  refine wpAnyH_take (i := 6) (v := .pointer (some ⟨rb, 1, none⟩)) ov6 (by kernel_rfl) (by kernel_rfl) (by kernel_rfl) (fun _ _ _ h => h) (Or.inl ⟨by rfl, fun V' hS => ?_⟩) hHeld ?_
  · go_simp
  simp only [Act.put, List.setIfInBounds_toArray, List.set_cons_zero, List.set_cons_succ]
  refine wpAnyH_take (i := 7) (v := .int .i64 (k : Int)) ov7 (by kernel_rfl) (by kernel_rfl) (by kernel_rfl) (fun _ _ _ h => h) (Or.inl ⟨by rfl, fun V' hS => ?_⟩) hHeld ?_
  · have c0 : V'.cell? ⟨rb, 1, none⟩ = some (.int .i64 (k : Int)) := hS.cell 1
    go_simp
  simp only [Act.put, List.setIfInBounds_toArray, List.set_cons_zero, List.set_cons_succ]
  refine wpAnyH_take (i := 8) (v := .pointer (some ⟨rb, 0, none⟩)) ov8 (by kernel_rfl) (by kernel_rfl) (by kernel_rfl) (fun _ _ _ h => h) (Or.inl ⟨by rfl, fun V' hS => ?_⟩) hHeld ?_
  · go_simp
  simp only [Act.put, List.setIfInBounds_toArray, List.set_cons_zero, List.set_cons_succ]
  refine wpAnyH_take (i := 9) (v := .pointer (some ⟨rb, 0, none⟩)) ov9 (by kernel_rfl) (by kernel_rfl) (by kernel_rfl) (fun _ _ _ h => h) (Or.inl ⟨by rfl, fun V' hS => ?_⟩) hHeld ?_
  · go_simp
  simp only [Act.put, List.setIfInBounds_toArray, List.set_cons_zero, List.set_cons_succ]
  refine wpAnyH_take (i := 10) (v := .pointer (some ⟨rb, 1, none⟩)) ov10 (by kernel_rfl) (by kernel_rfl) (by kernel_rfl) (fun _ _ _ h => h) (Or.inl ⟨by rfl, fun V' hS => ?_⟩) hHeld ?_
  · go_simp
  simp only [Act.put, List.setIfInBounds_toArray, List.set_cons_zero, List.set_cons_succ]
  refine wpAnyH_take (i := 11) (v := .int .i64 (k : Int)) ov11 (by kernel_rfl) (by kernel_rfl) (by kernel_rfl) (fun _ _ _ h => h) (Or.inl ⟨by rfl, fun V' hS => ?_⟩) hHeld ?_
  · have c0 : V'.cell? ⟨rb, 1, none⟩ = some (.int .i64 (k : Int)) := hS.cell 1
    go_simp
  simp only [Act.put, List.setIfInBounds_toArray, List.set_cons_zero, List.set_cons_succ]
  refine wpAnyH_take (i := 12) (v := .int .i64 (wd : Int)) ov12 (by kernel_rfl) (by kernel_rfl) (by kernel_rfl) (fun _ _ _ h => h) (Or.inl ⟨by rfl, fun V' hS => ?_⟩) hHeld ?_
  · go_simp
  simp only [Act.put, List.setIfInBounds_toArray, List.set_cons_zero, List.set_cons_succ]
  refine wpAnyH_take (i := 13) (v := .int .i64 (t : Int)) ov13 (by kernel_rfl) (by kernel_rfl) (by kernel_rfl) (fun _ _ _ h => h) (Or.inl ⟨by rfl, fun V' hS => ?_⟩) hHeld ?_
  · go_simp
  simp only [Act.put, List.setIfInBounds_toArray, List.set_cons_zero, List.set_cons_succ]
  refine wpAnyH_take (i := 14) (v := .slice ad2 wd cap2) ov14 (by kernel_rfl) (by kernel_rfl) (by kernel_rfl) (fun _ _ _ h => h) (Or.inl ⟨by rfl, fun V' hS => ?_⟩) hHeld ?_
  · go_simp
  simp only [Act.put, List.setIfInBounds_toArray, List.set_cons_zero, List.set_cons_succ]
  refine wpAnyH_take (i := 15) (v := .int .i64 (wd : Int)) ov15 (by kernel_rfl) (by kernel_rfl) (by kernel_rfl) (fun _ _ _ h => h) (Or.inl ⟨by rfl, fun V' hS => ?_⟩) hHeld ?_
  · go_simp
  simp only [Act.put, List.setIfInBounds_toArray, List.set_cons_zero, List.set_cons_succ]
  refine wpAnyH_take (i := 16) (v := .int .i64 0) ov16 (by kernel_rfl) (by kernel_rfl) (by kernel_rfl) (fun _ _ _ h => h) (Or.inl ⟨by rfl, fun V' hS => ?_⟩) hHeld ?_
  · go_simp
  simp only [Act.put, List.setIfInBounds_toArray, List.set_cons_zero, List.set_cons_succ]
  refine wpAnyH_done (by kernel_rfl) ?_ _
  clear hHeld hsl dc w1 r1
  have SG : Hid (BL (fun g => g < rb) z1 (.slice ad2 wd cap2) seg) := SLc.out z1 B1.out.2.by'
  clear SLc
  go_wp2
  go_loopw [5, 42] (fun s5 s42 wr => ∃ i : Nat, s42 = .int .i64 (i : Int) ∧ i ≤ wd ∧ s5 = .int .u64 (num (seg.take i) : Int) ∧ wr = z1) (fun _ s42 _ => wd - (intOf s42).toNat)
  case atStart => exact ⟨0, rfl, by omega, by simp [num], rfl⟩
  case round =>
    obtain ⟨i, rfl, hi, rfl, rfl⟩ := hrel
    by_cases e : i = wd
    · subst e
      have EV : Hid (num (seg.take i) = RR) := by unfold Hid; rw [List.take_of_length_le (by have := HL.out; omega)]; exact HRD.out
      rw [EV.out]
      have c1 : wr.cell? ⟨rb, 1, none⟩ = some (.int .i64 (k : Int)) := B1.out.2.box.cell 1
      have f1 := B1.out.2.box.frozen 1
      have HG : Hid (Rdr (wr.setCell ⟨rb, 1, none⟩ (.int .i64 (t : Int))) rb (.slice ad n cap) b t ∧ RB rb w (wr.setCell ⟨rb, 1, none⟩ (.int .i64 (t : Int)))) := ⟨(B1.out.2.go t).1, (below_but (S := fun g => g = rb) B1.out.1).trans (B1.out.2.go t).2⟩
      clear B1 SG
      go_wp2
      go_ret
      exact ⟨rfl, HG.out⟩
    · have iI : (i : Int) < (wd : Int) := by omega
      obtain ⟨x, hx⟩ : ∃ x, seg[i]? = some x := ⟨seg[i]'(by have := HL.out; omega), List.getElem?_eq_getElem _⟩
      obtain ⟨g, a, rfl, hcell⟩ := SG.out.get hx
      have x8 : x < 256 := HB.out x (List.mem_of_getElem? hx)
      obtain ⟨y, hy⟩ : ∃ y : Nat, y = num (seg.take i) := ⟨_, rfl⟩
      have hy2 : num (seg.take (i + 1)) = 256 * y + x := by rw [take_snoc hx, num_snoc, hy]
      have hlt : 256 * y + x < 18446744073709551616 := by
        have h1 := num_le_take seg (i + 1) HB.out
        have h2 : (256 : Nat) ^ (i + 1) ≤ 256 ^ 8 := Nat.pow_le_pow_right (by omega) (by have := W8.out; omega)
        have h3 : (256 : Nat) ^ 8 = 18446744073709551616 := by decide
        omega
      rw [← hy]
      obtain ⟨y2, ey2⟩ : ∃ y2 : Nat, y2 = 256 * y + x := ⟨_, rfl⟩
      have r3 : (y : Int) * 256 = ((y * 256 : Nat) : Int) := by rw [Int.natCast_mul]; rfl
      have r4 : IntKind.u64.wrap ((y * 256 : Nat) : Int) = ((y * 256 : Nat) : Int) := by rw [IntKind.wrap_u64]; omega
      have r5 : bits .or .u64 ((y * 256 : Nat) : Int) (x : Int) = (y2 : Int) := by rw [or8 y x x8 hlt, ey2]
      have r6 : IntKind.u64.wrap (x : Int) = (x : Int) := by rw [IntKind.wrap_u64]; omega
      have HY : Hid (num (seg.take (i + 1)) = y2) := by unfold Hid; rw [hy2, ey2]
      generalize y * 256 = y256 at *
      clear hy hy2 hlt ey2 hx x8 e
      go_wp2
      go_roundw
      case rel => exact ⟨i + 1, by first | rfl | go_num, by omega, by rw [HY.out], by first | rfl | trivial⟩
      case measure => simp [intOf]; omega
end Go.Proofs.Ytndhabhlajldeaa
/- Package container: the reader's field and fixed. -/
namespace Go.Proofs.Ytndhabhlajldeaa
open Go.RowKit
/-- what a reading comes to: its answer, or what is thrown -/
def Out {α : Type} (rb : Nat) (W : World) (r : Except Er α) (Q : α → Ending → World → Prop) (e : Ending) (W' : World) : Prop :=
  match r with
  | .ok x => Q x e W'
  | .error (c, a) => e = thrown c a ∧ RB rb W W'
theorem fld_cut {b : List Nat} {k wd why : Nat} {p : Nat → Bool} (h : b.length < k + wd) : fld b k wd why p = .error (50, b.length) := by unfold fld; rw [if_pos h]
theorem fld_ok {b : List Nat} {k wd why : Nat} {p : Nat → Bool} (h : k + wd ≤ b.length) (hp : p (rd b k wd) = true) : fld b k wd why p = .ok (rd b k wd) := by unfold fld; rw [if_neg (by omega), if_pos hp]
theorem fld_no {b : List Nat} {k wd why : Nat} {p : Nat → Bool} (h : k + wd ≤ b.length) (hp : p (rd b k wd) = false) : fld b k wd why p = .error (why, k) := by unfold fld; rw [if_neg (by omega), if_neg (by rw [hp]; decide)]
/-- what is told of a reading that went well -/
def FldQ (rb : Nat) (w : World) (bs : Value) (b : List Nat) (k : Nat) (x : Nat) (e : Ending) (w' : World) : Prop := e = .returned (.int .u64 (x : Int)) ∧ Rdr w' rb bs b k ∧ RB rb w w'
set_option maxHeartbeats 4000000 in
set_option maxRecDepth 100000 in
theorem field0_is (w : World) (rb : Nat) (bs : Value) (b : List Nat) (k wd why : Nat) (h : Rdr w rb bs b k) (hk : k ≤ b.length) (hw : wd ≤ 8) (p : Nat → Bool) (f : FuncId) (hE : ∀ args W, (callFunc f args).run Try.prog W = .ok (.enter f args) W)
    (hf : ∀ V, RB rb w V → Calls Try.prog f #[.int .u64 (rd b k wd : Int)] V fun e V' => e = .returned (.bool (p (rd b k wd))) ∧ V' = V) :
    Calls Try.prog 91 #[.pointer (some ⟨rb, 0, none⟩), .int .i64 (wd : Int), .int .i64 (why : Int), .func (.func f) #[] #[]] w fun e w' => Out rb w (fld b k wd why p) (FldQ rb w bs b (k + wd)) e w' := by
  have hk0 : w.cell? ⟨rb, 1, none⟩ = some (.int .i64 (k : Int)) := h.box.cell 1
  by_cases e0 : b.length < k + wd
  · have NC : Hid (Calls Try.prog 97 #[.pointer (some ⟨rb, 0, none⟩), .int .i64 (wd : Int)] w fun e w' => e = thrown 50 (b.length : Int) ∧ Below w.heap.size w w') := number_cut w rb bs b k wd h hk hw e0
    rw [fld_cut e0]
    generalize b.length = n at *
    clear h hf hk hw e0
    go_enter Try.func91, Try.ntmps91
    go_wp2_with (go_at_call 97; refine NC.out.mono ?_; rintro e w' ⟨rfl, hB⟩; unfold thrown rejV)
    exact ⟨rfl, rfl, below_but hB⟩
  · have NO : Hid (Calls Try.prog 97 #[.pointer (some ⟨rb, 0, none⟩), .int .i64 (wd : Int)] w fun e w' => e = .returned (.int .u64 (rd b k wd : Int)) ∧ Rdr w' rb bs b (k + wd) ∧ RB rb w w') := number_ok w rb bs b k wd h hw (by omega)
    have HF : Hid (∀ V, RB rb w V → Calls Try.prog f #[.int .u64 (rd b k wd : Int)] V fun e V' => e = .returned (.bool (p (rd b k wd))) ∧ V' = V) := hf
    have F1 : Hid (p (rd b k wd) = true → fld b k wd why p = .ok (rd b k wd)) := fun q => fld_ok (by omega) q
    have F2 : Hid (p (rd b k wd) = false → fld b k wd why p = .error (why, k)) := fun q => fld_no (by omega) q
    generalize fld b k wd why p = FF at *
    generalize rd b k wd = R at *
    generalize k + wd = t at *
    clear h hf hk hw e0
    go_enter Try.func91, Try.ntmps91
    go_upto_region 3 with (go_at_call 97; refine NO.out.mono ?_; rintro e w1 ⟨rfl, hR, hB⟩)
    have HH : Hid (Rdr w1 rb bs b t ∧ RB rb w w1) := ⟨hR, hB⟩
    clear hR hB NO hk0
    cases ep : p R with
    | true =>
      have E0 : Hid (FF = .ok R) := F1.out ep
      have CF : Hid (Calls Try.prog f #[.int .u64 (R : Int)] w1 fun e V' => e = .returned (.bool true) ∧ V' = w1) := by have := HF.out w1 HH.out.2; rwa [ep] at this
      clear HF F1 F2 ep
      go_wp2_with fail
      refine CF.out.mono ?_
      rintro e w' ⟨rfl, hw⟩
      have hw2 := hw.symm
      clear hw
      subst hw2
      go_wp2
      go_ret
      rw [E0.out]
      exact ⟨rfl, HH.out⟩
    | false =>
      have E0 : Hid (FF = .error (why, k)) := F2.out ep
      have CF : Hid (Calls Try.prog f #[.int .u64 (R : Int)] w1 fun e V' => e = .returned (.bool false) ∧ V' = w1) := by have := HF.out w1 HH.out.2; rwa [ep] at this
      clear HF F1 F2 ep
      go_wp2_with fail
      refine CF.out.mono ?_
      rintro e w' ⟨rfl, hw⟩
      have hw2 := hw.symm
      clear hw
      subst hw2
      go_wp2_with (go_at_call 98; refine (giveUp_is _ (why : Int) (k : Int)).mono ?_; rintro e w' ⟨rfl, hw⟩; (have hw2 := hw.symm); clear hw; subst hw2; unfold thrown rejV)
      refine ⟨rfl, ?_⟩
      rw [E0.out]
      exact ⟨rfl, HH.out.2⟩
set_option maxHeartbeats 4000000 in
set_option maxRecDepth 100000 in
theorem field1_is (w : World) (rb : Nat) (bs : Value) (b : List Nat) (k wd why : Nat) (h : Rdr w rb bs b k) (hk : k ≤ b.length) (hw : wd ≤ 8) (p : Nat → Bool) (f : FuncId) (c0 : Value) (hE : ∀ args W, (callFunc f args).run Try.prog W = .ok (.enter f args) W)
    (hf : ∀ V, RB rb w V → Calls Try.prog f #[.int .u64 (rd b k wd : Int), c0] V fun e V' => e = .returned (.bool (p (rd b k wd))) ∧ V' = V) :
    Calls Try.prog 91 #[.pointer (some ⟨rb, 0, none⟩), .int .i64 (wd : Int), .int .i64 (why : Int), .func (.func f) #[] #[c0]] w fun e w' => Out rb w (fld b k wd why p) (FldQ rb w bs b (k + wd)) e w' := by
  have hk0 : w.cell? ⟨rb, 1, none⟩ = some (.int .i64 (k : Int)) := h.box.cell 1
  by_cases e0 : b.length < k + wd
  · have NC : Hid (Calls Try.prog 97 #[.pointer (some ⟨rb, 0, none⟩), .int .i64 (wd : Int)] w fun e w' => e = thrown 50 (b.length : Int) ∧ Below w.heap.size w w') := number_cut w rb bs b k wd h hk hw e0
    rw [fld_cut e0]
    generalize b.length = n at *
    clear h hf hk hw e0
    go_enter Try.func91, Try.ntmps91
    go_wp2_with (go_at_call 97; refine NC.out.mono ?_; rintro e w' ⟨rfl, hB⟩; unfold thrown rejV)
    exact ⟨rfl, rfl, below_but hB⟩
  · have NO : Hid (Calls Try.prog 97 #[.pointer (some ⟨rb, 0, none⟩), .int .i64 (wd : Int)] w fun e w' => e = .returned (.int .u64 (rd b k wd : Int)) ∧ Rdr w' rb bs b (k + wd) ∧ RB rb w w') := number_ok w rb bs b k wd h hw (by omega)
    have HF : Hid (∀ V, RB rb w V → Calls Try.prog f #[.int .u64 (rd b k wd : Int), c0] V fun e V' => e = .returned (.bool (p (rd b k wd))) ∧ V' = V) := hf
    have F1 : Hid (p (rd b k wd) = true → fld b k wd why p = .ok (rd b k wd)) := fun q => fld_ok (by omega) q
    have F2 : Hid (p (rd b k wd) = false → fld b k wd why p = .error (why, k)) := fun q => fld_no (by omega) q
    generalize fld b k wd why p = FF at *
    generalize rd b k wd = R at *
    generalize k + wd = t at *
    clear h hf hk hw e0
    go_enter Try.func91, Try.ntmps91
    go_upto_region 3 with (go_at_call 97; refine NO.out.mono ?_; rintro e w1 ⟨rfl, hR, hB⟩)
    have HH : Hid (Rdr w1 rb bs b t ∧ RB rb w w1) := ⟨hR, hB⟩
    clear hR hB NO hk0
    cases ep : p R with
    | true =>
      have E0 : Hid (FF = .ok R) := F1.out ep
      have CF : Hid (Calls Try.prog f #[.int .u64 (R : Int), c0] w1 fun e V' => e = .returned (.bool true) ∧ V' = w1) := by have := HF.out w1 HH.out.2; rwa [ep] at this
      clear HF F1 F2 ep
      go_wp2_with fail
      refine CF.out.mono ?_
      rintro e w' ⟨rfl, hw⟩
      have hw2 := hw.symm
      clear hw
      subst hw2
      go_wp2
      go_ret
      rw [E0.out]
      exact ⟨rfl, HH.out⟩
    | false =>
      have E0 : Hid (FF = .error (why, k)) := F2.out ep
      have CF : Hid (Calls Try.prog f #[.int .u64 (R : Int), c0] w1 fun e V' => e = .returned (.bool false) ∧ V' = w1) := by have := HF.out w1 HH.out.2; rwa [ep] at this
      clear HF F1 F2 ep
      go_wp2_with fail
      refine CF.out.mono ?_
      rintro e w' ⟨rfl, hw⟩
      have hw2 := hw.symm
      clear hw
      subst hw2
      go_wp2_with (go_at_call 98; refine (giveUp_is _ (why : Int) (k : Int)).mono ?_; rintro e w' ⟨rfl, hw⟩; (have hw2 := hw.symm); clear hw; subst hw2; unfold thrown rejV)
      refine ⟨rfl, ?_⟩
      rw [E0.out]
      exact ⟨rfl, HH.out.2⟩
set_option maxHeartbeats 4000000 in
set_option maxRecDepth 100000 in
theorem field2_is (w : World) (rb : Nat) (bs : Value) (b : List Nat) (k wd why : Nat) (h : Rdr w rb bs b k) (hk : k ≤ b.length) (hw : wd ≤ 8) (p : Nat → Bool) (f : FuncId) (c0 : Value) (c1 : Value) (hE : ∀ args W, (callFunc f args).run Try.prog W = .ok (.enter f args) W)
    (hf : ∀ V, RB rb w V → Calls Try.prog f #[.int .u64 (rd b k wd : Int), c0, c1] V fun e V' => e = .returned (.bool (p (rd b k wd))) ∧ V' = V) :
    Calls Try.prog 91 #[.pointer (some ⟨rb, 0, none⟩), .int .i64 (wd : Int), .int .i64 (why : Int), .func (.func f) #[] #[c0, c1]] w fun e w' => Out rb w (fld b k wd why p) (FldQ rb w bs b (k + wd)) e w' := by
  have hk0 : w.cell? ⟨rb, 1, none⟩ = some (.int .i64 (k : Int)) := h.box.cell 1
  by_cases e0 : b.length < k + wd
  · have NC : Hid (Calls Try.prog 97 #[.pointer (some ⟨rb, 0, none⟩), .int .i64 (wd : Int)] w fun e w' => e = thrown 50 (b.length : Int) ∧ Below w.heap.size w w') := number_cut w rb bs b k wd h hk hw e0
    rw [fld_cut e0]
    generalize b.length = n at *
    clear h hf hk hw e0
    go_enter Try.func91, Try.ntmps91
    go_wp2_with (go_at_call 97; refine NC.out.mono ?_; rintro e w' ⟨rfl, hB⟩; unfold thrown rejV)
    exact ⟨rfl, rfl, below_but hB⟩
  · have NO : Hid (Calls Try.prog 97 #[.pointer (some ⟨rb, 0, none⟩), .int .i64 (wd : Int)] w fun e w' => e = .returned (.int .u64 (rd b k wd : Int)) ∧ Rdr w' rb bs b (k + wd) ∧ RB rb w w') := number_ok w rb bs b k wd h hw (by omega)
    have HF : Hid (∀ V, RB rb w V → Calls Try.prog f #[.int .u64 (rd b k wd : Int), c0, c1] V fun e V' => e = .returned (.bool (p (rd b k wd))) ∧ V' = V) := hf
    have F1 : Hid (p (rd b k wd) = true → fld b k wd why p = .ok (rd b k wd)) := fun q => fld_ok (by omega) q
    have F2 : Hid (p (rd b k wd) = false → fld b k wd why p = .error (why, k)) := fun q => fld_no (by omega) q
    generalize fld b k wd why p = FF at *
    generalize rd b k wd = R at *
    generalize k + wd = t at *
    clear h hf hk hw e0
    go_enter Try.func91, Try.ntmps91
    go_upto_region 3 with (go_at_call 97; refine NO.out.mono ?_; rintro e w1 ⟨rfl, hR, hB⟩)
    have HH : Hid (Rdr w1 rb bs b t ∧ RB rb w w1) := ⟨hR, hB⟩
    clear hR hB NO hk0
    cases ep : p R with
    | true =>
      have E0 : Hid (FF = .ok R) := F1.out ep
      have CF : Hid (Calls Try.prog f #[.int .u64 (R : Int), c0, c1] w1 fun e V' => e = .returned (.bool true) ∧ V' = w1) := by have := HF.out w1 HH.out.2; rwa [ep] at this
      clear HF F1 F2 ep
      go_wp2_with fail
      refine CF.out.mono ?_
      rintro e w' ⟨rfl, hw⟩
      have hw2 := hw.symm
      clear hw
      subst hw2
      go_wp2
      go_ret
      rw [E0.out]
      exact ⟨rfl, HH.out⟩
    | false =>
      have E0 : Hid (FF = .error (why, k)) := F2.out ep
      have CF : Hid (Calls Try.prog f #[.int .u64 (R : Int), c0, c1] w1 fun e V' => e = .returned (.bool false) ∧ V' = w1) := by have := HF.out w1 HH.out.2; rwa [ep] at this
      clear HF F1 F2 ep
      go_wp2_with fail
      refine CF.out.mono ?_
      rintro e w' ⟨rfl, hw⟩
      have hw2 := hw.symm
      clear hw
      subst hw2
      go_wp2_with (go_at_call 98; refine (giveUp_is _ (why : Int) (k : Int)).mono ?_; rintro e w' ⟨rfl, hw⟩; (have hw2 := hw.symm); clear hw; subst hw2; unfold thrown rejV)
      refine ⟨rfl, ?_⟩
      rw [E0.out]
      exact ⟨rfl, HH.out.2⟩
set_option maxHeartbeats 4000000 in
set_option maxRecDepth 100000 in
theorem fixed1_is (V : World) (g : Nat) (x y : Int) (h : V.cell? ⟨g, 0, none⟩ = some (.int .u64 y)) : Calls Try.prog 112 #[.int .u64 x, .pointer (some ⟨g, 0, none⟩)] V fun e V' => e = .returned (.bool (x == y)) ∧ V' = V := by
  go_enter Try.func112, Try.ntmps112
  go_wp2
  go_ret
  exact ⟨rfl, rfl⟩
theorem eq_nat (x y : Nat) : ((x : Int) == (y : Int)) = (x == y) := by
  rw [Bool.eq_iff_iff, beq_iff_eq, beq_iff_eq]; omega
set_option maxHeartbeats 4000000 in
set_option maxRecDepth 100000 in
theorem fixed_is (w : World) (rb : Nat) (bs : Value) (b : List Nat) (k want why : Nat) (h : Rdr w rb bs b k) (hk : k ≤ b.length) :
    Calls Try.prog 90 #[.pointer (some ⟨rb, 0, none⟩), .int .u64 (want : Int), .int .i64 (why : Int)] w fun e w' => Out rb w (fld b k 1 why (fun n => n == want)) (fun _ e w' => e = .returned (.tuple #[]) ∧ Rdr w' rb bs b (k + 1) ∧ RB rb w w') e w' := by
  have B0 : Hid (Below w.heap.size w (w.alloc (.cells #[.int .u64 (want : Int)] 73))) := below_alloc _ _
  have C0 : Hid (CBox (w.alloc (.cells #[.int .u64 (want : Int)] 73)) w.heap.size 73 [.int .u64 (want : Int)]) := CBox.new w _ [_]
  have NE : Hid (w.heap.size ≠ rb) := by unfold Hid; have := h.box.lt; omega
  have FC : Hid (Calls Try.prog 91 #[.pointer (some ⟨rb, 0, none⟩), .int .i64 1, .int .i64 (why : Int), .func (.func 112) #[] #[.pointer (some ⟨w.heap.size, 0, none⟩)]] (w.alloc (.cells #[.int .u64 (want : Int)] 73)) fun e w' => Out rb (w.alloc (.cells #[.int .u64 (want : Int)] 73)) (fld b k 1 why (fun n => n == want)) (FldQ rb (w.alloc (.cells #[.int .u64 (want : Int)] 73)) bs b (k + 1)) e w') :=
    field1_is _ rb bs b k 1 why (h.past B0.out) hk (by omega) (fun n => n == want) 112 _ (fun _ _ => by kernel_rfl) fun V hV => by
      have := fixed1_is V w.heap.size (rd b k 1 : Int) (want : Int) ((C0.out.but hV NE.out).cell 0)
      rwa [eq_nat] at this
  generalize fld b k 1 why (fun n => n == want) = FF at *
  clear h hk C0 NE
  go_enter Try.func90, Try.ntmps90
  go_upto_region 1 with fail
  generalize w.alloc _ = W0 at B0 FC ⊢
  generalize w.heap.size = g0 at FC ⊢
  cases FF with
  | ok x =>
    go_wp2_with (go_at_call 91; refine FC.out.mono ?_; rintro e w' ⟨rfl, hR, hB⟩)
    go_end0
    exact ⟨rfl, hR, (below_but (S := fun g => g = rb) B0.out).trans hB⟩
  | error er =>
    obtain ⟨ec, ea⟩ := er
    go_wp2_with (go_at_call 91; refine FC.out.mono ?_; rintro e w' ⟨rfl, hB⟩; unfold thrown rejV)
    exact ⟨rfl, rfl, (below_but (S := fun g => g = rb) B0.out).trans hB⟩
end Go.Proofs.Ytndhabhlajldeaa
/- bytes.Clone; package container: the reader's lengths and measure. -/
namespace Go.Proofs.Ytndhabhlajldeaa
open Go.RowKit
theorem owns_emptyB (w : World) : (w.alloc (.cells #[] 5)).ownsRow w.heap.size 5 1 (.slice (some ⟨w.heap.size, 0, none⟩) 0 0) ([] : List Nat).length (bV []) :=
  ⟨rfl, Or.inr ⟨w.heap.size, 0, #[], rfl, Nat.le_refl _, heap_alloc_new w _, by simp, by simp, by simp, by simp [bV]⟩⟩
theorem nilB (W : World) : Sem.run Try.prog (binOp BinOp.eql 22 (.slice none 0 0) (.slice none 0 0)) W = .ok (.bool true) W := by kernel_rfl
theorem notNilB (W : World) (a : Addr) (n c : Nat) : Sem.run Try.prog (binOp BinOp.eql 22 (.slice (some a) n c) (.slice none 0 0)) W = .ok (.bool false) W := by kernel_rfl
set_option maxHeartbeats 4000000 in
set_option maxRecDepth 100000 in
theorem clone_is {P : Nat → Prop} (w : World) (v : Value) (l : List Nat) (h : BL P w v l) (hl : l.length ≤ 2199023255552) : Calls Try.prog 88 #[v] w fun e w' => ∃ v', e = .returned v' ∧ w'.ownsRow w.heap.size 5 1 v' l.length (bV l) ∧ Below w.heap.size w w' := by
  obtain ⟨_, ad, cap, rfl, h0, h1, hz, h2⟩ := id h
  cases ad with
  | none =>
    have e0 : cap = 0 := hz rfl
    have e1 : l.length = 0 := by omega
    obtain rfl := List.eq_nil_of_length_eq_zero e1
    subst e0
    clear h h0 h1 h2 hz e1 hl
    have hnil := nilB w
    go_enter Try.func88, Try.ntmps88
    go_wp2
    go_ret
    exact ⟨_, rfl, World.ownsRow_nil _ _ _ _, Below.refl _ _⟩
  | some a =>
    have HB : Hid (BL P (w.alloc (.cells #[] 5)) (.slice (some a) l.length cap) l) := h.past (below_alloc _ _)
    have HO : Hid ((w.alloc (.cells #[] 5)).ownsRow w.heap.size 5 1 (.slice (some ⟨w.heap.size, 0, none⟩) 0 0) ([] : List Nat).length (bV [])) := owns_emptyB w
    have HP : Hid (Below w.heap.size w (w.alloc (.cells #[] 5))) := below_alloc _ _
    have HL : Hid (([] : List Nat).length + l.length ≤ 2199023255552) := by unfold Hid; simpa using hl
    generalize hn : l.length = n at *
    have HN : Hid (l.length = n) := hn
    have HL2 : Hid (([] : List Nat).length + l.length ≤ 2199023255552) := by unfold Hid; rw [hn]; exact HL.out
    clear h h0 h1 h2 hz hn hl HL
    have hnil := notNilB w a n cap
    go_enter Try.func88, Try.ntmps88
    go_wp2_with (at_builtin; refine wpList_appB rfl _ _ rfl w.heap.size HP.out.size (.slice (some ⟨w.heap.size, 0, none⟩) 0 0) [] rfl HO.out (.slice (some a) n cap) l rfl HB.out HL2.out ?_; intro v' w' hA)
    go_ret
    exact ⟨_, rfl, by have := hA.row; rw [List.nil_append, HN.out] at this; exact this, HP.out.trans (hA.below HO.out HP.out.size)⟩
set_option maxHeartbeats 4000000 in
set_option maxRecDepth 100000 in
theorem len1_is (V : World) (x : Nat) : Calls Try.prog 113 #[.int .u64 (x : Int)] V fun e V' => e = .returned (.bool (decide (0 < x))) ∧ V' = V := by
  go_enter Try.func113, Try.ntmps113
  go_wp2
  go_ret
  exact ⟨rfl, rfl⟩
/-- the numbers so far, zeros behind them -/
theorem uV_set (L : List Nat) (r x : Nat) : (uV (L ++ List.replicate (r + 1) 0)).set L.length (.int .u64 (x : Int)) = uV ((L ++ [x]) ++ List.replicate r 0) := by
  unfold uV
  rw [List.map_append, List.set_append_right _ _ (by simp), List.length_map, Nat.sub_self, List.replicate_succ, List.map_cons, List.set_cons_zero, List.map_append, List.map_append]
  simp
theorem lens_len : ∀ (b : List Nat) (wd k m : Nat) (l : List Nat), lens b wd k m = .ok l → l.length = m
  | b, wd, k, 0, l, h => by unfold lens at h; cases h; rfl
  | b, wd, k, m + 1, l, h => by
    unfold lens at h
    cases e1 : fld b k wd 56 (fun n => decide (0 < n)) with
    | error er => rw [e1] at h; cases h
    | ok x =>
      rw [e1] at h
      cases e2 : lens b wd (k + wd) m with
      | error er => simp only [Except.bind, e2] at h; cases h
      | ok r =>
        simp only [Except.bind, e2] at h
        cases h
        rw [List.length_cons, lens_len b wd (k + wd) m r e2]
/-- lengths that were read -/
structure LnQ (rb : Nat) (w w' : World) (bs : Value) (b : List Nat) (k : Nat) (e : Ending) (l : List Nat) : Prop where
  ex : ∃ g, e = .returned (.slice (some ⟨g, 0, none⟩) l.length l.length) ∧ CBox w' g 73 (uV l) ∧ w.heap.size ≤ g
  rd : Rdr w' rb bs b k
  but : RB rb w w'
set_option maxHeartbeats 4000000 in
set_option maxRecDepth 100000 in
theorem rlengths_is (w : World) (rb : Nat) (bs : Value) (b : List Nat) (k m wd : Nat) (h : Rdr w rb bs b k) (hk : k ≤ b.length) (hw : wd ≤ 8) (hm : m ≤ 16777216) :
    Calls Try.prog 94 #[.pointer (some ⟨rb, 0, none⟩), .int .u64 (m : Int), .int .i64 (wd : Int)] w fun e w' => Out rb w (lens b wd k m) (fun l e w' => LnQ rb w w' bs b (k + wd * m) e l) e w' := by
  obtain ⟨W1, hmk, hcb, hB1, hsz⟩ := make_n 82 73 (.int .u64 0) (.int .u64 0) 1 8 Try.underlying82 Try.infoU (one_cell rfl) (by simp [Value.cells]) .u64 w m (by omega) (by omega)
  have NE : Hid (w.heap.size ≠ rb) := by unfold Hid; have := h.box.lt; omega
  obtain ⟨LL, hLL⟩ : ∃ LL, LL = lens b wd k m := ⟨_, rfl⟩
  rw [← hLL]
  have C0 : Hid (CBox W1 w.heap.size 73 (uV ([] ++ List.replicate (m - 0) 0)) ∧ RB rb w W1 ∧ Rdr W1 rb bs b (k + wd * 0) ∧ k + wd * 0 ≤ b.length ∧ LL = (lens b wd (k + wd * 0) (m - 0)).bind fun r => .ok ([] ++ r)) := ⟨by rw [Nat.mul_one] at hcb; simpa [uV] using hcb, below_but hB1, h.past hB1, by omega, by rw [hLL]; cases lens b wd k m <;> simp [Except.bind]⟩
  have HK : Hid (wd ≤ 8 ∧ m ≤ 16777216) := ⟨hw, hm⟩
  have HRB : Hid (rb < w.heap.size) := h.box.lt
  have mI : (m : Int) ≤ 16777216 := by omega
  clear hcb hB1 hsz h hk
  clear hLL hw hm
  go_enter Try.func94, Try.ntmps94
  go_upto_region 2 with fail
  generalize hg : w.heap.size = g at *
  have HG : Hid (w.heap.size = g) := hg
  clear hmk hg
  go_wp2
  go_loopw [13] (fun s13 wr => ∃ (i : Nat) (L : List Nat), s13 = .int .i64 (i : Int) ∧ i ≤ m ∧ L.length = i ∧ CBox wr g 73 (uV (L ++ List.replicate (m - i) 0)) ∧ RB rb w wr ∧ Rdr wr rb bs b (k + wd * i) ∧ k + wd * i ≤ b.length ∧ LL = (lens b wd (k + wd * i) (m - i)).bind fun r => .ok (L ++ r)) (fun s13 _ => m - (intOf s13).toNat)
  case atStart => exact ⟨0, [], rfl, by omega, rfl, C0.out⟩
  case round =>
    obtain ⟨i, L, rfl, hi, hL, hC, hB, hR, hkl, hE⟩ := hrel
    have HC : Hid (CBox wr g 73 (uV (L ++ List.replicate (m - i) 0)) ∧ RB rb w wr ∧ Rdr wr rb bs b (k + wd * i)) := ⟨hC, hB, hR⟩
    have HE : Hid (LL = (lens b wd (k + wd * i) (m - i)).bind fun r => .ok (L ++ r)) := hE
    have HLn : Hid (L.length = i) := hL
    clear hC hB hR hE C0 hL
    by_cases e : i = m
    · subst e
      have E0 : Hid (LL = .ok L) := by unfold Hid; rw [HE.out, Nat.sub_self, lens]; simp [Except.bind]
      have E1 : Hid (CBox wr g 73 (uV L)) := by have := HC.out.1; rwa [Nat.sub_self, List.replicate_zero, List.append_nil] at this
      go_wp2
      go_ret
      rw [E0.out]
      exact ⟨⟨g, by rw [HLn.out]; rfl, E1.out, by rw [HG.out]; exact Nat.le_refl _⟩, HC.out.2.2, HC.out.2.1⟩
    · have iI : (i : Int) < (m : Int) := by omega
      obtain ⟨r, hr⟩ : ∃ r, m - i = r + 1 := ⟨m - i - 1, by omega⟩
      have hE2 : LL = ((fld b (k + wd * i) wd 56 (fun n => decide (0 < n))).bind fun n => (lens b wd (k + wd * i + wd) r).bind fun q => .ok (n :: q)).bind fun q => .ok (L ++ q) := by rw [HE.out, hr]; rfl
      have FC0 := field0_is wr rb bs b (k + wd * i) wd 56 HC.out.2.2 hkl HK.out.1 (fun n => decide (0 < n)) 113 (fun _ _ => by kernel_rfl) (fun V _ => len1_is V (rd b (k + wd * i) wd))
      have ek : k + wd * i + wd = k + wd * (i + 1) := by rw [Nat.mul_add]; omega
      rw [ek] at FC0 hE2
      have HE2 : Hid _ := hE2
      have FC : Hid _ := FC0
      have FK : Hid (∀ x, fld b (k + wd * i) wd 56 (fun n => decide (0 < n)) = .ok x → k + wd * (i + 1) ≤ b.length) := fun x q => by
        rw [← ek]
        unfold fld at q
        split at q
        · cases q
        · omega
      generalize fld b (k + wd * i) wd 56 (fun n => decide (0 < n)) = FF at *
      have HR1 : Hid (m - i = r + 1) := hr
      clear hE2 FC0 hkl hr ek HE
      cases FF with
      | error er =>
        obtain ⟨ec, ea⟩ := er
        have E0 : Hid (LL = .error (ec, ea)) := HE2.out
        go_wp2_with (go_at_call 91; refine Calls.mono FC.out ?_; rintro e w' ⟨rfl, hB⟩; unfold thrown rejV)
        refine ⟨rfl, ?_⟩
        rw [E0.out]
        exact ⟨rfl, HC.out.2.1.trans hB⟩
      | ok x =>
        have E0 : Hid (LL = (lens b wd (k + wd * (i + 1)) (m - (i + 1))).bind fun q => .ok ((L ++ [x]) ++ q)) := by
          unfold Hid
          rw [HE2.out, show m - (i + 1) = r by have := HR1.out; omega]
          cases lens b wd (k + wd * (i + 1)) r <;> simp [Except.bind]
        have HLe : Hid (k + wd * (i + 1) ≤ b.length) := FK.out x rfl
        clear HE2 FK
        go_upto_region 6 with (go_at_call 91; refine Calls.mono FC.out ?_; rintro e w1 ⟨rfl, hR, hB⟩; (have z1 : w1.cell? ⟨g, i, none⟩ = some (.int .u64 0) := by (rw [(HC.out.1.but hB NE.out).cell, HR1.out]; simp [uV, HLn.out])); (have z2 := (HC.out.1.but hB NE.out).frozen i))
        have HN : Hid (CBox (w1.setCell ⟨g, i, none⟩ (.int .u64 (x : Int))) g 73 (uV ((L ++ [x]) ++ List.replicate (m - (i + 1)) 0)) ∧ RB rb w (w1.setCell ⟨g, i, none⟩ (.int .u64 (x : Int))) ∧ Rdr (w1.setCell ⟨g, i, none⟩ (.int .u64 (x : Int))) rb bs b (k + wd * (i + 1))) := by
          have hs : But (fun q => q = g) w1 (w1.setCell ⟨g, i, none⟩ (.int .u64 (x : Int))) := (But.refl (fun q => q = g) w1).setCell ⟨g, i, none⟩ _ (Or.inl rfl)
          refine ⟨?_, (HC.out.2.1.trans hB).setCell ⟨g, i, none⟩ _ (Or.inr (by rw [HG.out]; exact Nat.le_refl _)), ⟨hR.box.but hs (Ne.symm NE.out), hR.by'.but hs (fun q hq e => by have h1 := HG.out; have h2 := HRB.out; omega), hR.byt, hR.len⟩⟩
          have h9 := (HC.out.1.but hB NE.out).set i (.int .u64 (x : Int))
          rw [HR1.out, ← HLn.out, uV_set] at h9
          rw [show m - (i + 1) = r by have := HR1.out; omega]
          rw [HLn.out] at h9
          exact h9
        clear z1 z2 hR hB FC
        go_wp2
        go_roundw
        case rel => exact ⟨i + 1, L ++ [x], by first | rfl | go_num, by omega, by rw [List.length_append, HLn.out]; rfl, HN.out.1, HN.out.2.1, HN.out.2.2, HLe.out, E0.out⟩
        case measure => simp [intOf]; omega
end Go.Proofs.Ytndhabhlajldeaa
/- The document's containers: typeWrong, number, at, sum. -/
namespace Go.Proofs.Ytndhabhlajldeaa
open Go.RowKit
end Go.Proofs.Ytndhabhlajldeaa
/- The document's containers: number, at, sum, lengths; lists of ints. -/
namespace Go.Proofs.Ytndhabhlajldeaa
open Go.RowKit
/-- ints as cells -/
def iV (l : List Nat) : List Value := l.map fun x : Nat => Value.int .i64 (x : Int)
/-- a list of ints of one's own -/
def InO (B : Nat) (W : World) (v : Value) (l : List Nat) : Prop := W.ownsRow B 3 1 v l.length (iV l)
theorem InO.past {B : Nat} {W W' : World} {v : Value} {l : List Nat} (h : InO B W v l) (k : Below W.heap.size W W') : InO B W' v l := owns_past h k
theorem InO.nil (B : Nat) (W : World) : InO B W (.slice none 0 0) [] := World.ownsRow_nil _ _ _ _
theorem InO.get {B : Nat} {W : World} {ad : Option Addr} {n c : Nat} {l : List Nat} (h : InO B W (.slice ad n c) l) {i x : Nat} (hi : l[i]? = some x) : ∃ g, ad = some ⟨g, 0, none⟩ ∧ W.cell? ⟨g, i, none⟩ = some (.int .i64 (x : Int)) := by
  have hl : i < l.length := (List.getElem?_eq_some_iff.1 hi).1
  rcases id h.2 with ⟨e, e2⟩ | ⟨g, c', cur, e, hb, hh, hq, _, hz, ht⟩
  · omega
  · injection e with e1 _ _
    subst e1
    refine ⟨g, rfl, ?_⟩
    have := World.ownsRow.cells h (g := g) rfl i (.int .i64 (x : Int)) (by simp [iV, hi])
    simpa [Addr.add_mid] using this
end Go.Proofs.Ytndhabhlajldeaa
/- The document's containers: number. -/
namespace Go.Proofs.Ytndhabhlajldeaa
open Go.RowKit
end Go.Proofs.Ytndhabhlajldeaa
/- The document's containers: Check. -/
namespace Go.Proofs.Ytndhabhlajldeaa
open Go.RowKit
end Go.Proofs.Ytndhabhlajldeaa
/- The document's containers: Head. -/
namespace Go.Proofs.Ytndhabhlajldeaa
open Go.RowKit
theorem InO.app {B C s n n' : Nat} {W W' : World} {u v v' : Value} {l : List Nat} {cs cs' : List Value} (h : InO C W u l) (k : App B 5 s W W' v v' n cs) (hv : W.ownsRow B 5 s v n' cs') : InO C W' u l :=
  owns_row_blockB h fun g hg => k.but.block g (World.ownsRow.lt h g hg).2 fun e => by
    rcases hv.2 with ⟨rfl, _⟩ | ⟨g', c, cur, rfl, _, hh, _⟩
    · cases e
    · injection e with e
      subst e
      rcases id h.2 with ⟨rfl, _⟩ | ⟨g2, c2, cur2, rfl, _, hh2, _⟩
      · cases hg
      · injection hg with hg
        subst hg
        rw [hh] at hh2
        cases hh2
theorem InO.sl {C : Nat} {W : World} {v : Value} {l : List Nat} (h : InO C W v l) : ∃ ad cap, v = .slice ad l.length cap := owns_sl h
/-- a header that the document writes -/
structure HdI (B : Nat) (w W : World) (cv sv : Value) (cs ss : List Nat) (v0 v : Value) (l : List Nat) : Prop where
  app : App B 5 1 w W v0 v l.length (bV l)
  uc : InO 0 W cv cs
  us : InO 0 W sv ss
  hB : B ≤ w.heap.size
section
variable {B : Nat} {w W W' : World} {cv sv v0 v v' : Value} {cs ss l l' : List Nat}
theorem HdI.le (h : HdI B w W cv sv cs ss v0 v l) : B ≤ W.heap.size := Nat.le_trans h.hB h.app.but.size
theorem HdI.past (h : HdI B w W cv sv cs ss v0 v l) (k : Below W.heap.size W W') : HdI B w W' cv sv cs ss v0 v l := ⟨h.app.then k, h.uc.past k, h.us.past k, h.hB⟩
theorem HdI.step (h : HdI B w W cv sv cs ss v0 v l) (k : App B 5 1 W W' v v' l'.length (bV l')) : HdI B w W' cv sv cs ss v0 v' l' := ⟨h.app.trans k, h.uc.app k h.app.row, h.us.app k h.app.row, h.hB⟩
end
end Go.Proofs.Ytndhabhlajldeaa
/- Package container: Size, Serialize. -/
namespace Go.Proofs.Ytndhabhlajldeaa
open Go.RowKit
def conV (ta : Option Addr) (nt tc : Nat) (ca : Option Addr) (nc cc : Nat) (sa : Option Addr) (ns sc : Nat) (da : Option Addr) (nd dc : Nat) (z : Int) : List Value := [.slice ta nt tc, .slice ca nc cc, .slice sa ns sc, .slice da nd dc, .int .i64 z]
/-- the boxes of Size: the container's, the header's -/
structure HZ (bw : Nat) (w V : World) (b1 b5 : Nat) (l1 l5 : List Value) : Prop where
  bel : Below bw w V
  c1 : CBox V b1 28 l1
  c5 : CBox V b5 84 l5
  ge : bw ≤ w.heap.size
theorem HZ.past {bw : Nat} {w V V' : World} {b1 b5 : Nat} {l1 l5 : List Value} (h : HZ bw w V b1 b5 l1 l5) (k : Below V.heap.size V V') : HZ bw w V' b1 b5 l1 l5 := ⟨h.bel.trans (k.mono (Nat.le_trans h.ge h.bel.size)), h.c1.past k, h.c5.past k, h.ge⟩
set_option maxHeartbeats 4000000 in
set_option maxRecDepth 100000 in
theorem size_is {P : Nat → Prop} (w : World) (v : Value) (c : Con) (h : CW P w v c) (hsm : Small c) : Calls Try.prog 38 #[v] w fun e w' => e = .returned (.tuple #[.int .i64 ((if chk c = 0 then (ser c).length else 0 : Nat) : Int), .int .i64 (chk c)]) ∧ Below w.heap.size w w' := by
  obtain ⟨tv, cv, sv, dv, rfl, hT, hC, hS, hD⟩ := id h
  obtain ⟨ta, tc, rfl, _⟩ := hT.len
  obtain ⟨ca, cc, rfl, _⟩ := hC.len
  obtain ⟨sa, sc, rfl, _⟩ := hS.len
  obtain ⟨da, dc, rfl, _, hd1⟩ := hD.len
  have CK : Hid (∀ W, Below w.heap.size w W → Calls Try.prog 20 #[.agg #[.slice ta c.ts.length tc, .slice ca c.cs.length cc, .slice sa c.ss.length sc, .slice da c.d.length dc, .int .i64 c.n]] W fun e w' => e = .returned (.int .i64 (chk c)) ∧ Below W.heap.size W w') := fun W hW => check_is W _ c (h.past hW)
  have B0 : Hid (Below w.heap.size w (w.alloc (.cells #[.slice ta c.ts.length tc, .slice ca c.cs.length cc, .slice sa c.ss.length sc, .slice da c.d.length dc, .int .i64 c.n] 28)) ∧ CBox (w.alloc (.cells #[.slice ta c.ts.length tc, .slice ca c.cs.length cc, .slice sa c.ss.length sc, .slice da c.d.length dc, .int .i64 c.n] 28)) w.heap.size 28 [.slice ta c.ts.length tc, .slice ca c.cs.length cc, .slice sa c.ss.length sc, .slice da c.d.length dc, .int .i64 c.n]) := ⟨below_alloc _ _, CBox.new _ _ [_, _, _, _, _]⟩
  by_cases ok : chk c = 0
  rotate_left
  · have E0 : Hid ((if chk c = 0 then (ser c).length else 0) = 0) := by unfold Hid; rw [if_neg ok]
    rw [E0.out]
    have q2 : (chk c == 0) = false := by simpa using ok
    have q3 : (chk c != 0) = true := by simpa using ok
    clear hT hC hS hD hd1 E0 h hsm ok
    generalize chk c = r at *
    generalize c.ts.length = nt at *
    generalize c.cs.length = nc at *
    generalize c.ss.length = ns at *
    generalize c.d.length = nd at *
    generalize c.n = z at *
    go_enter Try.func38, Try.ntmps38
    go_upto_region 1 with fail
    generalize w.alloc _ = W0 at B0 ⊢
    generalize hbx : w.heap.size = bx at *
    have GB : Hid (w.heap.size = bx) := hbx
    have c0 : W0.cell? ⟨bx, 0, none⟩ = some (.slice ta nt tc) := B0.out.2.cell 0
    have c1 : W0.cell? ⟨bx, 1, none⟩ = some (.slice ca nc cc) := B0.out.2.cell 1
    have c2 : W0.cell? ⟨bx, 2, none⟩ = some (.slice sa ns sc) := B0.out.2.cell 2
    have c3 : W0.cell? ⟨bx, 3, none⟩ = some (.slice da nd dc) := B0.out.2.cell 3
    have c4 : W0.cell? ⟨bx, 4, none⟩ = some (.int .i64 z) := B0.out.2.cell 4
    clear hbx
    go_wp2_with (go_at_call 20; refine (CK.out _ B0.out.1).mono ?_; rintro e w1 ⟨rfl, hB⟩)
    go_ret2
    exact ⟨rfl, by have := B0.out.1.trans (hB.mono (by have := B0.out.1.size; rw [← GB.out]; have h9 := B0.out.1.size; exact h9)); rw [GB.out]; exact this⟩
  have my := chk_may ok
  obtain ⟨q, hq⟩ : ∃ q : Nat, c.n = (q : Int) := ⟨c.n.toNat, by have := my.z2; omega⟩
  have eq : c.n.toNat = q := by omega
  have qI : q ≤ 65535 := by have := my.z1; omega
  have n1e := lns_len c.cs
  have n2e := lns_len c.ss
  have SLn := ser_len my
  have SS := ser_small my hsm
  have HX := lns_lt hsm
  have l1 : (lns c.cs).length ≤ 16777216 ∧ (lns c.ss).length ≤ 16777216 := by have := my.n2; have := my.ns; omega
  rw [eq] at SLn
  have HOc : Hid (∀ W, Below w.heap.size w W → Calls Try.prog 74 #[.agg #[.slice ta c.ts.length tc, .slice ca c.cs.length cc, .slice sa c.ss.length sc, .slice da c.d.length dc, .int .i64 c.n]] W fun e w' => ∃ a1 a2, e = .returned (.agg #[.slice a1 (lns c.cs).length (lns c.cs).length, .slice a2 (lns c.ss).length (lns c.ss).length, .int .u64 (q : Int)]) ∧ UL w' (.slice a1 (lns c.cs).length (lns c.cs).length) (lns c.cs) ∧ UL w' (.slice a2 (lns c.ss).length (lns c.ss).length) (lns c.ss) ∧ Below W.heap.size W w') := fun W hW => (headerOf_is W _ c (h.past hW) (by have := my.z1; omega) (by have := my.n2; omega) (by have := my.ns; omega)).mono fun e w' ⟨u1, u2, h1, h2, h3, h4⟩ => by
    obtain ⟨a1, rfl⟩ := h2.len
    obtain ⟨a2, rfl⟩ := h3.len
    rw [eq] at h1
    exact ⟨a1, a2, h1, h2, h3, h4⟩
  have WR : Hid (∀ W a1 a2, UL W (.slice a1 (lns c.cs).length (lns c.cs).length) (lns c.cs) → UL W (.slice a2 (lns c.ss).length (lns c.ss).length) (lns c.ss) → Calls Try.prog 75 #[.agg #[.slice a1 (lns c.cs).length (lns c.cs).length, .slice a2 (lns c.ss).length (lns c.ss).length, .int .u64 (q : Int)], .slice none 0 0] W fun e w' => ∃ a3 c3, e = .returned (.slice a3 (hd (lns c.cs) (lns c.ss) q).length c3) ∧ Below W.heap.size W w') := fun W a1 a2 h1 h2 => (write_is W W.heap.size (Nat.le_refl _) (.slice none 0 0) [] (World.ownsRow_nil _ _ _ _) _ _ _ _ q h1 h2 HX.1 HX.2 l1.1 l1.2 (by omega) (by simp)).mono fun e w' ⟨v', h3, h4⟩ => by
    obtain ⟨a3, c3, rfl⟩ := owns_sl h4.row
    rw [List.nil_append] at h3
    exact ⟨a3, c3, h3, h4.nil_below⟩
  have BH : Hid (∀ W a1 a2, UL W (.slice a1 (lns c.cs).length (lns c.cs).length) (lns c.cs) → UL W (.slice a2 (lns c.ss).length (lns c.ss).length) (lns c.ss) → Calls Try.prog 81 #[.agg #[.slice a1 (lns c.cs).length (lns c.cs).length, .slice a2 (lns c.ss).length (lns c.ss).length, .int .u64 (q : Int)]] W fun e w' => e = .returned (.int .u64 ((4 * (lns c.cs).length + sumL (lns c.cs) + sumL (lns c.ss) : Nat) : Int)) ∧ Below W.heap.size W w') := fun W a1 a2 h1 h2 => behind_is W _ _ _ _ q h1 h2 (by omega) (by omega)
  rw [if_pos ok, ok, hq]
  rw [ok, hq] at CK
  rw [hq] at B0 HOc
  clear h my HX l1 hT hC hS hD n1e n2e hq eq ok hd1 hsm
  generalize hm2 : 4 * (lns c.cs).length + sumL (lns c.cs) + sumL (lns c.ss) = m2 at *
  generalize hm1 : (hd (lns c.cs) (lns c.ss) q).length = m1 at *
  generalize hrr : (ser c).length = rr at *
  clear hm2 hm1 hrr
  generalize (lns c.cs).length = n1 at *
  generalize (lns c.ss).length = n2 at *
  generalize lns c.cs = L1 at *
  generalize lns c.ss = L2 at *
  generalize c.ts.length = nt at *
  generalize c.cs.length = nc at *
  generalize c.ss.length = ns at *
  generalize c.d.length = nd at *
  obtain ⟨s1, hs1⟩ : ∃ s1 : Nat, s1 = m1 + m2 := ⟨_, rfl⟩
  have r1 : (m1 : Int) + (m2 : Int) = (s1 : Int) := by omega
  have r2 : (s1 : Int) + (nd : Int) = (rr : Int) := by omega
  have w1 : IntKind.i64.wrap (s1 : Int) = (s1 : Int) := by rw [IntKind.wrap_i64]; omega
  have w2 : IntKind.i64.wrap (rr : Int) = (rr : Int) := by rw [IntKind.wrap_i64]; omega
  have w3 : IntKind.i64.wrap (m2 : Int) = (m2 : Int) := by rw [IntKind.wrap_i64]; omega
  generalize hbw : w.heap.size = bw at *
  have GB : Hid (w.heap.size = bw) := hbw
  have GE : Hid (bw ≤ w.heap.size) := by unfold Hid; omega
  clear SLn SS hs1 qI
  go_enter Try.func38, Try.ntmps38
  go_upto_region 1 with fail
  generalize w.alloc _ = W0 at B0 ⊢
  have c0 : W0.cell? ⟨bw, 0, none⟩ = some (.slice ta nt tc) := B0.out.2.cell 0
  have c1 : W0.cell? ⟨bw, 1, none⟩ = some (.slice ca nc cc) := B0.out.2.cell 1
  have c2 : W0.cell? ⟨bw, 2, none⟩ = some (.slice sa ns sc) := B0.out.2.cell 2
  have c3 : W0.cell? ⟨bw, 3, none⟩ = some (.slice da nd dc) := B0.out.2.cell 3
  have c4 : W0.cell? ⟨bw, 4, none⟩ = some (.int .i64 (q : Int)) := B0.out.2.cell 4
  clear hbw
  go_upto_region 4 with (go_at_call 20; refine (CK.out _ B0.out.1).mono ?_; rintro e w1 ⟨rfl, hB⟩)
  have B1 : Hid (Below bw w w1 ∧ CBox w1 bw 28 [.slice ta nt tc, .slice ca nc cc, .slice sa ns sc, .slice da nd dc, .int .i64 (q : Int)]) := ⟨B0.out.1.trans (hB.mono (Nat.le_trans GE.out B0.out.1.size)), B0.out.2.past hB⟩
  clear c0 c1 c2 c3 c4 hB B0
  have c0 : w1.cell? ⟨bw, 0, none⟩ = some (.slice ta nt tc) := B1.out.2.cell 0
  have c1 : w1.cell? ⟨bw, 1, none⟩ = some (.slice ca nc cc) := B1.out.2.cell 1
  have c2 : w1.cell? ⟨bw, 2, none⟩ = some (.slice sa ns sc) := B1.out.2.cell 2
  have c3 : w1.cell? ⟨bw, 3, none⟩ = some (.slice da nd dc) := B1.out.2.cell 3
  have c4 : w1.cell? ⟨bw, 4, none⟩ = some (.int .i64 (q : Int)) := B1.out.2.cell 4
  go_upto_region 5 with (go_at_call 74; refine (HOc.out _ B1.out.1).mono ?_; rintro e w2 ⟨a1, a2, rfl, hU1, hU2, hB⟩)
  have H0 : Hid (HZ bw w (w2.alloc (.cells #[.slice a1 n1 n1, .slice a2 n2 n2, .int .u64 (q : Int)] 84)) bw w2.heap.size (conV ta nt tc ca nc cc sa ns sc da nd dc (q : Int)) [.slice a1 n1 n1, .slice a2 n2 n2, .int .u64 (q : Int)] ∧ UL (w2.alloc (.cells #[.slice a1 n1 n1, .slice a2 n2 n2, .int .u64 (q : Int)] 84)) (.slice a1 n1 n1) L1 ∧ UL (w2.alloc (.cells #[.slice a1 n1 n1, .slice a2 n2 n2, .int .u64 (q : Int)] 84)) (.slice a2 n2 n2) L2) := by
    have b2 := B1.out.1.trans (hB.mono (Nat.le_trans GE.out B1.out.1.size))
    exact ⟨⟨b2.trans ((below_alloc _ _).mono (Nat.le_trans GE.out b2.size)), (B1.out.2.past hB).past (below_alloc _ _), CBox.new _ _ [_, _, _], GE.out⟩, hU1.past (below_alloc _ _), hU2.past (below_alloc _ _)⟩
  clear c0 c1 c2 c3 c4 hU1 hU2 hB B1 CK HOc
  generalize w2.alloc _ = V5 at H0 ⊢
  generalize w2.heap.size = b5 at H0 ⊢
  refine wp_region_held_drew (S := fun V' => HZ bw w V' bw b5 (conV ta nt tc ca nc cc sa ns sc da nd dc (q : Int)) [.slice a1 n1 n1, .slice a2 n2 n2, .int .u64 (q : Int)]) (by kernel_rfl) (H0.out.1.past below_drew) (fun hHeld => ?_)
  have U0 : Hid (UL V5.drew (.slice a1 n1 n1) L1 ∧ UL V5.drew (.slice a2 n2 n2) L2) := ⟨H0.out.2.1.past below_drew, H0.out.2.2.past below_drew⟩
  clear H0
  generalize V5.drew = z0 at hHeld U0 ⊢
  refine wpAnyH_take (i := 0) (v := .agg #[.slice a1 n1 n1, .slice a2 n2 n2, .int .u64 (q : Int)]) ov0 (by kernel_rfl) (by kernel_rfl) (by kernel_rfl) (fun _ _ _ h => h) (Or.inl ⟨by rfl, fun V' hS => ?_⟩) hHeld ?_
  · have c0 : V'.cell? ⟨b5, 0, none⟩ = some (.slice a1 n1 n1) := hS.c5.cell 0; have c1 : V'.cell? ⟨b5, 1, none⟩ = some (.slice a2 n2 n2) := hS.c5.cell 1; have c2 : V'.cell? ⟨b5, 2, none⟩ = some (.int .u64 (q : Int)) := hS.c5.cell 2
    go_simp
  simp only [Act.put, List.setIfInBounds_toArray, List.set_cons_zero, List.set_cons_succ]
  refine wpAnyH_take (i := 3) (v := .agg #[.slice a1 n1 n1, .slice a2 n2 n2, .int .u64 (q : Int)]) ov3 (by kernel_rfl) (by kernel_rfl) (by kernel_rfl) (fun _ _ _ h => h) (Or.inl ⟨by rfl, fun V' hS => ?_⟩) hHeld ?_
  · have c0 : V'.cell? ⟨b5, 0, none⟩ = some (.slice a1 n1 n1) := hS.c5.cell 0; have c1 : V'.cell? ⟨b5, 1, none⟩ = some (.slice a2 n2 n2) := hS.c5.cell 1; have c2 : V'.cell? ⟨b5, 2, none⟩ = some (.int .u64 (q : Int)) := hS.c5.cell 2
    go_simp
  simp only [Act.put, List.setIfInBounds_toArray, List.set_cons_zero, List.set_cons_succ]
  refine wpAnyH_take (i := 7) (v := .pointer (some ⟨bw, 3, none⟩)) ov7 (by kernel_rfl) (by kernel_rfl) (by kernel_rfl) (fun _ _ _ h => h) (Or.inl ⟨by rfl, fun V' hS => ?_⟩) hHeld ?_
  · go_simp
  simp only [Act.put, List.setIfInBounds_toArray, List.set_cons_zero, List.set_cons_succ]
  refine wpAnyH_take (i := 8) (v := .slice da nd dc) ov8 (by kernel_rfl) (by kernel_rfl) (by kernel_rfl) (fun _ _ _ h => h) (Or.inl ⟨by rfl, fun V' hS => ?_⟩) hHeld ?_
  · have c0 : V'.cell? ⟨bw, 3, none⟩ = some (.slice da nd dc) := hS.c1.cell 3
    go_simp
  simp only [Act.put, List.setIfInBounds_toArray, List.set_cons_zero, List.set_cons_succ]
  refine wpAnyH_take (i := 9) (v := .int .i64 (nd : Int)) ov9 (by kernel_rfl) (by kernel_rfl) (by kernel_rfl) (fun _ _ _ h => h) (Or.inl ⟨by rfl, fun V' hS => ?_⟩) hHeld ?_
  · go_simp
  simp only [Act.put, List.setIfInBounds_toArray, List.set_cons_zero, List.set_cons_succ]
  refine wpAnyH_ready (rs := [1]) (by kernel_rfl) (by simp) ?_
  refine AllReadyH.cons ov1 (fun K hK => ?_) AllReadyH.nil
  rw [if_pos (by rfl)]
  go_simp
  refine (WR.out _ a1 a2 U0.out.1 U0.out.2).mono ?_
  rintro e z1 ⟨a3, c3, rfl, hB1⟩
  have H1 := hHeld.past hB1
  have U1 : Hid (UL z1 (.slice a1 n1 n1) L1 ∧ UL z1 (.slice a2 n2 n2) L2) := ⟨U0.out.1.past hB1, U0.out.2.past hB1⟩
  (try go_wp2_with fail)
  refine hK.out _ _ H1 (fun _ => ?_)
  clear hK K
  (try simp only [Act.put, List.setIfInBounds_toArray, List.set_cons_zero, List.set_cons_succ])
  refine wpAnyH_take (i := 2) (v := .int .i64 (m1 : Int)) ov2 (by kernel_rfl) (by kernel_rfl) (by kernel_rfl) (fun _ _ _ h => h) (Or.inl ⟨by rfl, fun V' hS => ?_⟩) H1 ?_
  · go_simp
  simp only [Act.put, List.setIfInBounds_toArray, List.set_cons_zero, List.set_cons_succ]
  refine wpAnyH_ready (rs := [4]) (by kernel_rfl) (by simp) ?_
  refine AllReadyH.cons ov4 (fun K hK => ?_) AllReadyH.nil
  rw [if_pos (by rfl)]
  go_simp
  refine (BH.out _ a1 a2 U1.out.1 U1.out.2).mono ?_
  rintro e z2 ⟨rfl, hB2⟩
  have H2 := H1.past hB2
  (try go_wp2_with fail)
  refine hK.out _ _ H2 (fun _ => ?_)
  clear hK K
  (try simp only [Act.put, List.setIfInBounds_toArray, List.set_cons_zero, List.set_cons_succ])
  refine wpAnyH_take (i := 5) (v := .int .i64 (m2 : Int)) ov5 (by kernel_rfl) (by kernel_rfl) (by kernel_rfl) (fun _ _ _ h => h) (Or.inl ⟨by rfl, fun V' hS => ?_⟩) H2 ?_
  · go_simp
  simp only [Act.put, List.setIfInBounds_toArray, List.set_cons_zero, List.set_cons_succ]
  refine wpAnyH_take (i := 6) (v := .int .i64 (s1 : Int)) ov6 (by kernel_rfl) (by kernel_rfl) (by kernel_rfl) (fun _ _ _ h => h) (Or.inl ⟨by rfl, fun V' hS => ?_⟩) H2 ?_
  · go_simp
  simp only [Act.put, List.setIfInBounds_toArray, List.set_cons_zero, List.set_cons_succ]
  refine wpAnyH_take (i := 10) (v := .int .i64 (rr : Int)) ov10 (by kernel_rfl) (by kernel_rfl) (by kernel_rfl) (fun _ _ _ h => h) (Or.inl ⟨by rfl, fun V' hS => ?_⟩) H2 ?_
  · go_simp
  simp only [Act.put, List.setIfInBounds_toArray, List.set_cons_zero, List.set_cons_succ]
  refine wpAnyH_take (i := 11) (v := .int .i64 (rr : Int)) ov11 (by kernel_rfl) (by kernel_rfl) (by kernel_rfl) (fun _ _ _ h => h) (Or.inl ⟨by rfl, fun V' hS => ?_⟩) H2 ?_
  · go_simp
  simp only [Act.put, List.setIfInBounds_toArray, List.set_cons_zero, List.set_cons_succ]
  refine wpAnyH_take (i := 12) (v := .int .i64 0) ov12 (by kernel_rfl) (by kernel_rfl) (by kernel_rfl) (fun _ _ _ h => h) (Or.inl ⟨by rfl, fun V' hS => ?_⟩) H2 ?_
  · go_simp
  simp only [Act.put, List.setIfInBounds_toArray, List.set_cons_zero, List.set_cons_succ]
  refine wpAnyH_done (by kernel_rfl) ?_ _
  go_wp2
  go_ret2
  exact ⟨rfl, H2.bel⟩
end Go.Proofs.Ytndhabhlajldeaa
/- Package container: Serialize. -/
namespace Go.Proofs.Ytndhabhlajldeaa
open Go.RowKit
theorem owns_base {W : World} {B B' : Nat} {t : TypeId} {s n : Nat} {v : Value} {cs : List Value} (h : W.ownsRow B t s v n cs) (hB : B' ≤ B) : W.ownsRow B' t s v n cs := by
  obtain ⟨hl, h | ⟨g, c, cur, rfl, h1, h2⟩⟩ := h
  · exact ⟨hl, Or.inl h⟩
  · exact ⟨hl, Or.inr ⟨g, c, cur, rfl, Nat.le_trans hB h1, h2⟩⟩
theorem make0g (bw : Nat) (W : World) (hb : bw ≤ W.heap.size) (M : Nat) (hM : M ≤ 140737488355328) : ∃ W1 g0, Sem.run Try.prog (Instr.makeSlice 22 (.int .i64 0) (.int .i64 (M : Int))) W = .ok (.slice (some ⟨g0, 0, none⟩) 0 M) W1 ∧ W1.ownsRow bw 5 1 (.slice (some ⟨g0, 0, none⟩) 0 M) 0 (bV []) ∧ Below W.heap.size W W1 := by
  obtain ⟨W1, h1, h2, h3⟩ := make0 W M hM
  exact ⟨W1, _, h1, owns_base h2 hb, h3⟩
def serR (c : Con) : List Nat := if chk c = 0 then ser c else []
/-- a container's box, and a row that is written -/
structure HY (bw : Nat) (w V : World) (l1 : List Value) (v : Value) (l : List Nat) : Prop where
  bel : Below bw w V
  c1 : CBox V bw 28 l1
  row : V.ownsRow bw 5 1 v l.length (bV l)
  ge : bw ≤ w.heap.size
theorem HY.le {bw : Nat} {w V : World} {l1 : List Value} {v : Value} {l : List Nat} (h : HY bw w V l1 v l) : bw ≤ V.heap.size := Nat.le_trans h.ge h.bel.size
theorem HY.step {bw : Nat} {w V V' : World} {l1 : List Value} {v v' : Value} {l l' : List Nat} (h : HY bw w V l1 v l) (k : App bw 5 1 V V' v v' l'.length (bV l')) : HY bw w V' l1 v' l' := ⟨h.bel.trans (k.below h.row h.le), h.c1.app k h.row (by decide), k.row, h.ge⟩
theorem HY.not {bw : Nat} {w V : World} {l1 : List Value} {v : Value} {l : List Nat} (h : HY bw w V l1 v l) : ∀ g, g < bw → ¬ OwnV v g := fun g hg e => by have := (h.row.lt g e).1; omega
set_option maxHeartbeats 4000000 in
set_option maxRecDepth 100000 in
theorem serialize_is {P : Nat → Prop} (w : World) (v : Value) (c : Con) (h : CW P w v c) (hsm : Small c) : Calls Try.prog 35 #[v] w fun e w' => ∃ v', e = .returned (.tuple #[v', .int .i64 (chk c)]) ∧ w'.ownsRow w.heap.size 5 1 v' (serR c).length (bV (serR c)) ∧ Below w.heap.size w w' := by
  have h : CW (fun g => g < w.heap.size) w v c := h.mono (fun _ _ hg => hg)
  obtain ⟨tv, cv, sv, dv, rfl, hT, hC, hS, hD⟩ := id h
  obtain ⟨ta, tc, rfl, _⟩ := hT.len
  obtain ⟨ca, cc, rfl, _⟩ := hC.len
  obtain ⟨sa, sc, rfl, _⟩ := hS.len
  obtain ⟨da, dc, rfl, _, hd1⟩ := hD.len
  have CK : Hid (∀ W, Below w.heap.size w W → Calls Try.prog 38 #[.agg #[.slice ta c.ts.length tc, .slice ca c.cs.length cc, .slice sa c.ss.length sc, .slice da c.d.length dc, .int .i64 c.n]] W fun e w' => e = .returned (.tuple #[.int .i64 ((if chk c = 0 then (ser c).length else 0 : Nat) : Int), .int .i64 (chk c)]) ∧ Below W.heap.size W w') := fun W hW => size_is W _ c (h.past hW) hsm
  have B0 : Hid (Below w.heap.size w (w.alloc (.cells #[.slice ta c.ts.length tc, .slice ca c.cs.length cc, .slice sa c.ss.length sc, .slice da c.d.length dc, .int .i64 c.n] 28)) ∧ CBox (w.alloc (.cells #[.slice ta c.ts.length tc, .slice ca c.cs.length cc, .slice sa c.ss.length sc, .slice da c.d.length dc, .int .i64 c.n] 28)) w.heap.size 28 [.slice ta c.ts.length tc, .slice ca c.cs.length cc, .slice sa c.ss.length sc, .slice da c.d.length dc, .int .i64 c.n]) := ⟨below_alloc _ _, CBox.new _ _ [_, _, _, _, _]⟩
  by_cases ok : chk c = 0
  rotate_left
  · have E0 : Hid (serR c = []) := by unfold Hid serR; rw [if_neg ok]
    rw [E0.out]
    rw [if_neg ok] at CK
    have q2 : (chk c == 0) = false := by simpa using ok
    have q3 : (chk c != 0) = true := by simpa using ok
    clear hT hC hS hD hd1 E0 h hsm ok
    generalize chk c = r at *
    generalize c.ts.length = nt at *
    generalize c.cs.length = nc at *
    generalize c.ss.length = ns at *
    generalize c.d.length = nd at *
    generalize c.n = z at *
    generalize hbx : w.heap.size = bx at *
    have GE : Hid (bx ≤ w.heap.size) := by unfold Hid; omega
    go_enter Try.func35, Try.ntmps35
    go_upto_region 1 with fail
    generalize w.alloc _ = W0 at B0 ⊢
    have c0 : W0.cell? ⟨bx, 0, none⟩ = some (.slice ta nt tc) := B0.out.2.cell 0
    have c1 : W0.cell? ⟨bx, 1, none⟩ = some (.slice ca nc cc) := B0.out.2.cell 1
    have c2 : W0.cell? ⟨bx, 2, none⟩ = some (.slice sa ns sc) := B0.out.2.cell 2
    have c3 : W0.cell? ⟨bx, 3, none⟩ = some (.slice da nd dc) := B0.out.2.cell 3
    have c4 : W0.cell? ⟨bx, 4, none⟩ = some (.int .i64 z) := B0.out.2.cell 4
    clear hbx
    go_wp2_with (go_at_call 38; refine (CK.out _ B0.out.1).mono ?_; rintro e w1 ⟨rfl, hB⟩)
    go_ret2
    exact ⟨_, rfl, World.ownsRow_nil _ _ _ _, B0.out.1.trans (hB.mono (Nat.le_trans GE.out B0.out.1.size))⟩
  have my := chk_may ok
  obtain ⟨q, hq⟩ : ∃ q : Nat, c.n = (q : Int) := ⟨c.n.toNat, by have := my.z2; omega⟩
  have eq : c.n.toNat = q := by omega
  have qI : q ≤ 65535 := by have := my.z1; omega
  have n1e := lns_len c.cs
  have n2e := lns_len c.ss
  have SLn := ser_len my
  have SS := ser_small my hsm
  have HX := lns_lt hsm
  have l1 : (lns c.cs).length ≤ 16777216 ∧ (lns c.ss).length ≤ 16777216 := by have := my.n2; have := my.ns; omega
  rw [eq] at SLn
  have HOc : Hid (∀ W, Below w.heap.size w W → Calls Try.prog 74 #[.agg #[.slice ta c.ts.length tc, .slice ca c.cs.length cc, .slice sa c.ss.length sc, .slice da c.d.length dc, .int .i64 c.n]] W fun e w' => ∃ a1 a2, e = .returned (.agg #[.slice a1 (lns c.cs).length (lns c.cs).length, .slice a2 (lns c.ss).length (lns c.ss).length, .int .u64 (q : Int)]) ∧ UL w' (.slice a1 (lns c.cs).length (lns c.cs).length) (lns c.cs) ∧ UL w' (.slice a2 (lns c.ss).length (lns c.ss).length) (lns c.ss) ∧ Below W.heap.size W w') := fun W hW => (headerOf_is W _ c (h.past hW) (by have := my.z1; omega) (by have := my.n2; omega) (by have := my.ns; omega)).mono fun e w' ⟨u1, u2, h1, h2, h3, h4⟩ => by
    obtain ⟨a1, rfl⟩ := h2.len
    obtain ⟨a2, rfl⟩ := h3.len
    rw [eq] at h1
    exact ⟨a1, a2, h1, h2, h3, h4⟩
  have EF : Hid ((((hd (lns c.cs) (lns c.ss) q ++ c.ts.flatMap tyb) ++ c.cs.flatten) ++ c.ss.flatten) ++ c.d = serR c) := by unfold Hid serR; rw [if_pos ok, ser, eq]
  have LB : Hid ((((hd (lns c.cs) (lns c.ss) q ++ c.ts.flatMap tyb) ++ c.cs.flatten) ++ c.ss.flatten).length + c.d.length ≤ 2199023255552) := by
    unfold Hid
    have h9 := congrArg List.length EF.out
    rw [List.length_append, serR, if_pos ok] at h9
    omega
  have lbs : (hd (lns c.cs) (lns c.ss) q).length + (c.ts.flatMap tyb).length + c.cs.flatten.length + c.ss.flatten.length ≤ 67108864 := by
    have h9 := congrArg List.length EF.out
    simp only [List.length_append, serR, if_pos ok] at h9
    omega
  have WR : Hid (∀ W a1 a2, w.heap.size ≤ W.heap.size → UL W (.slice a1 (lns c.cs).length (lns c.cs).length) (lns c.cs) → UL W (.slice a2 (lns c.ss).length (lns c.ss).length) (lns c.ss) → ∀ g0, W.ownsRow w.heap.size 5 1 (.slice (some ⟨g0, 0, none⟩) 0 (ser c).length) 0 (bV []) → Calls Try.prog 75 #[.agg #[.slice a1 (lns c.cs).length (lns c.cs).length, .slice a2 (lns c.ss).length (lns c.ss).length, .int .u64 (q : Int)], .slice (some ⟨g0, 0, none⟩) 0 (ser c).length] W fun e w' => ∃ v', e = .returned v' ∧ App w.heap.size 5 1 W w' (.slice (some ⟨g0, 0, none⟩) 0 (ser c).length) v' (hd (lns c.cs) (lns c.ss) q).length (bV (hd (lns c.cs) (lns c.ss) q))) := fun W a1 a2 hW h1 h2 g0 hr => (write_is W w.heap.size hW _ [] hr _ _ _ _ q h1 h2 HX.1 HX.2 l1.1 l1.2 (by omega) (by simp)).mono fun e w' ⟨v', h3, h4⟩ => by
    rw [List.nil_append] at h4
    exact ⟨v', h3, h4⟩
  have TY : Hid (∀ W v1, HY w.heap.size w W (conV ta c.ts.length tc ca c.cs.length cc sa c.ss.length sc da c.d.length dc (q : Int)) v1 (hd (lns c.cs) (lns c.ss) q) → Calls Try.prog 76 #[v1, .slice ta c.ts.length tc] W fun e w' => ∃ v', e = .returned v' ∧ App w.heap.size 5 1 W w' v1 v' (hd (lns c.cs) (lns c.ss) q ++ c.ts.flatMap tyb).length (bV (hd (lns c.cs) (lns c.ss) q ++ c.ts.flatMap tyb))) := fun W v1 hY => writeTypes_is W w.heap.size hY.le v1 _ hY.row _ c.ts (hT.past hY.bel) hY.not (chkT_ok c.ts 0 my.ty) (by have := my.n2; have := my.nt; omega) (by omega)
  have CP : Hid (∀ W v1, HY w.heap.size w W (conV ta c.ts.length tc ca c.cs.length cc sa c.ss.length sc da c.d.length dc (q : Int)) v1 (hd (lns c.cs) (lns c.ss) q ++ c.ts.flatMap tyb) → Calls Try.prog 77 #[v1, .slice ca c.cs.length cc] W fun e w' => ∃ v', e = .returned v' ∧ App w.heap.size 5 1 W w' v1 v' ((hd (lns c.cs) (lns c.ss) q ++ c.ts.flatMap tyb) ++ c.cs.flatten).length (bV ((hd (lns c.cs) (lns c.ss) q ++ c.ts.flatMap tyb) ++ c.cs.flatten))) := fun W v1 hY => writePieces_is W w.heap.size hY.le v1 _ hY.row _ c.cs (hC.past hY.bel) hY.not (by rw [List.length_append]; omega)
  have SPp : Hid (∀ W v1, HY w.heap.size w W (conV ta c.ts.length tc ca c.cs.length cc sa c.ss.length sc da c.d.length dc (q : Int)) v1 ((hd (lns c.cs) (lns c.ss) q ++ c.ts.flatMap tyb) ++ c.cs.flatten) → Calls Try.prog 77 #[v1, .slice sa c.ss.length sc] W fun e w' => ∃ v', e = .returned v' ∧ App w.heap.size 5 1 W w' v1 v' (((hd (lns c.cs) (lns c.ss) q ++ c.ts.flatMap tyb) ++ c.cs.flatten) ++ c.ss.flatten).length (bV (((hd (lns c.cs) (lns c.ss) q ++ c.ts.flatMap tyb) ++ c.cs.flatten) ++ c.ss.flatten))) := fun W v1 hY => writePieces_is W w.heap.size hY.le v1 _ hY.row _ c.ss (hS.past hY.bel) hY.not (by rw [List.length_append, List.length_append]; omega)
  have DT : Hid (∀ W, Below w.heap.size w W → BL (fun g => g < w.heap.size) W (.slice da c.d.length dc) c.d) := fun W hW => hD.past hW
  have RM : Hid ((ser c).length ≤ 140737488355328) := by unfold Hid; omega
  rw [if_pos ok] at CK
  rw [ok, hq] at CK
  rw [ok, hq]
  rw [hq] at B0 HOc
  clear h my HX l1 hT hC hS hD n1e n2e hq eq ok hd1 hsm SLn SS lbs qI
  generalize hd (lns c.cs) (lns c.ss) q = HDR at *
  generalize (ser c).length = rr at *
  generalize (lns c.cs).length = n1 at *
  generalize (lns c.ss).length = n2 at *
  generalize lns c.cs = L1 at *
  generalize lns c.ss = L2 at *
  generalize c.ts.flatMap tyb = TYS at *
  generalize c.cs.flatten = CF at *
  generalize c.ss.flatten = SF at *
  generalize c.ts.length = nt at *
  generalize c.cs.length = nc at *
  generalize c.ss.length = ns at *
  generalize hnd : c.d.length = nd at *
  generalize c.d = DD at *
  subst hnd
  generalize hnd : DD.length = nd at *
  have LB2 : Hid ((((HDR ++ TYS) ++ CF) ++ SF).length + DD.length ≤ 2199023255552) := by unfold Hid; rw [hnd]; exact LB.out
  clear LB
  generalize hbw : w.heap.size = bw at *
  have GE : Hid (bw ≤ w.heap.size) := by unfold Hid; omega
  go_enter Try.func35, Try.ntmps35
  go_upto_region 1 with fail
  generalize w.alloc _ = W0 at B0 ⊢
  have c0 : W0.cell? ⟨bw, 0, none⟩ = some (.slice ta nt tc) := B0.out.2.cell 0
  have c1 : W0.cell? ⟨bw, 1, none⟩ = some (.slice ca nc cc) := B0.out.2.cell 1
  have c2 : W0.cell? ⟨bw, 2, none⟩ = some (.slice sa ns sc) := B0.out.2.cell 2
  have c3 : W0.cell? ⟨bw, 3, none⟩ = some (.slice da nd dc) := B0.out.2.cell 3
  have c4 : W0.cell? ⟨bw, 4, none⟩ = some (.int .i64 (q : Int)) := B0.out.2.cell 4
  clear hbw hnd
  go_upto_region 4 with (go_at_call 38; refine (CK.out _ B0.out.1).mono ?_; rintro e w1 ⟨rfl, hB⟩)
  have B1 : Hid (Below bw w w1 ∧ CBox w1 bw 28 (conV ta nt tc ca nc cc sa ns sc da nd dc (q : Int))) := ⟨B0.out.1.trans (hB.mono (Nat.le_trans GE.out B0.out.1.size)), B0.out.2.past hB⟩
  clear c0 c1 c2 c3 c4 hB B0
  refine wp_region_held_drew (S := fun V' => Below bw w V' ∧ CBox V' bw 28 (conV ta nt tc ca nc cc sa ns sc da nd dc (q : Int)) ∧ bw ≤ w.heap.size) (by kernel_rfl) (by exact ⟨B1.out.1.trans ((below_drew).mono (Nat.le_trans GE.out B1.out.1.size)), B1.out.2.past below_drew, GE.out⟩) (fun hHeld => ?_)
  generalize w1.drew = zz at hHeld ⊢
  refine wpAnyH_take (i := 0) (v := (.agg #[.slice ta nt tc, .slice ca nc cc, .slice sa ns sc, .slice da nd dc, .int .i64 (q : Int)])) ov0 (by kernel_rfl) (by kernel_rfl) (by kernel_rfl) (fun _ _ _ h => h) (Or.inl ⟨by rfl, fun V' hS => ?_⟩) hHeld ?_
  · have k0 : V'.cell? ⟨bw, 0, none⟩ = some (.slice ta nt tc) := hS.2.1.cell 0; have k1 : V'.cell? ⟨bw, 1, none⟩ = some (.slice ca nc cc) := hS.2.1.cell 1; have k2 : V'.cell? ⟨bw, 2, none⟩ = some (.slice sa ns sc) := hS.2.1.cell 2; have k3 : V'.cell? ⟨bw, 3, none⟩ = some (.slice da nd dc) := hS.2.1.cell 3; have k4 : V'.cell? ⟨bw, 4, none⟩ = some (.int .i64 (q : Int)) := hS.2.1.cell 4
    go_simp
  simp only [Act.put, List.setIfInBounds_toArray, List.set_cons_zero, List.set_cons_succ]
  refine wpAnyH_take (i := 2) (v := .int .i64 (rr : Int)) ov2 (by kernel_rfl) (by kernel_rfl) (by kernel_rfl) (fun _ _ _ h => h) (Or.inl ⟨by rfl, fun V' hS => ?_⟩) hHeld ?_
  · go_simp
  simp only [Act.put, List.setIfInBounds_toArray, List.set_cons_zero, List.set_cons_succ]
  refine wpAnyH_ready (rs := [1, 3]) (by kernel_rfl) (by simp) ?_
  refine AllReadyH.cons ov1 (fun K hK => ?_) (AllReadyH.cons ov3 (fun K hK => ?_) AllReadyH.nil)
  · rw [if_pos (by rfl)]
    go_simp
    refine (HOc.out _ hHeld.1).mono ?_
    rintro e zz ⟨a1, a2, rfl, hU1, hU2, hB⟩
    have hHeld : Below bw w zz ∧ CBox zz bw 28 (conV ta nt tc ca nc cc sa ns sc da nd dc (q : Int)) ∧ bw ≤ w.heap.size := ⟨hHeld.1.trans (hB.mono (Nat.le_trans hHeld.2.2 hHeld.1.size)), hHeld.2.1.past hB, hHeld.2.2⟩
    have HU : Hid (UL zz (.slice a1 n1 n1) L1 ∧ UL zz (.slice a2 n2 n2) L2) := ⟨hU1, hU2⟩
    (try have HR : Hid (zz.ownsRow bw 5 1 (.slice (some ⟨g0, 0, none⟩) 0 rr) 0 (bV [])) := owns_past HR.out hB)
    clear hU1 hU2 hB
    (try go_wp2_with fail)
    refine hK.out _ _ hHeld (fun _ => ?_)
    clear hK K
    (try simp only [Act.put, List.setIfInBounds_toArray, List.set_cons_zero, List.set_cons_succ])
    refine wpAnyH_ready (rs := [3]) (by kernel_rfl) (by simp) ?_
    refine AllReadyH.cons ov3 (fun K hK => ?_) AllReadyH.nil
    rw [if_pos (by rfl)]
    obtain ⟨zm, g0, hmk, hrow, hBm⟩ := make0g bw zz (Nat.le_trans hHeld.2.2 hHeld.1.size) rr RM.out
    go_simp
    (try have HU : Hid (UL zm (.slice a1 n1 n1) L1 ∧ UL zm (.slice a2 n2 n2) L2) := ⟨HU.out.1.past hBm, HU.out.2.past hBm⟩)
    have HR : Hid (zm.ownsRow bw 5 1 (.slice (some ⟨g0, 0, none⟩) 0 rr) 0 (bV [])) := hrow
    have hHeld : Below bw w zm ∧ CBox zm bw 28 (conV ta nt tc ca nc cc sa ns sc da nd dc (q : Int)) ∧ bw ≤ w.heap.size := ⟨hHeld.1.trans (hBm.mono (Nat.le_trans hHeld.2.2 hHeld.1.size)), hHeld.2.1.past hBm, hHeld.2.2⟩
    refine hK.out _ zm hHeld (fun _ => ?_)
    clear hK K
    (try simp only [Act.put, List.setIfInBounds_toArray, List.set_cons_zero, List.set_cons_succ])
    clear hmk hrow hBm
    refine wpAnyH_ready (rs := [4]) (by kernel_rfl) (by simp) ?_
    refine AllReadyH.cons ov4 (fun K hK => ?_) AllReadyH.nil
    rw [if_pos (by rfl)]
    go_simp
    refine (WR.out _ a1 a2 (Nat.le_trans hHeld.2.2 hHeld.1.size) HU.out.1 HU.out.2 g0 HR.out).mono ?_
    rintro e zz ⟨v1, rfl, hA⟩
    have Y1 : Hid (HY bw w zz (conV ta nt tc ca nc cc sa ns sc da nd dc (q : Int)) v1 HDR) := HY.step ⟨hHeld.1, hHeld.2.1, HR.out, hHeld.2.2⟩ hA
    have hHeld : Below bw w zz ∧ CBox zz bw 28 (conV ta nt tc ca nc cc sa ns sc da nd dc (q : Int)) ∧ bw ≤ w.heap.size := ⟨Y1.out.bel, Y1.out.c1, Y1.out.ge⟩
    clear hA
    (try go_wp2_with fail)
    refine hK.out _ _ hHeld (fun _ => ?_)
    clear hK K
    (try simp only [Act.put, List.setIfInBounds_toArray, List.set_cons_zero, List.set_cons_succ])
    refine wpAnyH_take (i := 5) (v := v1) ov5 (by kernel_rfl) (by kernel_rfl) (by kernel_rfl) (fun _ _ _ h => h) (Or.inl ⟨by rfl, fun V' hS => ?_⟩) hHeld ?_
    · go_simp
    simp only [Act.put, List.setIfInBounds_toArray, List.set_cons_zero, List.set_cons_succ]
    refine wpAnyH_done (by kernel_rfl) ?_ _
    clear hHeld
    go_upto_region 5 with fail
    have TYP := TY.out zz v1 Y1.out
    have k0 : zz.cell? ⟨bw, 0, none⟩ = some (.slice ta nt tc) := Y1.out.c1.cell 0
    go_upto_region 6 with (go_at_call 76; refine TYP.mono ?_; rintro e y2 ⟨v2, rfl, hA⟩)
    have Y2 : Hid (HY bw w y2 (conV ta nt tc ca nc cc sa ns sc da nd dc (q : Int)) v2 (HDR ++ TYS)) := Y1.out.step hA
    clear hA k0 Y1 TYP
    have k1 : y2.cell? ⟨bw, 1, none⟩ = some (.slice ca nc cc) := Y2.out.c1.cell 1
    have CPc := CP.out y2 v2 Y2.out
    go_upto_region 7 with (go_at_call 77; refine CPc.mono ?_; rintro e y3 ⟨v3, rfl, hA⟩)
    have Y3 : Hid (HY bw w y3 (conV ta nt tc ca nc cc sa ns sc da nd dc (q : Int)) v3 ((HDR ++ TYS) ++ CF)) := Y2.out.step hA
    clear hA k1 Y2 CPc
    have k2 : y3.cell? ⟨bw, 2, none⟩ = some (.slice sa ns sc) := Y3.out.c1.cell 2
    have SPc := SPp.out y3 v3 Y3.out
    go_upto_region 8 with (go_at_call 77; refine SPc.mono ?_; rintro e y4 ⟨v4, rfl, hA⟩)
    have Y4 : Hid (HY bw w y4 (conV ta nt tc ca nc cc sa ns sc da nd dc (q : Int)) v4 (((HDR ++ TYS) ++ CF) ++ SF)) := Y3.out.step hA
    clear hA k2 Y3 SPc
    have k3 : y4.cell? ⟨bw, 3, none⟩ = some (.slice da nd dc) := Y4.out.c1.cell 3
    go_wp2_with (at_builtin; refine wpList_appB (P := fun g => g < bw) rfl _ _ rfl bw Y4.out.le v4 (((HDR ++ TYS) ++ CF) ++ SF) rfl Y4.out.row (.slice da nd dc) DD rfl (DT.out y4 Y4.out.bel) LB2.out ?_; intro v5 y5 hA)
    have Y5 := Y4.out.step hA
    go_ret2
    exact ⟨v5, rfl, by rw [← EF.out]; exact Y5.row, Y5.bel⟩
  · rw [if_pos (by rfl)]
    obtain ⟨zm, g0, hmk, hrow, hBm⟩ := make0g bw zz (Nat.le_trans hHeld.2.2 hHeld.1.size) rr RM.out
    go_simp
    (try have HU : Hid (UL zm (.slice a1 n1 n1) L1 ∧ UL zm (.slice a2 n2 n2) L2) := ⟨HU.out.1.past hBm, HU.out.2.past hBm⟩)
    have HR : Hid (zm.ownsRow bw 5 1 (.slice (some ⟨g0, 0, none⟩) 0 rr) 0 (bV [])) := hrow
    have hHeld : Below bw w zm ∧ CBox zm bw 28 (conV ta nt tc ca nc cc sa ns sc da nd dc (q : Int)) ∧ bw ≤ w.heap.size := ⟨hHeld.1.trans (hBm.mono (Nat.le_trans hHeld.2.2 hHeld.1.size)), hHeld.2.1.past hBm, hHeld.2.2⟩
    refine hK.out _ zm hHeld (fun _ => ?_)
    clear hK K
    (try simp only [Act.put, List.setIfInBounds_toArray, List.set_cons_zero, List.set_cons_succ])
    clear hmk hrow hBm
    refine wpAnyH_ready (rs := [1]) (by kernel_rfl) (by simp) ?_
    refine AllReadyH.cons ov1 (fun K hK => ?_) AllReadyH.nil
    rw [if_pos (by rfl)]
    go_simp
    refine (HOc.out _ hHeld.1).mono ?_
    rintro e zz ⟨a1, a2, rfl, hU1, hU2, hB⟩
    have hHeld : Below bw w zz ∧ CBox zz bw 28 (conV ta nt tc ca nc cc sa ns sc da nd dc (q : Int)) ∧ bw ≤ w.heap.size := ⟨hHeld.1.trans (hB.mono (Nat.le_trans hHeld.2.2 hHeld.1.size)), hHeld.2.1.past hB, hHeld.2.2⟩
    have HU : Hid (UL zz (.slice a1 n1 n1) L1 ∧ UL zz (.slice a2 n2 n2) L2) := ⟨hU1, hU2⟩
    (try have HR : Hid (zz.ownsRow bw 5 1 (.slice (some ⟨g0, 0, none⟩) 0 rr) 0 (bV [])) := owns_past HR.out hB)
    clear hU1 hU2 hB
    (try go_wp2_with fail)
    refine hK.out _ _ hHeld (fun _ => ?_)
    clear hK K
    (try simp only [Act.put, List.setIfInBounds_toArray, List.set_cons_zero, List.set_cons_succ])
    refine wpAnyH_ready (rs := [4]) (by kernel_rfl) (by simp) ?_
    refine AllReadyH.cons ov4 (fun K hK => ?_) AllReadyH.nil
    rw [if_pos (by rfl)]
    go_simp
    refine (WR.out _ a1 a2 (Nat.le_trans hHeld.2.2 hHeld.1.size) HU.out.1 HU.out.2 g0 HR.out).mono ?_
    rintro e zz ⟨v1, rfl, hA⟩
    have Y1 : Hid (HY bw w zz (conV ta nt tc ca nc cc sa ns sc da nd dc (q : Int)) v1 HDR) := HY.step ⟨hHeld.1, hHeld.2.1, HR.out, hHeld.2.2⟩ hA
    have hHeld : Below bw w zz ∧ CBox zz bw 28 (conV ta nt tc ca nc cc sa ns sc da nd dc (q : Int)) ∧ bw ≤ w.heap.size := ⟨Y1.out.bel, Y1.out.c1, Y1.out.ge⟩
    clear hA
    (try go_wp2_with fail)
    refine hK.out _ _ hHeld (fun _ => ?_)
    clear hK K
    (try simp only [Act.put, List.setIfInBounds_toArray, List.set_cons_zero, List.set_cons_succ])
    refine wpAnyH_take (i := 5) (v := v1) ov5 (by kernel_rfl) (by kernel_rfl) (by kernel_rfl) (fun _ _ _ h => h) (Or.inl ⟨by rfl, fun V' hS => ?_⟩) hHeld ?_
    · go_simp
    simp only [Act.put, List.setIfInBounds_toArray, List.set_cons_zero, List.set_cons_succ]
    refine wpAnyH_done (by kernel_rfl) ?_ _
    clear hHeld
    go_upto_region 5 with fail
    have TYP := TY.out zz v1 Y1.out
    have k0 : zz.cell? ⟨bw, 0, none⟩ = some (.slice ta nt tc) := Y1.out.c1.cell 0
    go_upto_region 6 with (go_at_call 76; refine TYP.mono ?_; rintro e y2 ⟨v2, rfl, hA⟩)
    have Y2 : Hid (HY bw w y2 (conV ta nt tc ca nc cc sa ns sc da nd dc (q : Int)) v2 (HDR ++ TYS)) := Y1.out.step hA
    clear hA k0 Y1 TYP
    have k1 : y2.cell? ⟨bw, 1, none⟩ = some (.slice ca nc cc) := Y2.out.c1.cell 1
    have CPc := CP.out y2 v2 Y2.out
    go_upto_region 7 with (go_at_call 77; refine CPc.mono ?_; rintro e y3 ⟨v3, rfl, hA⟩)
    have Y3 : Hid (HY bw w y3 (conV ta nt tc ca nc cc sa ns sc da nd dc (q : Int)) v3 ((HDR ++ TYS) ++ CF)) := Y2.out.step hA
    clear hA k1 Y2 CPc
    have k2 : y3.cell? ⟨bw, 2, none⟩ = some (.slice sa ns sc) := Y3.out.c1.cell 2
    have SPc := SPp.out y3 v3 Y3.out
    go_upto_region 8 with (go_at_call 77; refine SPc.mono ?_; rintro e y4 ⟨v4, rfl, hA⟩)
    have Y4 : Hid (HY bw w y4 (conV ta nt tc ca nc cc sa ns sc da nd dc (q : Int)) v4 (((HDR ++ TYS) ++ CF) ++ SF)) := Y3.out.step hA
    clear hA k2 Y3 SPc
    have k3 : y4.cell? ⟨bw, 3, none⟩ = some (.slice da nd dc) := Y4.out.c1.cell 3
    go_wp2_with (at_builtin; refine wpList_appB (P := fun g => g < bw) rfl _ _ rfl bw Y4.out.le v4 (((HDR ++ TYS) ++ CF) ++ SF) rfl Y4.out.row (.slice da nd dc) DD rfl (DT.out y4 Y4.out.bel) LB2.out ?_; intro v5 y5 hA)
    have Y5 := Y4.out.step hA
    go_ret2
    exact ⟨v5, rfl, by rw [← EF.out]; exact Y5.row, Y5.bel⟩
end Go.Proofs.Ytndhabhlajldeaa
/- The document's containers: Serialize, Size. -/
namespace Go.Proofs.Ytndhabhlajldeaa
open Go.RowKit
end Go.Proofs.Ytndhabhlajldeaa
/- The document's way through a header: a list of fields that grows; it comes to what hdr says. -/
namespace Go.Proofs.Ytndhabhlajldeaa
/-- where the document stands -/
structure HS where
  types : Nat
  k : Nat
  codes : List Nat
  subs : List Nat
  size : Nat
end Go.Proofs.Ytndhabhlajldeaa
/- The document's containers: unless, wrong. -/
namespace Go.Proofs.Ytndhabhlajldeaa
open Go.RowKit
end Go.Proofs.Ytndhabhlajldeaa
/- The document's containers: more: a list of fields that grows. -/
namespace Go.Proofs.Ytndhabhlajldeaa
open Go.RowKit
/-- fields as cells -/
def fV (l : List (Nat × Nat)) : List Value := l.flatMap fun p => [.int .i64 (p.1 : Int), .int .i64 (p.2 : Int)]
theorem fV_get : ∀ (l : List (Nat × Nat)) (i : Nat) (p : Nat × Nat), l[i]? = some p → (fV l)[i * 2]? = some (.int .i64 (p.1 : Int)) ∧ (fV l)[i * 2 + 1]? = some (.int .i64 (p.2 : Int))
  | [], i, p, h => by simp at h
  | q :: l, 0, p, h => by
    simp at h
    subst h
    exact ⟨rfl, rfl⟩
  | q :: l, i + 1, p, h => by
    obtain ⟨h1, h2⟩ := fV_get l i p (by simpa using h)
    show ([Value.int .i64 (q.1 : Int), .int .i64 (q.2 : Int)] ++ fV l)[(i + 1) * 2]? = _ ∧ ([Value.int .i64 (q.1 : Int), .int .i64 (q.2 : Int)] ++ fV l)[(i + 1) * 2 + 1]? = _
    rw [List.getElem?_append_right (by simp; omega), List.getElem?_append_right (by simp; omega)]
    exact ⟨by rw [show (i + 1) * 2 - [Value.int .i64 (q.1 : Int), .int .i64 (q.2 : Int)].length = i * 2 by simp; omega]; exact h1, by rw [show (i + 1) * 2 + 1 - [Value.int .i64 (q.1 : Int), .int .i64 (q.2 : Int)].length = i * 2 + 1 by simp; omega]; exact h2⟩
/-- a list of fields of one's own -/
def FO (B : Nat) (W : World) (v : Value) (l : List (Nat × Nat)) : Prop := W.ownsRow B 123 2 v l.length (fV l)
theorem FO.past {B : Nat} {W W' : World} {v : Value} {l : List (Nat × Nat)} (h : FO B W v l) (k : Below W.heap.size W W') : FO B W' v l := owns_past h k
end Go.Proofs.Ytndhabhlajldeaa
