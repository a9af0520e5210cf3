/- The document's containers: the header, whole. -/
import Derived.Test.YtndhabhlajldeaaBri
import Derived.Test.YtndhabhlajldeaaBrk
namespace Go.Proofs.Ytndhabhlajldeaa
open Go.RowKit
/-- the fields that there are -/
def Kd (p : Nat × Nat) : Prop := p = (1, 1) ∨ p = (1, 2) ∨ p = (1, 3) ∨ p = (1, 4) ∨ p = (2, 5) ∨ p = (1, 6) ∨ p = (2, 7) ∨ p = (2, 8) ∨ p = (1, 9) ∨ p = (2, 10) ∨ p = (4, 11) ∨ p = (1, 12) ∨ p = (2, 13) ∨ p = (1, 14)
theorem kd_add (what v : Nat) : ∀ p ∈ addF what v, Kd p := by
  intro p hp
  unfold addF at hp
  unfold Kd
  split at hp
  · rcases List.mem_append.1 hp with h | h
    · have := List.eq_of_mem_replicate h; simp [this]
    · simp at h; simp [h]
  · split at hp
    · simp at hp; simp [hp]
    · simp at hp; rcases hp with h | h <;> simp [h]
  · rcases List.mem_append.1 hp with h | h
    · have := List.eq_of_mem_replicate h; simp [this]
    · simp at h; rcases h with h | h | h <;> simp [h]
  · cases hp
theorem add_len (what v : Nat) (hv : v ≤ 65535) : (addF what v).length ≤ 65540 := by
  unfold addF
  split
  · simp; omega
  · split <;> simp
  · simp; omega
  · simp
theorem kd_wd {p : Nat × Nat} (h : Kd p) : 0 < p.1 ∧ p.1 ≤ 4 := by
  rcases h with h | h | h | h | h | h | h | h | h | h | h | h | h | h <;> subst h <;> exact ⟨by decide, by decide⟩
theorem wrong_is (w : World) (p : Nat × Nat) (v t : Nat) (hk : Kd p) (hv : v < 4294967296) : Calls Try.prog 101 #[.int .i64 (p.2 : Int), .int .i64 (v : Int), .int .i64 (t : Int)] w fun e w' => e = .returned (.int .i64 (wrF p.2 v t : Int)) ∧ w' = w := by
  rcases hk with h | h | h | h | h | h | h | h | h | h | h | h | h | h
  · subst h; exact wrong1 w v t hv
  · subst h; exact wrong2 w v t hv
  · subst h; exact wrong3 w v t hv
  · subst h; exact wrong4 w v t hv
  · subst h; exact wrong5 w v t hv
  · subst h; exact wrong6 w v t hv
  · subst h; exact wrong7 w v t hv
  · subst h; exact wrong8 w v t hv
  · subst h; exact wrong9 w v t hv
  · subst h; exact wrong10 w v t hv
  · subst h; exact wrong11 w v t hv
  · subst h; exact wrong12 w v t hv
  · subst h; exact wrong13 w v t hv
  · subst h; exact wrong14 w v t hv
/-- the document's lists in the midst of a header -/
structure RH (bw : Nat) (w W : World) (cv sv tv : Value) (cs ss : List Nat) (td : List (Nat × Nat)) : Prop where
  c : InO bw W cv cs
  s : InO bw W sv ss
  t : FO bw W tv td
  bel : Below bw w W
  ge : bw ≤ w.heap.size
  ap : ∀ g, OwnV cv g → ¬ OwnV sv g
section
variable {bw : Nat} {w W W' : World} {cv sv tv v' : Value} {cs ss : List Nat} {td : List (Nat × Nat)}
theorem RH.le (h : RH bw w W cv sv tv cs ss td) : bw ≤ W.heap.size := Nat.le_trans h.ge h.bel.size
theorem RH.past (h : RH bw w W cv sv tv cs ss td) (q : Below W.heap.size W W') : RH bw w W' cv sv tv cs ss td := ⟨h.c.past q, h.s.past q, h.t.past q, h.bel.trans (q.mono h.le), h.ge, h.ap⟩
theorem RH.appC {y : List Nat} (h : RH bw w W cv sv tv cs ss td) (q : App bw 3 1 W W' cv v' y.length (iV y)) : RH bw w W' v' sv tv y ss td :=
  ⟨q.row, owns_row_blockB h.s fun g hg => q.but.block g (World.ownsRow.lt h.s g hg).2 fun e => h.ap g e hg, owns_row_blockB h.t fun g hg => q.but.block g (World.ownsRow.lt h.t g hg).2 fun e => owns_apart h.c h.t (by decide) e hg, h.bel.trans (q.below h.c h.le), h.ge, fun g e e2 => by
    rcases q.new g e with e | e
    · exact h.ap g e e2
    · have := (World.ownsRow.lt h.s g e2).2; omega⟩
theorem RH.appS {y : List Nat} (h : RH bw w W cv sv tv cs ss td) (q : App bw 3 1 W W' sv v' y.length (iV y)) : RH bw w W' cv v' tv cs y td :=
  ⟨owns_row_blockB h.c fun g hg => q.but.block g (World.ownsRow.lt h.c g hg).2 fun e => h.ap g hg e, q.row, owns_row_blockB h.t fun g hg => q.but.block g (World.ownsRow.lt h.t g hg).2 fun e => owns_apart h.s h.t (by decide) e hg, h.bel.trans (q.below h.s h.le), h.ge, fun g e e2 => by
    rcases q.new g e2 with e3 | e3
    · exact h.ap g e e3
    · have := (World.ownsRow.lt h.c g e).2; omega⟩
theorem RH.appT {y : List (Nat × Nat)} (h : RH bw w W cv sv tv cs ss td) (q : App bw 123 2 W W' tv v' y.length (fV y)) : RH bw w W' cv sv v' cs ss y :=
  ⟨owns_row_blockB h.c fun g hg => q.but.block g (World.ownsRow.lt h.c g hg).2 fun e => owns_apart h.t h.c (by decide) e hg, owns_row_blockB h.s fun g hg => q.but.block g (World.ownsRow.lt h.s g hg).2 fun e => owns_apart h.t h.s (by decide) e hg, q.row, h.bel.trans (q.below h.t h.le), h.ge, h.ap⟩
end
theorem FO.get {B : Nat} {W : World} {ad : Option Addr} {n c : Nat} {l : List (Nat × Nat)} (h : FO B W (.slice ad n c) l) {i : Nat} {p : Nat × Nat} (hi : l[i]? = some p) : ∃ g, ad = some ⟨g, 0, none⟩ ∧ W.cell? ⟨g, i * 2, none⟩ = some (.int .i64 (p.1 : Int)) ∧ W.cell? ⟨g, i * 2 + 1, none⟩ = some (.int .i64 (p.2 : Int)) := by
  have hl : i < l.length := (List.getElem?_eq_some_iff.1 hi).1
  rcases id h.2 with ⟨e, e2⟩ | ⟨g, c', cur, e, hb, hh, hq, _, hz, ht⟩
  · omega
  · injection e with e1 _ _
    subst e1
    obtain ⟨k0, k1⟩ := fV_get l i p hi
    have c0 := World.ownsRow.cells h (g := g) rfl (i * 2) _ k0
    have c1 := World.ownsRow.cells h (g := g) rfl (i * 2 + 1) _ k1
    exact ⟨g, rfl, by simpa [Addr.add_mid] using c0, by simpa [Addr.add_mid] using c1⟩
/-- the answer of a header -/
def RHA (bw : Nat) (r : Except Er Hd) (e : Ending) (w' : World) : Prop :=
  match r with
  | .ok h => ∃ cv sv, e = .returned (.tuple #[cv, sv, .int .i64 (h.d : Int), .int .i64 (h.e : Int), .int .i64 0, .int .i64 0]) ∧ InO bw w' cv h.cs ∧ InO bw w' sv h.ss
  | .error (c, a) => e = .returned (.tuple #[.slice none 0 0, .slice none 0 0, .int .i64 0, .int .i64 0, .int .i64 (c : Int), .int .i64 (a : Int)])
theorem rd_lt4 {b : List Nat} (hb : Byt b) (k wd : Nat) (hw : wd ≤ 4) : rd b k wd < 4294967296 := by
  have h1 := num_lt ((b.drop k).take wd) (fun x hx => hb x (List.mem_of_mem_drop (List.mem_of_mem_take hx)))
  have h2 : ((b.drop k).take wd).length ≤ 4 := by simp; omega
  have h3 : 256 ^ ((b.drop k).take wd).length ≤ 256 ^ 4 := Nat.pow_le_pow_right (by omega) h2
  unfold rd
  have : (256 : Nat) ^ 4 = 4294967296 := by decide
  omega
theorem rd_small2 {b : List Nat} (hb : Byt b) (k wd : Nat) (hw : wd ≤ 2) : rd b k wd ≤ 65535 := by
  have h1 := num_lt ((b.drop k).take wd) (fun x hx => hb x (List.mem_of_mem_drop (List.mem_of_mem_take hx)))
  have h2 : ((b.drop k).take wd).length ≤ 2 := by simp; omega
  have h3 : 256 ^ ((b.drop k).take wd).length ≤ 256 ^ 2 := Nat.pow_le_pow_right (by omega) h2
  unfold rd
  have : (256 : Nat) ^ 2 = 65536 := by decide
  omega
theorem wF_pos {p : Nat × Nat} (h : Kd p) {t v : Nat} (hp : pFd p.2 t v = false) : 0 < wF p.2 := by
  rcases h with h | h | h | h | h | h | h | h | h | h | h | h | h | h <;> subst h
  all_goals first | decide | (exact absurd hp (by intro q; cases q))
theorem add_len2 {p : Nat × Nat} (h : Kd p) (v : Nat) (hv : p.1 ≤ 2 → v ≤ 65535) : (addF p.2 v).length ≤ 65540 := by
  by_cases q : p.1 ≤ 2
  · exact add_len _ _ (hv q)
  · rcases h with h | h | h | h | h | h | h | h | h | h | h | h | h | h <;> subst h
    all_goals first | (exact absurd q (by decide)) | (show ([] : List (Nat × Nat)).length ≤ 65540; decide)
set_option maxHeartbeats 4000000 in
set_option maxRecDepth 100000 in
theorem rheader_is {P : Nat → Prop} (w : World) (v : Value) (b : List Nat) (h : BL P w v b) (hb : Byt b) (hl : b.length ≤ 16777216) : Calls Try.prog 68 #[v] w fun e w' => RHA w.heap.size (hdr b) e w' ∧ Below w.heap.size w w' := by
  obtain ⟨ba, bc, rfl, hbc, _⟩ := h.len
  obtain ⟨LL, hLL⟩ : ∃ LL, LL = hdr b := ⟨_, rfl⟩
  rw [← hLL]
  have HNT : Hid (LL ≠ .error (999, 0)) := by unfold Hid; rw [hLL]; exact hdr_not b
  have HP : Hid (LL = pr b 2000 base7 ⟨0, 0, [], [], 0⟩) := by unfold Hid; rw [hLL, pr_hdr]
  have HBL : Hid (∀ W, Below w.heap.size w W → BL P W (.slice ba b.length bc) b) := fun W hW => h.past hW
  have HBY : Hid (Byt b) := hb
  have HLN : Hid (b.length ≤ 16777216) := hl
  have nI : (b.length : Int) ≤ 16777216 := by omega
  have M0 : Hid (RH w.heap.size w (w.alloc (.cells #[.int .i64 1, .int .i64 1, .int .i64 1, .int .i64 2, .int .i64 1, .int .i64 3, .int .i64 1, .int .i64 4, .int .i64 2, .int .i64 5, .int .i64 1, .int .i64 6, .int .i64 2, .int .i64 7] 123)) (.slice none 0 0) (.slice none 0 0) (.slice (some ⟨w.heap.size, 0, none⟩) 7 7) [] [] base7) := by
    refine ⟨InO.nil _ _, InO.nil _ _, ⟨rfl, Or.inr ⟨w.heap.size, 7, (fV base7).toArray, rfl, Nat.le_refl _, CBox.new _ _ _, by decide, by decide, by rfl, by rfl⟩⟩, below_alloc _ _, Nat.le_refl _, fun g e => by cases e⟩
  generalize hnb : b.length = nb at *
  have HNB : Hid (b.length = nb) := hnb
  clear h hb hl hbc hLL hnb
  go_enter Try.func68, Try.ntmps68
  go_upto_region 2 with fail
  generalize hbw : w.heap.size = bw at M0 HBL ⊢
  have GB : Hid (w.heap.size = bw) := hbw
  clear hbw
  generalize w.alloc _ = W0 at M0 ⊢
  go_wp2
  go_loopw [2, 3, 4, 8, 9, 10, 11] (fun s2 s3 s4 s8 s9 s10 s11 wr => ∃ (i k ty sz : Nat) (cs ss : List Nat) (td : List (Nat × Nat)), s11 = .int .i64 (i : Int) ∧ s10 = .int .i64 (k : Int) ∧ s9 = .int .i64 (ty : Int) ∧ s4 = .int .i64 (sz : Int) ∧ i ≤ 2000 ∧ RH bw w wr s2 s3 s8 cs ss td ∧ (∀ p ∈ td, Kd p) ∧ i ≤ td.length ∧ td.length ≤ 7 + i * 65540 ∧ k ≤ nb ∧ ty ≤ 4294967296 ∧ sz ≤ 4294967296 ∧ cs.length ≤ i ∧ ss.length ≤ i ∧ LL = pr b (2000 - i) (td.drop i) ⟨ty, k, cs, ss, sz⟩) (fun _ _ _ _ _ _ s11 _ => 2000 - (intOf s11).toNat)
  case atStart => exact ⟨0, 0, 0, 0, [], [], base7, rfl, rfl, rfl, rfl, by omega, M0.out, (by intro p hp; unfold base7 at hp; unfold Kd; simp at hp; rcases hp with h | h | h | h | h | h | h <;> subst h <;> simp), by decide, by decide, by omega, by omega, by omega, by decide, by decide, HP.out⟩
  case round =>
    obtain ⟨i, k, ty, sz, cs, ss, td, rfl, rfl, rfl, rfl, hi, hM, hkd, hil, htl, hk, hty, hsz, hcl, hsl, hE⟩ := hrel
    have M : Hid (RH bw w wr u2 u3 u8 cs ss td) := hM
    have KD : Hid (∀ p ∈ td, Kd p) := hkd
    have HT : Hid (td.length ≤ 7 + i * 65540 ∧ cs.length ≤ i ∧ ss.length ≤ i ∧ ty ≤ 4294967296 ∧ sz ≤ 4294967296) := ⟨htl, hcl, hsl, hty, hsz⟩
    have HE : Hid (LL = pr b (2000 - i) (td.drop i) ⟨ty, k, cs, ss, sz⟩) := hE
    clear hM hkd htl hty hsz hcl hsl hE M0 HP
    have hi2 : i ≠ 2000 := by
      rintro rfl
      have h9 := HE.out
      rw [Nat.sub_self] at h9
      exact HNT.out h9
    obtain ⟨f, hf⟩ : ∃ f, 2000 - i = f + 1 := ⟨1999 - i, by omega⟩
    have HF : Hid (2000 - (i + 1) = f) := by unfold Hid; omega
    have HI : Hid (i < 2000) := by unfold Hid; omega
    rw [hf] at HE
    clear hf hi2
    obtain ⟨ta, tc, rfl⟩ := owns_sl M.out.t
    by_cases e : i = td.length
    · have E0 : Hid (LL = .ok ⟨cs, ss, sz, k⟩) := by
        have h9 := HE.out
        rw [List.drop_of_length_le (by omega)] at h9
        exact h9
      obtain ⟨ca, cc, rfl⟩ := owns_sl M.out.c
      obtain ⟨sa, sc, rfl⟩ := owns_sl M.out.s
      generalize td.length = n at *
      subst e
      go_wp2
      refine bodyPost_ret (v := .tuple #[.slice ca cs.length cc, .slice sa ss.length sc, .int .i64 (sz : Int), .int .i64 (k : Int), .int .i64 0, .int .i64 0]) (by simp [results, Try.results68]) rfl ?_
      rw [E0.out, GB.out]
      exact ⟨⟨_, _, rfl, M.out.c, M.out.s⟩, M.out.bel⟩
    · obtain ⟨p, hp⟩ : ∃ p, td[i]? = some p := ⟨td[i]'(by omega), List.getElem?_eq_getElem _⟩
      have HPK : Hid (Kd p) := KD.out p (List.mem_of_getElem? hp)
      have HD : Hid (td.drop i = p :: td.drop (i + 1)) := by
        obtain ⟨hlt, he⟩ := List.getElem?_eq_some_iff.1 hp
        unfold Hid
        rw [List.drop_eq_getElem_cons hlt, he]
      obtain ⟨g, rfl, k0, k1⟩ := M.out.t.get hp
      obtain ⟨wd, wt⟩ := p
      have hwd := kd_wd HPK.out
      dsimp only at k0 k1 hwd
      have HE : Hid (LL = (fld b k wd (wF wt) (pFd wt ty)).bind fun v => pr b f (td.drop (i + 1) ++ addF wt v) { setF wt v ⟨ty, k, cs, ss, sz⟩ with k := k + wd }) := by
        have h9 := HE.out
        rw [HD.out] at h9
        exact h9
      have iI : (i : Int) < (td.length : Int) := by omega
      have HIL : Hid (i < td.length) := by unfold Hid; omega
      clear e hp HD
      generalize hn : td.length = n at *
      have HNL : Hid (td.length = n) := hn
      clear hn
      have C0 : Hid (RH bw w (wr.alloc (.cells #[.int .i64 (wd : Int), .int .i64 (wt : Int)] 123)) u2 u3 (.slice (some ⟨g, 0, none⟩) n tc) cs ss td ∧ CBox (wr.alloc (.cells #[.int .i64 (wd : Int), .int .i64 (wt : Int)] 123)) wr.heap.size 123 [.int .i64 (wd : Int), .int .i64 (wt : Int)]) := ⟨M.out.past (below_alloc _ _), CBox.new _ _ [_, _]⟩
      go_upto_region 8 with fail
      generalize wr.alloc _ = W1 at C0 ⊢
      generalize wr.heap.size = bx at C0 ⊢
      have c0 : W1.cell? ⟨bx, 0, none⟩ = some (.int .i64 (wd : Int)) := C0.out.2.cell 0
      have c1 : W1.cell? ⟨bx, 1, none⟩ = some (.int .i64 (wt : Int)) := C0.out.2.cell 1
      clear M k0 k1
      obtain ⟨kw, hkw⟩ : ∃ kw, kw = k + wd := ⟨_, rfl⟩
      have r1 : (k : Int) + (wd : Int) = (kw : Int) := by omega
      have w1 : IntKind.i64.wrap (kw : Int) = (kw : Int) := by rw [IntKind.wrap_i64]; omega
      by_cases ec : nb < kw
      · have E0 : Hid (LL = .error (50, nb)) := by unfold Hid; rw [HE.out, fld_cut (by rw [HNB.out]; omega), HNB.out]; rfl
        have q1 : (nb : Int) < (kw : Int) := by omega
        clear ec hkw HE
        go_wp2
        refine bodyPost_ret (v := .tuple #[.slice none 0 0, .slice none 0 0, .int .i64 0, .int .i64 0, .int .i64 50, .int .i64 (nb : Int)]) (by simp [results, Try.results68]) rfl ?_
        rw [E0.out, GB.out]
        exact ⟨rfl, C0.out.1.bel⟩
      have q1 : ¬ (nb : Int) < (kw : Int) := by omega
      have AC0 := at_is W1 (.slice ba nb bc) b k wd (HBL.out W1 C0.out.1.bel) HBY.out hwd.2 (by rw [HNB.out]; omega) (by rw [HNB.out]; omega)
      have AC : Hid (Calls Try.prog 72 #[.slice ba nb bc, .int .i64 (k : Int), .int .i64 (wd : Int)] W1 fun e w' => e = .returned (.int .i64 (rd b k wd : Int)) ∧ w' = W1) := AC0
      have HV : Hid (rd b k wd < 4294967296 ∧ (wd ≤ 2 → rd b k wd ≤ 65535)) := ⟨rd_lt4 HBY.out k wd hwd.2, fun q => rd_small2 HBY.out k wd q⟩
      have FOK : Hid (pFd wt ty (rd b k wd) = true → fld b k wd (wF wt) (pFd wt ty) = .ok (rd b k wd)) := fun q => fld_ok (by rw [HNB.out]; omega) q
      have FNO : Hid (pFd wt ty (rd b k wd) = false → fld b k wd (wF wt) (pFd wt ty) = .error (wF wt, k)) := fun q => fld_no (by rw [HNB.out]; omega) q
      have HKW : Hid (kw = k + wd ∧ kw ≤ nb) := ⟨hkw, by omega⟩
      clear AC0 ec hwd hkw
      generalize rd b k wd = v at *
      have WC : Hid (Calls Try.prog 101 #[.int .i64 (wt : Int), .int .i64 (v : Int), .int .i64 (ty : Int)] W1 fun e w' => e = .returned (.int .i64 (wrF wt v ty : Int)) ∧ w' = W1) := wrong_is W1 (wd, wt) v ty HPK.out HV.out.1
      cases ep : pFd wt ty v with
      | false =>
        have E0 : Hid (LL = .error (wF wt, k)) := by unfold Hid; rw [HE.out, FNO.out ep]; rfl
        have hy : wrF wt v ty = wF wt := by unfold wrF; rw [ep]; rfl
        have hy0 := wF_pos HPK.out ep
        dsimp only at hy0
        rw [hy] at WC
        clear hy ep HE FOK FNO
        generalize wF wt = y at *
        have qy : ((y : Int) != 0) = true := by simp; omega
        clear hy0
        go_wp2_with (first | (go_at_call 72; refine AC.out.mono ?_; rintro e w' ⟨rfl, hw⟩; (have hw2 := hw.symm); clear hw; subst hw2) | (go_at_call 101; refine WC.out.mono ?_; rintro e w' ⟨rfl, hw⟩; (have hw2 := hw.symm); clear hw; subst hw2))
        refine bodyPost_ret (v := .tuple #[.slice none 0 0, .slice none 0 0, .int .i64 0, .int .i64 0, .int .i64 (y : Int), .int .i64 (k : Int)]) (by simp [results, Try.results68]) rfl ?_
        rw [E0.out, GB.out]
        exact ⟨rfl, C0.out.1.bel⟩
      | true =>
      have hy : wrF wt v ty = 0 := by unfold wrF; rw [ep]; rfl
      rw [hy] at WC
      have WC : Hid (Calls Try.prog 101 #[.int .i64 (wt : Int), .int .i64 (v : Int), .int .i64 (ty : Int)] W1 fun e w' => e = .returned (.int .i64 0) ∧ w' = W1) := WC.out
      have HE2 : Hid (LL = pr b (2000 - (i + 1)) ((td ++ addF wt v).drop (i + 1)) { setF wt v ⟨ty, k, cs, ss, sz⟩ with k := kw }) := by
        unfold Hid
        rw [HE.out, FOK.out ep, HF.out, List.drop_append_of_le_length (by have := HIL.out; have := HNL.out; omega), HKW.out.1]
        rfl
      have HKD2 : Hid (∀ p ∈ td ++ addF wt v, Kd p) := fun p hp => by
        rcases List.mem_append.1 hp with h | h
        · exact KD.out p h
        · exact kd_add wt v p h
      have HTL2 : Hid (i + 1 ≤ (td ++ addF wt v).length ∧ (td ++ addF wt v).length ≤ 7 + (i + 1) * 65540) := by
        have h1 := add_len2 HPK.out v HV.out.2
        have h2 := HT.out
        have h3 := HNL.out
        have h4 := HIL.out
        dsimp only at h1
        unfold Hid
        rw [List.length_append]
        omega
      clear hy ep HE FOK FNO
      go_upto_region 14 with (first | (go_at_call 72; refine AC.out.mono ?_; rintro e w' ⟨rfl, hw⟩; (have hw2 := hw.symm); clear hw; subst hw2) | (go_at_call 101; refine WC.out.mono ?_; rintro e w' ⟨rfl, hw⟩; (have hw2 := hw.symm); clear hw; subst hw2))
      have C1 : Hid (RH bw w W1 u2 u3 (.slice (some ⟨g, 0, none⟩) n tc) cs ss td) := C0.out.1
      have iB : (i : Int) < 2000 := by have := HI.out; omega
      go_upto_region 16 with fail
      clear AC WC C0 c0 r1 w1 q1
      generalize hz : (wt : Int) = z at c1 ⊢
      clear c1
      rcases HPK.out with h | h | h | h | h | h | h | h | h | h | h | h | h | h
      · obtain ⟨rfl, rfl⟩ := Prod.mk.inj h
        have hz9 : z = 1 := hz.symm
        subst hz9
        clear hz h
        have hap : td ++ addF 1 v = td := List.append_nil td
        rw [hap] at HE2 HKD2 HTL2
        go_wp2
        go_roundw
        case rel => exact ⟨i + 1, kw, ty, sz, cs, ss, td, by first | rfl | go_num, rfl, rfl, rfl, by omega, C1.out, HKD2.out, HTL2.out.1, HTL2.out.2, HKW.out.2, by have := HT.out; have := HV.out.1; omega, by have := HT.out; have := HV.out.1; omega, by have := HT.out; (try rw [List.length_append]); (try simp only [List.length_singleton]); omega, by have := HT.out; (try rw [List.length_append]); (try simp only [List.length_singleton]); omega, HE2.out⟩
        case measure => simp [intOf]; omega
      · obtain ⟨rfl, rfl⟩ := Prod.mk.inj h
        have hz9 : z = 2 := hz.symm
        subst hz9
        clear hz h
        have hap : td ++ addF 2 v = td := List.append_nil td
        rw [hap] at HE2 HKD2 HTL2
        go_wp2
        go_roundw
        case rel => exact ⟨i + 1, kw, ty, sz, cs, ss, td, by first | rfl | go_num, rfl, rfl, rfl, by omega, C1.out, HKD2.out, HTL2.out.1, HTL2.out.2, HKW.out.2, by have := HT.out; have := HV.out.1; omega, by have := HT.out; have := HV.out.1; omega, by have := HT.out; (try rw [List.length_append]); (try simp only [List.length_singleton]); omega, by have := HT.out; (try rw [List.length_append]); (try simp only [List.length_singleton]); omega, HE2.out⟩
        case measure => simp [intOf]; omega
      · obtain ⟨rfl, rfl⟩ := Prod.mk.inj h
        have hz9 : z = 3 := hz.symm
        subst hz9
        clear hz h
        have hap : td ++ addF 3 v = td := List.append_nil td
        rw [hap] at HE2 HKD2 HTL2
        go_wp2
        go_roundw
        case rel => exact ⟨i + 1, kw, ty, sz, cs, ss, td, by first | rfl | go_num, rfl, rfl, rfl, by omega, C1.out, HKD2.out, HTL2.out.1, HTL2.out.2, HKW.out.2, by have := HT.out; have := HV.out.1; omega, by have := HT.out; have := HV.out.1; omega, by have := HT.out; (try rw [List.length_append]); (try simp only [List.length_singleton]); omega, by have := HT.out; (try rw [List.length_append]); (try simp only [List.length_singleton]); omega, HE2.out⟩
        case measure => simp [intOf]; omega
      · obtain ⟨rfl, rfl⟩ := Prod.mk.inj h
        have hz9 : z = 4 := hz.symm
        subst hz9
        clear hz h
        have hap : td ++ addF 4 v = td := List.append_nil td
        rw [hap] at HE2 HKD2 HTL2
        go_wp2
        go_roundw
        case rel => exact ⟨i + 1, kw, ty, sz, cs, ss, td, by first | rfl | go_num, rfl, rfl, rfl, by omega, C1.out, HKD2.out, HTL2.out.1, HTL2.out.2, HKW.out.2, by have := HT.out; have := HV.out.1; omega, by have := HT.out; have := HV.out.1; omega, by have := HT.out; (try rw [List.length_append]); (try simp only [List.length_singleton]); omega, by have := HT.out; (try rw [List.length_append]); (try simp only [List.length_singleton]); omega, HE2.out⟩
        case measure => simp [intOf]; omega
      · obtain ⟨rfl, rfl⟩ := Prod.mk.inj h
        have hz9 : z = 5 := hz.symm
        subst hz9
        clear hz h
        have hap : td ++ addF 5 v = td := List.append_nil td
        rw [hap] at HE2 HKD2 HTL2
        go_wp2
        go_roundw
        case rel => exact ⟨i + 1, kw, v, sz, cs, ss, td, by first | rfl | go_num, rfl, rfl, rfl, by omega, C1.out, HKD2.out, HTL2.out.1, HTL2.out.2, HKW.out.2, by have := HT.out; have := HV.out.1; omega, by have := HT.out; have := HV.out.1; omega, by have := HT.out; (try rw [List.length_append]); (try simp only [List.length_singleton]); omega, by have := HT.out; (try rw [List.length_append]); (try simp only [List.length_singleton]); omega, HE2.out⟩
        case measure => simp [intOf]; omega
      · obtain ⟨rfl, rfl⟩ := Prod.mk.inj h
        have hz9 : z = 6 := hz.symm
        subst hz9
        clear hz h
        have hap : td ++ addF 6 v = td := List.append_nil td
        rw [hap] at HE2 HKD2 HTL2
        go_wp2
        go_roundw
        case rel => exact ⟨i + 1, kw, ty, sz, cs, ss, td, by first | rfl | go_num, rfl, rfl, rfl, by omega, C1.out, HKD2.out, HTL2.out.1, HTL2.out.2, HKW.out.2, by have := HT.out; have := HV.out.1; omega, by have := HT.out; have := HV.out.1; omega, by have := HT.out; (try rw [List.length_append]); (try simp only [List.length_singleton]); omega, by have := HT.out; (try rw [List.length_append]); (try simp only [List.length_singleton]); omega, HE2.out⟩
        case measure => simp [intOf]; omega
      · obtain ⟨rfl, rfl⟩ := Prod.mk.inj h
        have hz9 : z = 7 := hz.symm
        subst hz9
        clear hz h
        have v5 : v ≤ 65535 := HV.out.2 (by decide)
        obtain ⟨t2, ht2⟩ : ∃ t2, t2 = td ++ List.replicate v (2, 8) := ⟨_, rfl⟩
        have HT2 : Hid (td ++ addF 7 v = t2 ++ [(1, 9)]) := by unfold Hid; rw [ht2]; exact (List.append_assoc ..).symm
        have MC : Hid (Calls Try.prog 102 #[.slice (some ⟨g, 0, none⟩) n tc, .int .i64 (v : Int), .agg #[.int .i64 2, .int .i64 8]] W1 fun e w' => ∃ v', e = .returned v' ∧ App bw 123 2 W1 w' (.slice (some ⟨g, 0, none⟩) n tc) v' t2.length (fV t2)) := by
          rw [ht2]
          exact more_is W1 bw C1.out.le _ td C1.out.t v 2 8 (by omega) (by have := HT.out; have := HNL.out; have := HI.out; omega)
        have HLe : Hid (t2.length + 1 ≤ 2199023255552) := by unfold Hid; rw [ht2, List.length_append, List.length_replicate]; have := HT.out; have := HNL.out; have := HI.out; omega
        clear ht2
        go_upto_region 20 with (go_at_call 102; refine MC.out.mono ?_; rintro e w2 ⟨v2, rfl, hA⟩; (have R2 : Hid (RH bw w w2 u2 u3 v2 cs ss t2) := C1.out.appT hA); (clear hA); (obtain ⟨a2, c2, rfl⟩ := owns_sl R2.out.t))
        go_wp2_with (at_builtin; refine wpList_appF rfl _ _ rfl bw R2.out.le (.slice a2 t2.length c2) t2 rfl R2.out.t [(1, 9)] 1 rfl rfl HLe.out ?_; intro v3 w3 hA)
        have R3 : Hid (RH bw w w3 u2 u3 v3 cs ss (td ++ addF 7 v)) := by unfold Hid; rw [HT2.out]; exact R2.out.appT hA
        clear hA
        go_roundw
        case rel => exact ⟨i + 1, kw, ty, sz, cs, ss, td ++ addF 7 v, by first | rfl | go_num, rfl, rfl, rfl, by omega, R3.out, HKD2.out, HTL2.out.1, HTL2.out.2, HKW.out.2, by have := HT.out; have := HV.out.1; omega, by have := HT.out; have := HV.out.1; omega, by have := HT.out; (try rw [List.length_append]); (try simp only [List.length_singleton]); omega, by have := HT.out; (try rw [List.length_append]); (try simp only [List.length_singleton]); omega, HE2.out⟩
        case measure => simp [intOf]; omega
      · obtain ⟨rfl, rfl⟩ := Prod.mk.inj h
        have hz9 : z = 8 := hz.symm
        subst hz9
        clear hz h
        have hap : td ++ addF 8 v = td := List.append_nil td
        rw [hap] at HE2 HKD2 HTL2
        obtain ⟨ca, cc, rfl⟩ := owns_sl C1.out.c
        have HLe : Hid (cs.length + 1 ≤ 2199023255552) := by unfold Hid; have := HT.out; have := HI.out; omega
        go_wp2_with (at_builtin; refine wpList_appI rfl _ _ rfl bw C1.out.le (.slice ca cs.length cc) cs rfl C1.out.c v rfl HLe.out ?_; intro v3 w3 hA)
        have R3 : Hid (RH bw w w3 v3 u3 (.slice (some ⟨g, 0, none⟩) n tc) (cs ++ [v]) ss td) := C1.out.appC hA
        clear hA
        go_roundw
        case rel => exact ⟨i + 1, kw, ty, sz, cs ++ [v], ss, td, by first | rfl | go_num, rfl, rfl, rfl, by omega, R3.out, HKD2.out, HTL2.out.1, HTL2.out.2, HKW.out.2, by have := HT.out; have := HV.out.1; omega, by have := HT.out; have := HV.out.1; omega, by have := HT.out; (try rw [List.length_append]); (try simp only [List.length_singleton]); omega, by have := HT.out; (try rw [List.length_append]); (try simp only [List.length_singleton]); omega, HE2.out⟩
        case measure => simp [intOf]; omega
      · obtain ⟨rfl, rfl⟩ := Prod.mk.inj h
        have hz9 : z = 9 := hz.symm
        subst hz9
        clear hz h
        by_cases e3 : v = 3
        · have q3 : ((v : Int) == 3) = true := by simp; omega
          have HT2 : Hid (td ++ addF 9 v = td ++ [(2, 10)]) := by unfold Hid; show td ++ (if v = 3 then [(2, 10)] else [(2, 13), (1, 14)]) = _; rw [if_pos e3]
          have HLe : Hid (td.length + 1 ≤ 2199023255552) := by unfold Hid; have := HT.out; have := HNL.out; have := HI.out; omega
          go_wp2_with (at_builtin; refine wpList_appF rfl _ _ rfl bw C1.out.le (.slice (some ⟨g, 0, none⟩) n tc) td rfl C1.out.t [(2, 10)] 1 rfl rfl HLe.out ?_; intro v3 w3 hA)
          have R3 : Hid (RH bw w w3 u2 u3 v3 cs ss (td ++ addF 9 v)) := by unfold Hid; rw [HT2.out]; exact C1.out.appT hA
          clear hA
          go_roundw
          case rel => exact ⟨i + 1, kw, ty, sz, cs, ss, td ++ addF 9 v, by first | rfl | go_num, rfl, rfl, rfl, by omega, R3.out, HKD2.out, HTL2.out.1, HTL2.out.2, HKW.out.2, by have := HT.out; have := HV.out.1; omega, by have := HT.out; have := HV.out.1; omega, by have := HT.out; (try rw [List.length_append]); (try simp only [List.length_singleton]); omega, by have := HT.out; (try rw [List.length_append]); (try simp only [List.length_singleton]); omega, HE2.out⟩
          case measure => simp [intOf]; omega
        · have q3 : ((v : Int) == 3) = false := by simp; omega
          have HT2 : Hid (td ++ addF 9 v = td ++ [(2, 13), (1, 14)]) := by unfold Hid; show td ++ (if v = 3 then [(2, 10)] else [(2, 13), (1, 14)]) = _; rw [if_neg e3]
          have HLe : Hid (td.length + 2 ≤ 2199023255552) := by unfold Hid; have := HT.out; have := HNL.out; have := HI.out; omega
          go_wp2_with (at_builtin; refine wpList_appF rfl _ _ rfl bw C1.out.le (.slice (some ⟨g, 0, none⟩) n tc) td rfl C1.out.t [(2, 13), (1, 14)] 2 rfl rfl HLe.out ?_; intro v3 w3 hA)
          have R3 : Hid (RH bw w w3 u2 u3 v3 cs ss (td ++ addF 9 v)) := by unfold Hid; rw [HT2.out]; exact C1.out.appT hA
          clear hA
          go_roundw
          case rel => exact ⟨i + 1, kw, ty, sz, cs, ss, td ++ addF 9 v, by first | rfl | go_num, rfl, rfl, rfl, by omega, R3.out, HKD2.out, HTL2.out.1, HTL2.out.2, HKW.out.2, by have := HT.out; have := HV.out.1; omega, by have := HT.out; have := HV.out.1; omega, by have := HT.out; (try rw [List.length_append]); (try simp only [List.length_singleton]); omega, by have := HT.out; (try rw [List.length_append]); (try simp only [List.length_singleton]); omega, HE2.out⟩
          case measure => simp [intOf]; omega
      · obtain ⟨rfl, rfl⟩ := Prod.mk.inj h
        have hz9 : z = 10 := hz.symm
        subst hz9
        clear hz h
        have v5 : v ≤ 65535 := HV.out.2 (by decide)
        obtain ⟨t2, ht2⟩ : ∃ t2, t2 = td ++ List.replicate v (4, 11) := ⟨_, rfl⟩
        have HT2 : Hid (td ++ addF 10 v = t2 ++ [(1, 12), (2, 13), (1, 14)]) := by unfold Hid; rw [ht2]; exact (List.append_assoc ..).symm
        have MC : Hid (Calls Try.prog 102 #[.slice (some ⟨g, 0, none⟩) n tc, .int .i64 (v : Int), .agg #[.int .i64 4, .int .i64 11]] W1 fun e w' => ∃ v', e = .returned v' ∧ App bw 123 2 W1 w' (.slice (some ⟨g, 0, none⟩) n tc) v' t2.length (fV t2)) := by
          rw [ht2]
          exact more_is W1 bw C1.out.le _ td C1.out.t v 4 11 (by omega) (by have := HT.out; have := HNL.out; have := HI.out; omega)
        have HLe : Hid (t2.length + 3 ≤ 2199023255552) := by unfold Hid; rw [ht2, List.length_append, List.length_replicate]; have := HT.out; have := HNL.out; have := HI.out; omega
        clear ht2
        go_upto_region 29 with (go_at_call 102; refine MC.out.mono ?_; rintro e w2 ⟨v2, rfl, hA⟩; (have R2 : Hid (RH bw w w2 u2 u3 v2 cs ss t2) := C1.out.appT hA); (clear hA); (obtain ⟨a2, c2, rfl⟩ := owns_sl R2.out.t))
        go_wp2_with (at_builtin; refine wpList_appF rfl _ _ rfl bw R2.out.le (.slice a2 t2.length c2) t2 rfl R2.out.t [(1, 12), (2, 13), (1, 14)] 3 rfl rfl HLe.out ?_; intro v3 w3 hA)
        have R3 : Hid (RH bw w w3 u2 u3 v3 cs ss (td ++ addF 10 v)) := by unfold Hid; rw [HT2.out]; exact R2.out.appT hA
        clear hA
        go_roundw
        case rel => exact ⟨i + 1, kw, ty, sz, cs, ss, td ++ addF 10 v, by first | rfl | go_num, rfl, rfl, rfl, by omega, R3.out, HKD2.out, HTL2.out.1, HTL2.out.2, HKW.out.2, by have := HT.out; have := HV.out.1; omega, by have := HT.out; have := HV.out.1; omega, by have := HT.out; (try rw [List.length_append]); (try simp only [List.length_singleton]); omega, by have := HT.out; (try rw [List.length_append]); (try simp only [List.length_singleton]); omega, HE2.out⟩
        case measure => simp [intOf]; omega
      · obtain ⟨rfl, rfl⟩ := Prod.mk.inj h
        have hz9 : z = 11 := hz.symm
        subst hz9
        clear hz h
        have hap : td ++ addF 11 v = td := List.append_nil td
        rw [hap] at HE2 HKD2 HTL2
        obtain ⟨sa, sc, rfl⟩ := owns_sl C1.out.s
        have HLe : Hid (ss.length + 1 ≤ 2199023255552) := by unfold Hid; have := HT.out; have := HI.out; omega
        go_wp2_with (at_builtin; refine wpList_appI rfl _ _ rfl bw C1.out.le (.slice sa ss.length sc) ss rfl C1.out.s v rfl HLe.out ?_; intro v3 w3 hA)
        have R3 : Hid (RH bw w w3 u2 v3 (.slice (some ⟨g, 0, none⟩) n tc) cs (ss ++ [v]) td) := C1.out.appS hA
        clear hA
        go_roundw
        case rel => exact ⟨i + 1, kw, ty, sz, cs, ss ++ [v], td, by first | rfl | go_num, rfl, rfl, rfl, by omega, R3.out, HKD2.out, HTL2.out.1, HTL2.out.2, HKW.out.2, by have := HT.out; have := HV.out.1; omega, by have := HT.out; have := HV.out.1; omega, by have := HT.out; (try rw [List.length_append]); (try simp only [List.length_singleton]); omega, by have := HT.out; (try rw [List.length_append]); (try simp only [List.length_singleton]); omega, HE2.out⟩
        case measure => simp [intOf]; omega
      · obtain ⟨rfl, rfl⟩ := Prod.mk.inj h
        have hz9 : z = 12 := hz.symm
        subst hz9
        clear hz h
        have hap : td ++ addF 12 v = td := List.append_nil td
        rw [hap] at HE2 HKD2 HTL2
        go_wp2
        go_roundw
        case rel => exact ⟨i + 1, kw, ty, sz, cs, ss, td, by first | rfl | go_num, rfl, rfl, rfl, by omega, C1.out, HKD2.out, HTL2.out.1, HTL2.out.2, HKW.out.2, by have := HT.out; have := HV.out.1; omega, by have := HT.out; have := HV.out.1; omega, by have := HT.out; (try rw [List.length_append]); (try simp only [List.length_singleton]); omega, by have := HT.out; (try rw [List.length_append]); (try simp only [List.length_singleton]); omega, HE2.out⟩
        case measure => simp [intOf]; omega
      · obtain ⟨rfl, rfl⟩ := Prod.mk.inj h
        have hz9 : z = 13 := hz.symm
        subst hz9
        clear hz h
        have hap : td ++ addF 13 v = td := List.append_nil td
        rw [hap] at HE2 HKD2 HTL2
        go_wp2
        go_roundw
        case rel => exact ⟨i + 1, kw, ty, v, cs, ss, td, by first | rfl | go_num, rfl, rfl, rfl, by omega, C1.out, HKD2.out, HTL2.out.1, HTL2.out.2, HKW.out.2, by have := HT.out; have := HV.out.1; omega, by have := HT.out; have := HV.out.1; omega, by have := HT.out; (try rw [List.length_append]); (try simp only [List.length_singleton]); omega, by have := HT.out; (try rw [List.length_append]); (try simp only [List.length_singleton]); omega, HE2.out⟩
        case measure => simp [intOf]; omega
      · obtain ⟨rfl, rfl⟩ := Prod.mk.inj h
        have hz9 : z = 14 := hz.symm
        subst hz9
        clear hz h
        have hap : td ++ addF 14 v = td := List.append_nil td
        rw [hap] at HE2 HKD2 HTL2
        go_wp2
        go_roundw
        case rel => exact ⟨i + 1, kw, ty, sz, cs, ss, td, by first | rfl | go_num, rfl, rfl, rfl, by omega, C1.out, HKD2.out, HTL2.out.1, HTL2.out.2, HKW.out.2, by have := HT.out; have := HV.out.1; omega, by have := HT.out; have := HV.out.1; omega, by have := HT.out; (try rw [List.length_append]); (try simp only [List.length_singleton]); omega, by have := HT.out; (try rw [List.length_append]); (try simp only [List.length_singleton]); omega, HE2.out⟩
        case measure => simp [intOf]; omega
end Go.Proofs.Ytndhabhlajldeaa
