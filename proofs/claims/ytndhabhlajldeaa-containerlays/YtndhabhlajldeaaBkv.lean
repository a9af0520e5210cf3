/- Package container: the reader's header, whole. -/
import Derived.Test.YtndhabhlajldeaaBku
namespace Go.Proofs.Ytndhabhlajldeaa
open Go.RowKit
/-- in the midst of a header -/
structure HdM (rb b2 b3 : Nat) (w W : World) (bs : Value) (b : List Nat) (cv sv : Value) (cs ss : List Nat) (d k : Nat) : Prop where
  c2 : CBox W b2 84 [.slice none 0 0, .slice none 0 0, .int .u64 0]
  c3 : CBox W b3 84 [cv, sv, .int .u64 (d : Int)]
  uc : UL W cv cs
  us : UL W sv ss
  rd : Rdr W rb bs b k
  but : RB rb w W
  kl : k ≤ b.length
  ge : w.heap.size ≤ b3
  n2 : w.heap.size ≤ b2
  ne : b2 ≠ b3
section
variable {rb b2 b3 d d' k k' : Nat} {w W W' : World} {bs cv sv : Value} {b cs ss : List Nat}
theorem HdM.lt (h : HdM rb b2 b3 w W bs b cv sv cs ss d k) (hr : rb < w.heap.size) : rb ≠ b2 ∧ rb ≠ b3 := by have := h.ge; have := h.n2; omega
theorem HdM.past (h : HdM rb b2 b3 w W bs b cv sv cs ss d k) (q : Below W.heap.size W W') : HdM rb b2 b3 w W' bs b cv sv cs ss d k := ⟨h.c2.past q, h.c3.past q, h.uc.past q, h.us.past q, h.rd.past q, h.but.trans (below_but q), h.kl, h.ge, h.n2, h.ne⟩
theorem HdM.read (h : HdM rb b2 b3 w W bs b cv sv cs ss d k) (hr : rb < w.heap.size) (q : RB rb W W') (r : Rdr W' rb bs b k') (hk : k' ≤ b.length) : HdM rb b2 b3 w W' bs b cv sv cs ss d k' :=
  ⟨h.c2.but q (h.lt hr).1.symm, h.c3.but q (h.lt hr).2.symm, h.uc.but2 q h.rd.box (by decide), h.us.but2 q h.rd.box (by decide), r, h.but.trans q, hk, h.ge, h.n2, h.ne⟩
theorem HdM.step {b3 : Nat} {j : Nat} {v : Value} (h : HdM rb b2 b3 w W bs b cv sv cs ss d k) (hr : rb < w.heap.size) : But (fun y => y = b3) W (W.setCell ⟨b3, j, none⟩ v) ∧ CBox (W.setCell ⟨b3, j, none⟩ v) b2 84 [.slice none 0 0, .slice none 0 0, .int .u64 0] ∧ UL (W.setCell ⟨b3, j, none⟩ v) cv cs ∧ UL (W.setCell ⟨b3, j, none⟩ v) sv ss ∧ Rdr (W.setCell ⟨b3, j, none⟩ v) rb bs b k ∧ RB rb w (W.setCell ⟨b3, j, none⟩ v) := by
  have hs : But (fun y => y = b3) W (W.setCell ⟨b3, j, none⟩ v) := (But.refl (fun y => y = b3) W).setCell ⟨b3, j, none⟩ _ (Or.inl rfl)
  exact ⟨hs, h.c2.but hs h.ne, h.uc.but2 hs h.c3 (by decide), h.us.but2 hs h.c3 (by decide), h.rd.keep hs (fun y hy e => by have := h.ge; omega), h.but.setCell ⟨b3, j, none⟩ _ (Or.inr h.ge)⟩
theorem HdM.put0 {v : Value} {l : List Nat} (h : HdM rb b2 b3 w W bs b cv sv cs ss d k) (hr : rb < w.heap.size) (hv : UL W v l) : HdM rb b2 b3 w (W.setCell ⟨b3, 0, none⟩ v) bs b v sv l ss d k := by
  obtain ⟨hs, h2, h3, h4, h5, h6⟩ := h.step hr (j := 0) (v := v)
  exact ⟨h2, h.c3.set 0 _, hv.but2 hs h.c3 (by decide), h4, h5, h6, h.kl, h.ge, h.n2, h.ne⟩
theorem HdM.put1 {v : Value} {l : List Nat} (h : HdM rb b2 b3 w W bs b cv sv cs ss d k) (hr : rb < w.heap.size) (hv : UL W v l) : HdM rb b2 b3 w (W.setCell ⟨b3, 1, none⟩ v) bs b cv v cs l d k := by
  obtain ⟨hs, h2, h3, h4, h5, h6⟩ := h.step hr (j := 1) (v := v)
  exact ⟨h2, h.c3.set 1 _, h3, hv.but2 hs h.c3 (by decide), h5, h6, h.kl, h.ge, h.n2, h.ne⟩
theorem HdM.put2 (h : HdM rb b2 b3 w W bs b cv sv cs ss d k) (hr : rb < w.heap.size) (x : Nat) : HdM rb b2 b3 w (W.setCell ⟨b3, 2, none⟩ (.int .u64 (x : Int))) bs b cv sv cs ss x k := by
  obtain ⟨hs, h2, h3, h4, h5, h6⟩ := h.step hr (j := 2) (v := .int .u64 (x : Int))
  exact ⟨h2, h.c3.set 2 _, h3, h4, h5, h6, h.kl, h.ge, h.n2, h.ne⟩
end
theorem fld_k {b : List Nat} {k wd why q : Nat} {p : Nat → Bool} (h : fld b k wd why p = .ok q) : k + wd ≤ b.length ∧ q = rd b k wd ∧ p q = true := by
  unfold fld at h
  split at h
  · cases h
  · split at h
    · cases h
      exact ⟨by omega, rfl, by assumption⟩
    · cases h
/-- a header that was read -/
structure HdQ (rb : Nat) (w w' : World) (bs : Value) (b : List Nat) (e : Ending) (h : Hd) : Prop where
  ex : ∃ cv sv, e = .returned (.agg #[cv, sv, .int .u64 (h.d : Int)]) ∧ UL w' cv h.cs ∧ UL w' sv h.ss
  rd : Rdr w' rb bs b h.e
  but : RB rb w w'
  kl : h.e ≤ b.length
  dl : h.d ≤ 65535
  cl : h.cs.length ≤ 1024
  sl : h.ss.length ≤ 256
theorem lens_k : ∀ (b : List Nat) (wd k m : Nat) (l : List Nat), lens b wd k m = .ok l → k ≤ b.length → k + wd * m ≤ b.length
  | b, wd, k, 0, l, h, hk => by omega
  | b, wd, k, m + 1, l, h, hk => by
    unfold lens at h
    cases e1 : fld b k wd 56 (fun n => decide (0 < n)) with
    | error er => rw [e1] at h; cases h
    | ok x =>
      rw [e1] at h
      cases e2 : lens b wd (k + wd) m with
      | error er => simp only [Except.bind, e2] at h; cases h
      | ok r =>
        have := lens_k b wd (k + wd) m r e2 (fld_k e1).1
        rw [Nat.mul_add]
        omega
set_option maxHeartbeats 4000000 in
set_option maxRecDepth 100000 in
theorem header_is (w : World) (rb : Nat) (bs : Value) (b : List Nat) (h : Rdr w rb bs b 0) :
    Calls Try.prog 65 #[.pointer (some ⟨rb, 0, none⟩)] w fun e w' => Out rb w (hdr b) (fun h e w' => HdQ rb w w' bs b e h) e w' := by
  obtain ⟨LL, hLL⟩ : ∃ LL, LL = hdr b := ⟨_, rfl⟩
  rw [← hLL]
  have HRG : Hid (rb < w.heap.size) := h.box.lt
  have HBY : Hid (Byt b) := h.byt
  have HE : Hid (LL = hdr b) := hLL
  have M : Hid (HdM rb w.heap.size (w.heap.size + 1) w ((w.alloc (.cells #[.slice none 0 0, .slice none 0 0, .int .u64 0] 84)).alloc (.cells #[.slice none 0 0, .slice none 0 0, .int .u64 0] 84)) bs b (.slice none 0 0) (.slice none 0 0) [] [] 0 0) := by
    have b1 := below_alloc w (.cells #[.slice none 0 0, .slice none 0 0, .int .u64 0] 84)
    have b2 := below_alloc (w.alloc (.cells #[.slice none 0 0, .slice none 0 0, .int .u64 0] 84)) (.cells #[.slice none 0 0, .slice none 0 0, .int .u64 0] 84)
    have c3 := CBox.new (w.alloc (.cells #[.slice none 0 0, .slice none 0 0, .int .u64 0] 84)) 84 [.slice none 0 0, .slice none 0 0, .int .u64 0]
    refine ⟨(CBox.new w 84 [.slice none 0 0, .slice none 0 0, .int .u64 0]).past b2, by simpa using c3, Or.inl ⟨rfl, rfl⟩, Or.inl ⟨rfl, rfl⟩, (h.past b1).past b2, (below_but b1).trans (below_but b2), by omega, by omega, by omega, by omega⟩
  clear h hLL
  go_enter Try.func65, Try.ntmps65
  go_upto_region 2 with fail
  generalize (w.alloc _).alloc _ = W0 at M ⊢
  generalize w.heap.size + 1 = b3 at M ⊢
  generalize hb2 : w.heap.size = b2 at M ⊢
  rw [hb2] at HRG
  have HRG : Hid (rb < w.heap.size) := by unfold Hid; have := HRG.out; omega
  clear hb2
  have HE : Hid (LL = (fld b (0) 1 51 (fun n => n == 239)).bind fun _ => (fld b 1 1 51 (fun n => n == 0)).bind fun _ => (fld b 2 1 52 (fun n => n == 1)).bind fun _ => (fld b 3 1 53 (fun n => n == 1)).bind fun _ => (fld b 4 2 54 pT).bind fun t => (fld b 6 1 53 (fun n => n == 2)).bind fun _ => (fld b 7 2 55 (fun n => n == t / 4)).bind fun m => (lens b 2 9 m).bind fun cs => hdKind b (9 + 2 * m) cs) := HE.out
  have FC0 := fixed_is W0 rb bs b (0) 239 51 M.out.rd M.out.kl
  have FK : Hid (∀ q, fld b (0) 1 51 (fun n => n == 239) = .ok q → 0 + 1 ≤ b.length) := fun q hq => (fld_k hq).1
  have FC : Hid _ := FC0
  clear FC0
  generalize fld b (0) 1 51 (fun n => n == 239) = FF at *
  cases FF with
  | error er =>
    obtain ⟨ec, ea⟩ := er
    have E0 : Hid (LL = .error (ec, ea)) := HE.out
    go_wp2_with (go_at_call 90; refine Calls.mono FC.out ?_; rintro e w' ⟨rfl, hB⟩; unfold thrown rejV)
    refine ⟨rfl, ?_⟩
    rw [E0.out]
    exact ⟨rfl, M.out.but.trans hB⟩
  | ok xq =>
  have HE : Hid (LL = (fld b 1 1 51 (fun n => n == 0)).bind fun _ => (fld b 2 1 52 (fun n => n == 1)).bind fun _ => (fld b 3 1 53 (fun n => n == 1)).bind fun _ => (fld b 4 2 54 pT).bind fun t => (fld b 6 1 53 (fun n => n == 2)).bind fun _ => (fld b 7 2 55 (fun n => n == t / 4)).bind fun m => (lens b 2 9 m).bind fun cs => hdKind b (9 + 2 * m) cs) := HE.out
  have HK := FK.out xq rfl
  go_upto_region 3 with (go_at_call 90; refine Calls.mono FC.out ?_; rintro e W1 ⟨rfl, hR, hB⟩)
  have M2 : Hid (HdM rb b2 b3 w W1 bs b (.slice none 0 0) (.slice none 0 0) [] [] 0 (0 + 1)) := M.out.read HRG.out hB hR HK
  clear hR hB HK FC FK M
  have M := M2
  clear M2
  have HE : Hid (LL = (fld b (0 + 1) 1 51 (fun n => n == 0)).bind fun _ => (fld b 2 1 52 (fun n => n == 1)).bind fun _ => (fld b 3 1 53 (fun n => n == 1)).bind fun _ => (fld b 4 2 54 pT).bind fun t => (fld b 6 1 53 (fun n => n == 2)).bind fun _ => (fld b 7 2 55 (fun n => n == t / 4)).bind fun m => (lens b 2 9 m).bind fun cs => hdKind b (9 + 2 * m) cs) := HE.out
  have FC0 := fixed_is W1 rb bs b (0 + 1) 0 51 M.out.rd M.out.kl
  have FK : Hid (∀ q, fld b (0 + 1) 1 51 (fun n => n == 0) = .ok q → 0 + 1 + 1 ≤ b.length) := fun q hq => (fld_k hq).1
  have FC : Hid _ := FC0
  clear FC0
  generalize fld b (0 + 1) 1 51 (fun n => n == 0) = FF at *
  cases FF with
  | error er =>
    obtain ⟨ec, ea⟩ := er
    have E0 : Hid (LL = .error (ec, ea)) := HE.out
    go_wp2_with (go_at_call 90; refine Calls.mono FC.out ?_; rintro e w' ⟨rfl, hB⟩; unfold thrown rejV)
    refine ⟨rfl, ?_⟩
    rw [E0.out]
    exact ⟨rfl, M.out.but.trans hB⟩
  | ok xq =>
  have HE : Hid (LL = (fld b 2 1 52 (fun n => n == 1)).bind fun _ => (fld b 3 1 53 (fun n => n == 1)).bind fun _ => (fld b 4 2 54 pT).bind fun t => (fld b 6 1 53 (fun n => n == 2)).bind fun _ => (fld b 7 2 55 (fun n => n == t / 4)).bind fun m => (lens b 2 9 m).bind fun cs => hdKind b (9 + 2 * m) cs) := HE.out
  have HK := FK.out xq rfl
  go_upto_region 4 with (go_at_call 90; refine Calls.mono FC.out ?_; rintro e W2 ⟨rfl, hR, hB⟩)
  have M2 : Hid (HdM rb b2 b3 w W2 bs b (.slice none 0 0) (.slice none 0 0) [] [] 0 (0 + 1 + 1)) := M.out.read HRG.out hB hR HK
  clear hR hB HK FC FK M
  have M := M2
  clear M2
  have HE : Hid (LL = (fld b (0 + 1 + 1) 1 52 (fun n => n == 1)).bind fun _ => (fld b 3 1 53 (fun n => n == 1)).bind fun _ => (fld b 4 2 54 pT).bind fun t => (fld b 6 1 53 (fun n => n == 2)).bind fun _ => (fld b 7 2 55 (fun n => n == t / 4)).bind fun m => (lens b 2 9 m).bind fun cs => hdKind b (9 + 2 * m) cs) := HE.out
  have FC0 := fixed_is W2 rb bs b (0 + 1 + 1) 1 52 M.out.rd M.out.kl
  have FK : Hid (∀ q, fld b (0 + 1 + 1) 1 52 (fun n => n == 1) = .ok q → 0 + 1 + 1 + 1 ≤ b.length) := fun q hq => (fld_k hq).1
  have FC : Hid _ := FC0
  clear FC0
  generalize fld b (0 + 1 + 1) 1 52 (fun n => n == 1) = FF at *
  cases FF with
  | error er =>
    obtain ⟨ec, ea⟩ := er
    have E0 : Hid (LL = .error (ec, ea)) := HE.out
    go_wp2_with (go_at_call 90; refine Calls.mono FC.out ?_; rintro e w' ⟨rfl, hB⟩; unfold thrown rejV)
    refine ⟨rfl, ?_⟩
    rw [E0.out]
    exact ⟨rfl, M.out.but.trans hB⟩
  | ok xq =>
  have HE : Hid (LL = (fld b 3 1 53 (fun n => n == 1)).bind fun _ => (fld b 4 2 54 pT).bind fun t => (fld b 6 1 53 (fun n => n == 2)).bind fun _ => (fld b 7 2 55 (fun n => n == t / 4)).bind fun m => (lens b 2 9 m).bind fun cs => hdKind b (9 + 2 * m) cs) := HE.out
  have HK := FK.out xq rfl
  go_upto_region 5 with (go_at_call 90; refine Calls.mono FC.out ?_; rintro e W3 ⟨rfl, hR, hB⟩)
  have M2 : Hid (HdM rb b2 b3 w W3 bs b (.slice none 0 0) (.slice none 0 0) [] [] 0 (0 + 1 + 1 + 1)) := M.out.read HRG.out hB hR HK
  clear hR hB HK FC FK M
  have M := M2
  clear M2
  have HE : Hid (LL = (fld b (0 + 1 + 1 + 1) 1 53 (fun n => n == 1)).bind fun _ => (fld b 4 2 54 pT).bind fun t => (fld b 6 1 53 (fun n => n == 2)).bind fun _ => (fld b 7 2 55 (fun n => n == t / 4)).bind fun m => (lens b 2 9 m).bind fun cs => hdKind b (9 + 2 * m) cs) := HE.out
  have FC0 := fixed_is W3 rb bs b (0 + 1 + 1 + 1) 1 53 M.out.rd M.out.kl
  have FK : Hid (∀ q, fld b (0 + 1 + 1 + 1) 1 53 (fun n => n == 1) = .ok q → 0 + 1 + 1 + 1 + 1 ≤ b.length) := fun q hq => (fld_k hq).1
  have FC : Hid _ := FC0
  clear FC0
  generalize fld b (0 + 1 + 1 + 1) 1 53 (fun n => n == 1) = FF at *
  cases FF with
  | error er =>
    obtain ⟨ec, ea⟩ := er
    have E0 : Hid (LL = .error (ec, ea)) := HE.out
    go_wp2_with (go_at_call 90; refine Calls.mono FC.out ?_; rintro e w' ⟨rfl, hB⟩; unfold thrown rejV)
    refine ⟨rfl, ?_⟩
    rw [E0.out]
    exact ⟨rfl, M.out.but.trans hB⟩
  | ok xq =>
  have HE : Hid (LL = (fld b 4 2 54 pT).bind fun t => (fld b 6 1 53 (fun n => n == 2)).bind fun _ => (fld b 7 2 55 (fun n => n == t / 4)).bind fun m => (lens b 2 9 m).bind fun cs => hdKind b (9 + 2 * m) cs) := HE.out
  have HK := FK.out xq rfl
  go_upto_region 6 with (go_at_call 90; refine Calls.mono FC.out ?_; rintro e W4 ⟨rfl, hR, hB⟩)
  have M2 : Hid (HdM rb b2 b3 w W4 bs b (.slice none 0 0) (.slice none 0 0) [] [] 0 (0 + 1 + 1 + 1 + 1)) := M.out.read HRG.out hB hR HK
  clear hR hB HK FC FK M
  have M := M2
  clear M2
  have HE : Hid (LL = (fld b (4) 2 54 (pT)).bind fun t => (fld b 6 1 53 (fun n => n == 2)).bind fun _ => (fld b 7 2 55 (fun n => n == t / 4)).bind fun m => (lens b 2 9 m).bind fun cs => hdKind b (9 + 2 * m) cs) := HE.out
  have FC0 := field0_is W4 rb bs b (4) 2 54 M.out.rd M.out.kl (by omega) (pT) 92 (fun _ _ => by kernel_rfl) (fun V hV => hd1_is V (rd b 4 2))
  have FK : Hid (∀ q, fld b (4) 2 54 (pT) = .ok q → (4 + 2 ≤ b.length ∧ q = rd b (4) 2 ∧ (pT) q = true)) := fun q hq => fld_k hq
  have FC : Hid _ := FC0
  clear FC0
  generalize fld b (4) 2 54 (pT) = FF at *
  cases FF with
  | error er =>
    obtain ⟨ec, ea⟩ := er
    have E0 : Hid (LL = .error (ec, ea)) := HE.out
    go_wp2_with (go_at_call 91; refine Calls.mono FC.out ?_; rintro e w' ⟨rfl, hB⟩; unfold thrown rejV)
    refine ⟨rfl, ?_⟩
    rw [E0.out]
    exact ⟨rfl, M.out.but.trans hB⟩
  | ok t =>
  have HE : Hid (LL = (fld b 6 1 53 (fun n => n == 2)).bind fun _ => (fld b 7 2 55 (fun n => n == t / 4)).bind fun m => (lens b 2 9 m).bind fun cs => hdKind b (9 + 2 * m) cs) := HE.out
  have HK : Hid (4 + 2 ≤ b.length ∧ t = rd b (4) 2 ∧ (pT) t = true) := FK.out t rfl
  have HXt : Hid (t ≤ 65535 ∧ (pT) t = true) := ⟨by rw [HK.out.2.1]; exact rd_small HBY.out _ _ (by omega), HK.out.2.2⟩
  go_upto_region 7 with (go_at_call 91; refine Calls.mono FC.out ?_; rintro e W5 ⟨rfl, hR, hB⟩)
  have M2 : Hid (HdM rb b2 b3 w W5 bs b (.slice none 0 0) (.slice none 0 0) [] [] 0 (4 + 2)) := M.out.read HRG.out hB hR HK.out.1
  have M3 : Hid (HdM rb b2 b3 w (W5.alloc (.cells #[.int .u64 (t : Int)] 73)) bs b (.slice none 0 0) (.slice none 0 0) [] [] 0 (4 + 2) ∧ CBox (W5.alloc (.cells #[.int .u64 (t : Int)] 73)) W5.heap.size 73 [.int .u64 (t : Int)] ∧ W5.heap.size ≠ rb) := ⟨M2.out.past (below_alloc _ _), CBox.new _ _ [_], by have := M2.out.rd.box.lt; omega⟩
  clear hR hB HK FC FK M M2
  generalize W5.alloc _ = W6 at M3 ⊢
  generalize W5.heap.size = g4 at M3 ⊢
  have CT : Hid (CBox W6 g4 73 [.int .u64 (t : Int)] ∧ g4 ≠ rb) := M3.out.2
  have M : Hid (HdM rb b2 b3 w W6 bs b (.slice none 0 0) (.slice none 0 0) [] [] 0 6) := M3.out.1
  clear M3
  have HE : Hid (LL = (fld b (6) 1 53 (fun n => n == 2)).bind fun _ => (fld b 7 2 55 (fun n => n == t / 4)).bind fun m => (lens b 2 9 m).bind fun cs => hdKind b (9 + 2 * m) cs) := HE.out
  have FC0 := fixed_is W6 rb bs b (6) 2 53 M.out.rd M.out.kl
  have FK : Hid (∀ q, fld b (6) 1 53 (fun n => n == 2) = .ok q → 6 + 1 ≤ b.length) := fun q hq => (fld_k hq).1
  have FC : Hid _ := FC0
  clear FC0
  generalize fld b (6) 1 53 (fun n => n == 2) = FF at *
  cases FF with
  | error er =>
    obtain ⟨ec, ea⟩ := er
    have E0 : Hid (LL = .error (ec, ea)) := HE.out
    go_wp2_with (go_at_call 90; refine Calls.mono FC.out ?_; rintro e w' ⟨rfl, hB⟩; unfold thrown rejV)
    refine ⟨rfl, ?_⟩
    rw [E0.out]
    exact ⟨rfl, M.out.but.trans hB⟩
  | ok xq =>
  have HE : Hid (LL = (fld b 7 2 55 (fun n => n == t / 4)).bind fun m => (lens b 2 9 m).bind fun cs => hdKind b (9 + 2 * m) cs) := HE.out
  have HK := FK.out xq rfl
  go_upto_region 8 with (go_at_call 90; refine Calls.mono FC.out ?_; rintro e W7 ⟨rfl, hR, hB⟩)
  have M2 : Hid (HdM rb b2 b3 w W7 bs b (.slice none 0 0) (.slice none 0 0) [] [] 0 (6 + 1)) := M.out.read HRG.out hB hR HK
  have CT2 : Hid (CBox W7 g4 73 [.int .u64 (t : Int)] ∧ g4 ≠ rb) := ⟨CT.out.1.but hB CT.out.2, CT.out.2⟩
  clear hR hB HK FC FK M CT
  have M := M2
  clear M2
  have HE : Hid (LL = (fld b (7) 2 55 (fun n => n == t / 4)).bind fun m => (lens b 2 9 m).bind fun cs => hdKind b (9 + 2 * m) cs) := HE.out
  have FC0 := field1_is W7 rb bs b (7) 2 55 M.out.rd M.out.kl (by omega) (fun n => n == t / 4) 93 (.pointer (some ⟨g4, 0, none⟩)) (fun _ _ => by kernel_rfl) (fun V hV => hd2_is V g4 (rd b 7 2) t (by have := HXt.out; omega) ((CT2.out.1.but hV CT2.out.2).cell 0))
  have FK : Hid (∀ q, fld b (7) 2 55 (fun n => n == t / 4) = .ok q → (7 + 2 ≤ b.length ∧ q = rd b (7) 2 ∧ (fun n => n == t / 4) q = true)) := fun q hq => fld_k hq
  have FC : Hid _ := FC0
  clear FC0
  generalize fld b (7) 2 55 (fun n => n == t / 4) = FF at *
  have hmf : ∀ (fn : Fn) (first cap : Array Value) (w : World), (Instr.makeFunc fn first cap).run Try.prog w = .ok (.func fn first cap) w := fun _ _ _ _ => rfl
  cases FF with
  | error er =>
    obtain ⟨ec, ea⟩ := er
    have E0 : Hid (LL = .error (ec, ea)) := HE.out
    go_wp2_with (go_at_call 91; refine Calls.mono FC.out ?_; rintro e w' ⟨rfl, hB⟩; unfold thrown rejV)
    refine ⟨rfl, ?_⟩
    rw [E0.out]
    exact ⟨rfl, M.out.but.trans hB⟩
  | ok m =>
  have HE : Hid (LL = (lens b 2 9 m).bind fun cs => hdKind b (9 + 2 * m) cs) := HE.out
  have HK : Hid (7 + 2 ≤ b.length ∧ m = rd b (7) 2 ∧ (fun n => n == t / 4) m = true) := FK.out m rfl
  have HXm : Hid (m ≤ 65535 ∧ (fun n => n == t / 4) m = true) := ⟨by rw [HK.out.2.1]; exact rd_small HBY.out _ _ (by omega), HK.out.2.2⟩
  go_upto_region 9 with (go_at_call 91; refine Calls.mono FC.out ?_; rintro e W8 ⟨rfl, hR, hB⟩)
  have M2 : Hid (HdM rb b2 b3 w W8 bs b (.slice none 0 0) (.slice none 0 0) [] [] 0 (7 + 2)) := M.out.read HRG.out hB hR HK.out.1
  clear hR hB HK FC FK M
  have M := M2
  clear M2
  clear CT2 hmf
  have hm : m ≤ 1024 := by
    have h1 := HXm.out.2
    have h2 := HXt.out.2
    unfold pT at h2
    simp at h1 h2
    omega
  have HM4 : Hid (m ≤ 1024) := hm
  have HE : Hid (LL = (lens b 2 9 m).bind fun cs => hdKind b (9 + 2 * m) cs) := HE.out
  have FC0 := rlengths_is W8 rb bs b 9 m 2 M.out.rd M.out.kl (by omega) (by omega)
  have FK : Hid (∀ q, lens b 2 9 m = .ok q → (q.length = m ∧ 9 + 2 * m ≤ b.length)) := fun q hq => ⟨lens_len b 2 9 m q hq, lens_k b 2 9 m q hq M.out.kl⟩
  have FC : Hid _ := FC0
  clear FC0 hm
  generalize lens b 2 9 m = FF at *
  cases FF with
  | error er =>
    obtain ⟨ec, ea⟩ := er
    have E0 : Hid (LL = .error (ec, ea)) := HE.out
    go_wp2_with (go_at_call 94; refine Calls.mono FC.out ?_; rintro e w' ⟨rfl, hB⟩; unfold thrown rejV)
    refine ⟨rfl, ?_⟩
    rw [E0.out]
    exact ⟨rfl, M.out.but.trans hB⟩
  | ok cs =>
  have HE : Hid (LL = hdKind b (9 + 2 * m) cs) := HE.out
  have HLncs : Hid (cs.length = m ∧ 9 + 2 * m ≤ b.length) := FK.out cs rfl
  go_upto_region 10 with (go_at_call 94; refine Calls.mono FC.out ?_; rintro e w9 hQ; (obtain ⟨g9, rfl, hC9, _⟩ := LnQ.ex hQ); (have N0 := M.out.read HRG.out (LnQ.but hQ) (LnQ.rd hQ) HLncs.out.2); (have z1 : w9.cell? ⟨b3, 0, none⟩ = some (.slice none 0 0) := N0.c3.cell 0); (have z2 := N0.c3.frozen 0); (have hU9 : UL w9 (.slice (some ⟨g9, 0, none⟩) m m) cs := Or.inr ⟨g9, by rw [HLncs.out.1], hC9⟩); rw [HLncs.out.1])
  have M2 : Hid (HdM rb b2 b3 w (w9.setCell ⟨b3, 0, none⟩ (.slice (some ⟨g9, 0, none⟩) m m)) bs b (.slice (some ⟨g9, 0, none⟩) m m) (.slice none 0 0) cs [] 0 (9 + 2 * m)) := HdM.put0 N0 HRG.out hU9
  clear z1 z2 hU9 N0 hC9 hQ FC FK M
  generalize w9.setCell ⟨b3, 0, none⟩ _ = W9 at M2 ⊢
  have M := M2
  clear M2
  generalize hg9 : g9 = ga at M ⊢
  clear hg9
  have HE : Hid (LL = (fld b (9 + 2 * m) 1 53 (pK)).bind fun q => if q = 3 then hdSubs b (9 + 2 * m + 1) cs else hdEnd b (9 + 2 * m + 1) cs []) := HE.out
  have FC0 := field0_is W9 rb bs b (9 + 2 * m) 1 53 M.out.rd M.out.kl (by omega) (pK) 95 (fun _ _ => by kernel_rfl) (fun V hV => hd3_is V (rd b (9 + 2 * m) 1))
  have FK : Hid (∀ q, fld b (9 + 2 * m) 1 53 (pK) = .ok q → (9 + 2 * m + 1 ≤ b.length ∧ q = rd b (9 + 2 * m) 1 ∧ (pK) q = true)) := fun q hq => fld_k hq
  have FC : Hid _ := FC0
  clear FC0
  generalize fld b (9 + 2 * m) 1 53 (pK) = FF at *
  cases FF with
  | error er =>
    obtain ⟨ec, ea⟩ := er
    have E0 : Hid (LL = .error (ec, ea)) := HE.out
    go_wp2_with (go_at_call 91; refine Calls.mono FC.out ?_; rintro e w' ⟨rfl, hB⟩; unfold thrown rejV)
    refine ⟨rfl, ?_⟩
    rw [E0.out]
    exact ⟨rfl, M.out.but.trans hB⟩
  | ok q =>
  have HE : Hid (LL = if q = 3 then hdSubs b (9 + 2 * m + 1) cs else hdEnd b (9 + 2 * m + 1) cs []) := HE.out
  have HK : Hid (9 + 2 * m + 1 ≤ b.length ∧ q = rd b (9 + 2 * m) 1 ∧ (pK) q = true) := FK.out q rfl
  have HXq : Hid (q ≤ 65535 ∧ (pK) q = true) := ⟨by rw [HK.out.2.1]; exact rd_small HBY.out _ _ (by omega), HK.out.2.2⟩
  go_upto_region 11 with (go_at_call 91; refine Calls.mono FC.out ?_; rintro e W10 ⟨rfl, hR, hB⟩)
  have M2 : Hid (HdM rb b2 b3 w W10 bs b (.slice (some ⟨ga, 0, none⟩) m m) (.slice none 0 0) cs [] 0 (9 + 2 * m + 1)) := M.out.read HRG.out hB hR HK.out.1
  clear hR hB HK FC FK M
  have M := M2
  clear M2
  by_cases e3 : q = 3
  rotate_left
  · have HE : Hid (LL = hdEnd b (9 + 2 * m + 1) cs []) := by unfold Hid; rw [HE.out, if_neg e3]
    have q3 : ((q : Int) == 3) = false := by simp; omega
    clear e3
    go_upto_region 15 with fail
    have HE : Hid (LL = (fld b (9 + 2 * m + 1) 2 0 (fun _ => true)).bind fun d => (fld b (9 + 2 * m + 1 + 2) 1 53 (fun n => n == 0)).bind fun _ => .ok ⟨cs, [], d, 9 + 2 * m + 1 + 3⟩) := HE.out
    by_cases ec : b.length < 9 + 2 * m + 1 + 2
    · have E0 : Hid (LL = .error (50, b.length)) := by unfold Hid; rw [HE.out, fld_cut ec]; rfl
      have FC0 := number_cut W10 rb bs b (9 + 2 * m + 1) 2 M.out.rd M.out.kl (by omega) ec
      have FC : Hid _ := FC0
      clear FC0 ec HE
      go_wp2_with (go_at_call 97; refine Calls.mono FC.out ?_; rintro e w' ⟨rfl, hB⟩; unfold thrown rejV)
      refine ⟨rfl, ?_⟩
      rw [E0.out]
      exact ⟨rfl, M.out.but.trans (below_but hB)⟩
    have HE : Hid (LL = (fld b (9 + 2 * m + 1 + 2) 1 53 (fun n => n == 0)).bind fun _ => .ok ⟨cs, [], rd b (9 + 2 * m + 1) 2, 9 + 2 * m + 1 + 3⟩) := by unfold Hid; rw [HE.out, fld_ok (by omega) rfl]; rfl
    have FC0 := number_ok W10 rb bs b (9 + 2 * m + 1) 2 M.out.rd (by omega) (by omega)
    have HDL : Hid (rd b (9 + 2 * m + 1) 2 ≤ 65535) := rd_small HBY.out _ _ (by omega)
    have HK2 : Hid (9 + 2 * m + 1 + 2 ≤ b.length) := by unfold Hid; omega
    have FC : Hid _ := FC0
    clear FC0 ec
    generalize rd b (9 + 2 * m + 1) 2 = dd at *
    go_upto_region 16 with (go_at_call 97; refine Calls.mono FC.out ?_; rintro e w8 ⟨rfl, hR, hB⟩; (have N0 := M.out.read HRG.out hB hR HK2.out); (have z1 : w8.cell? ⟨b3, 2, none⟩ = some (.int .u64 0) := N0.c3.cell 2); (have z2 := N0.c3.frozen 2))
    have M2 : Hid (HdM rb b2 b3 w (w8.setCell ⟨b3, 2, none⟩ (.int .u64 (dd : Int))) bs b (.slice (some ⟨ga, 0, none⟩) m m) (.slice none 0 0) cs [] dd (9 + 2 * m + 1 + 2)) := HdM.put2 N0 HRG.out dd
    clear z1 z2 N0 hR hB FC M
    generalize w8.setCell ⟨b3, 2, none⟩ _ = Wp at M2 ⊢
    have M := M2
    clear M2
    have HE : Hid (LL = (fld b (9 + 2 * m + 1 + 2) 1 53 (fun n => n == 0)).bind fun _ => .ok ⟨cs, [], dd, 9 + 2 * m + 1 + 3⟩) := HE.out
    have FC0 := fixed_is Wp rb bs b (9 + 2 * m + 1 + 2) 0 53 M.out.rd M.out.kl
    have FK : Hid (∀ q, fld b (9 + 2 * m + 1 + 2) 1 53 (fun n => n == 0) = .ok q → 9 + 2 * m + 1 + 2 + 1 ≤ b.length) := fun q hq => (fld_k hq).1
    have FC : Hid _ := FC0
    clear FC0
    generalize fld b (9 + 2 * m + 1 + 2) 1 53 (fun n => n == 0) = FF at *
    cases FF with
    | error er =>
      obtain ⟨ec, ea⟩ := er
      have E0 : Hid (LL = .error (ec, ea)) := HE.out
      go_wp2_with (go_at_call 90; refine Calls.mono FC.out ?_; rintro e w' ⟨rfl, hB⟩; unfold thrown rejV)
      refine ⟨rfl, ?_⟩
      rw [E0.out]
      exact ⟨rfl, M.out.but.trans hB⟩
    | ok xq =>
    have HE : Hid (LL = .ok ⟨cs, [], dd, 9 + 2 * m + 1 + 3⟩) := HE.out
    have HK := FK.out xq rfl
    go_upto_region 17 with (go_at_call 90; refine Calls.mono FC.out ?_; rintro e Wfp ⟨rfl, hR, hB⟩)
    have M2 : Hid (HdM rb b2 b3 w Wfp bs b (.slice (some ⟨ga, 0, none⟩) m m) (.slice none 0 0) cs [] dd (9 + 2 * m + 1 + 2 + 1)) := M.out.read HRG.out hB hR HK
    clear hR hB HK FC FK M
    have M := M2
    clear M2
    have a0 : Wfp.cell? ⟨b3, 0, none⟩ = some (.slice (some ⟨ga, 0, none⟩) m m) := M.out.c3.cell 0
    have a1 : Wfp.cell? ⟨b3, 1, none⟩ = some (.slice none 0 0) := M.out.c3.cell 1
    have a2 : Wfp.cell? ⟨b3, 2, none⟩ = some (.int .u64 (dd : Int)) := M.out.c3.cell 2
    have k0 : Wfp.cell? ⟨b2, 0, none⟩ = some (.slice none 0 0) := M.out.c2.cell 0
    have k1 : Wfp.cell? ⟨b2, 1, none⟩ = some (.slice none 0 0) := M.out.c2.cell 1
    have k2 : Wfp.cell? ⟨b2, 2, none⟩ = some (.int .u64 0) := M.out.c2.cell 2
    have f0 := M.out.c2.frozen 0
    have f1 := M.out.c2.frozen 1
    have f2 := M.out.c2.frozen 2
    have HF : Hid (CBox (((Wfp.setCell ⟨b2, 0, none⟩ (.slice (some ⟨ga, 0, none⟩) m m)).setCell ⟨b2, 1, none⟩ (.slice none 0 0)).setCell ⟨b2, 2, none⟩ (.int .u64 (dd : Int))) b2 84 [.slice (some ⟨ga, 0, none⟩) m m, .slice none 0 0, .int .u64 (dd : Int)] ∧ UL (((Wfp.setCell ⟨b2, 0, none⟩ (.slice (some ⟨ga, 0, none⟩) m m)).setCell ⟨b2, 1, none⟩ (.slice none 0 0)).setCell ⟨b2, 2, none⟩ (.int .u64 (dd : Int))) (.slice (some ⟨ga, 0, none⟩) m m) cs ∧ UL (((Wfp.setCell ⟨b2, 0, none⟩ (.slice (some ⟨ga, 0, none⟩) m m)).setCell ⟨b2, 1, none⟩ (.slice none 0 0)).setCell ⟨b2, 2, none⟩ (.int .u64 (dd : Int))) (.slice none 0 0) [] ∧ Rdr (((Wfp.setCell ⟨b2, 0, none⟩ (.slice (some ⟨ga, 0, none⟩) m m)).setCell ⟨b2, 1, none⟩ (.slice none 0 0)).setCell ⟨b2, 2, none⟩ (.int .u64 (dd : Int))) rb bs b (9 + 2 * m + 1 + 2 + 1) ∧ RB rb w (((Wfp.setCell ⟨b2, 0, none⟩ (.slice (some ⟨ga, 0, none⟩) m m)).setCell ⟨b2, 1, none⟩ (.slice none 0 0)).setCell ⟨b2, 2, none⟩ (.int .u64 (dd : Int))) ∧ 9 + 2 * m + 1 + 2 + 1 ≤ b.length) := by
      have hs : But (fun y => y = b2) Wfp (((Wfp.setCell ⟨b2, 0, none⟩ (.slice (some ⟨ga, 0, none⟩) m m)).setCell ⟨b2, 1, none⟩ (.slice none 0 0)).setCell ⟨b2, 2, none⟩ (.int .u64 (dd : Int))) := (((But.refl (fun y => y = b2) Wfp).setCell ⟨b2, 0, none⟩ _ (Or.inl rfl)).setCell ⟨b2, 1, none⟩ _ (Or.inl rfl)).setCell ⟨b2, 2, none⟩ _ (Or.inl rfl)
      exact ⟨((M.out.c2.set 0 _).set 1 _).set 2 _, M.out.uc.but2 hs M.out.c2 (by decide), M.out.us.but2 hs M.out.c2 (by decide), M.out.rd.keep hs (fun y hy e => by have := M.out.n2; have := HRG.out; omega), ((M.out.but.setCell ⟨b2, 0, none⟩ _ (Or.inr M.out.n2)).setCell ⟨b2, 1, none⟩ _ (Or.inr M.out.n2)).setCell ⟨b2, 2, none⟩ _ (Or.inr M.out.n2), M.out.kl⟩
    clear M
    go_wp2
    clear a0 a1 a2 k0 k1 k2 f0 f1 f2
    generalize (((Wfp.setCell ⟨b2, 0, none⟩ (.slice (some ⟨ga, 0, none⟩) m m)).setCell ⟨b2, 1, none⟩ (.slice none 0 0)).setCell ⟨b2, 2, none⟩ (.int .u64 (dd : Int))) = Z9 at HF ⊢
    refine bodyPost_ret (v := .agg #[.slice (some ⟨ga, 0, none⟩) m m, .slice none 0 0, .int .u64 (dd : Int)]) (results_c (p := 2) (ty := 84) Try.results65 _ _ _ ⟨b2, 0, none⟩ rfl (run_loadVar_mid Z9 b2 0 84 [.slice (some ⟨ga, 0, none⟩) m m, .slice none 0 0, .int .u64 (dd : Int)] _ HF.out.1.range Try.underlying84 rfl (by kernel_rfl))) rfl ?_
    rw [HE.out]
    exact ⟨⟨_, _, rfl, HF.out.2.1, HF.out.2.2.1⟩, HF.out.2.2.2.1, HF.out.2.2.2.2.1, HF.out.2.2.2.2.2, HDL.out, by have := HLncs.out; have := HM4.out; (show cs.length ≤ 1024); omega, by simp⟩
  have HE : Hid (LL = hdSubs b (9 + 2 * m + 1) cs) := by unfold Hid; rw [HE.out, if_pos e3]
  subst e3
  go_upto_region 12 with fail
  have HE : Hid (LL = (fld b (9 + 2 * m + 1) 2 57 (pS)).bind fun s => (lens b 4 (9 + 2 * m + 1 + 2) s).bind fun ss => (fld b (9 + 2 * m + 1 + 2 + 4 * s) 1 53 (fun n => n == 255)).bind fun _ => hdEnd b (9 + 2 * m + 1 + 2 + 4 * s + 1) cs ss) := HE.out
  have FC0 := field0_is W10 rb bs b (9 + 2 * m + 1) 2 57 M.out.rd M.out.kl (by omega) (pS) 96 (fun _ _ => by kernel_rfl) (fun V hV => hd4_is V (rd b (9 + 2 * m + 1) 2))
  have FK : Hid (∀ q, fld b (9 + 2 * m + 1) 2 57 (pS) = .ok q → (9 + 2 * m + 1 + 2 ≤ b.length ∧ q = rd b (9 + 2 * m + 1) 2 ∧ (pS) q = true)) := fun q hq => fld_k hq
  have FC : Hid _ := FC0
  clear FC0
  generalize fld b (9 + 2 * m + 1) 2 57 (pS) = FF at *
  cases FF with
  | error er =>
    obtain ⟨ec, ea⟩ := er
    have E0 : Hid (LL = .error (ec, ea)) := HE.out
    go_wp2_with (go_at_call 91; refine Calls.mono FC.out ?_; rintro e w' ⟨rfl, hB⟩; unfold thrown rejV)
    refine ⟨rfl, ?_⟩
    rw [E0.out]
    exact ⟨rfl, M.out.but.trans hB⟩
  | ok s =>
  have HE : Hid (LL = (lens b 4 (9 + 2 * m + 1 + 2) s).bind fun ss => (fld b (9 + 2 * m + 1 + 2 + 4 * s) 1 53 (fun n => n == 255)).bind fun _ => hdEnd b (9 + 2 * m + 1 + 2 + 4 * s + 1) cs ss) := HE.out
  have HK : Hid (9 + 2 * m + 1 + 2 ≤ b.length ∧ s = rd b (9 + 2 * m + 1) 2 ∧ (pS) s = true) := FK.out s rfl
  have HXs : Hid (s ≤ 65535 ∧ (pS) s = true) := ⟨by rw [HK.out.2.1]; exact rd_small HBY.out _ _ (by omega), HK.out.2.2⟩
  go_upto_region 13 with (go_at_call 91; refine Calls.mono FC.out ?_; rintro e W12 ⟨rfl, hR, hB⟩)
  have M2 : Hid (HdM rb b2 b3 w W12 bs b (.slice (some ⟨ga, 0, none⟩) m m) (.slice none 0 0) cs [] 0 (9 + 2 * m + 1 + 2)) := M.out.read HRG.out hB hR HK.out.1
  clear hR hB HK FC FK M
  have M := M2
  clear M2
  have hs4 : s ≤ 256 := by
    have h1 := HXs.out.2
    unfold pS at h1
    simp at h1
    omega
  have HS4 : Hid (s ≤ 256) := hs4
  have FC0 := rlengths_is W12 rb bs b (9 + 2 * m + 1 + 2) s 4 M.out.rd M.out.kl (by omega) (by omega)
  have FK : Hid (∀ q, lens b 4 (9 + 2 * m + 1 + 2) s = .ok q → (q.length = s ∧ 9 + 2 * m + 1 + 2 + 4 * s ≤ b.length)) := fun q hq => ⟨lens_len b 4 _ s q hq, lens_k b 4 _ s q hq M.out.kl⟩
  have FC : Hid _ := FC0
  clear FC0 hs4
  generalize lens b 4 (9 + 2 * m + 1 + 2) s = FF at *
  cases FF with
  | error er =>
    obtain ⟨ec, ea⟩ := er
    have E0 : Hid (LL = .error (ec, ea)) := HE.out
    go_wp2_with (go_at_call 94; refine Calls.mono FC.out ?_; rintro e w' ⟨rfl, hB⟩; unfold thrown rejV)
    refine ⟨rfl, ?_⟩
    rw [E0.out]
    exact ⟨rfl, M.out.but.trans hB⟩
  | ok ss =>
  have HE : Hid (LL = (fld b (9 + 2 * m + 1 + 2 + 4 * s) 1 53 (fun n => n == 255)).bind fun _ => hdEnd b (9 + 2 * m + 1 + 2 + 4 * s + 1) cs ss) := HE.out
  have HLnss : Hid (ss.length = s ∧ 9 + 2 * m + 1 + 2 + 4 * s ≤ b.length) := FK.out ss rfl
  go_upto_region 14 with (go_at_call 94; refine Calls.mono FC.out ?_; rintro e w9 hQ; (obtain ⟨g9, rfl, hC9, _⟩ := LnQ.ex hQ); (have N0 := M.out.read HRG.out (LnQ.but hQ) (LnQ.rd hQ) HLnss.out.2); (have z1 : w9.cell? ⟨b3, 1, none⟩ = some (.slice none 0 0) := N0.c3.cell 1); (have z2 := N0.c3.frozen 1); (have hU9 : UL w9 (.slice (some ⟨g9, 0, none⟩) s s) ss := Or.inr ⟨g9, by rw [HLnss.out.1], hC9⟩); rw [HLnss.out.1])
  have M2 : Hid (HdM rb b2 b3 w (w9.setCell ⟨b3, 1, none⟩ (.slice (some ⟨g9, 0, none⟩) s s)) bs b (.slice (some ⟨ga, 0, none⟩) m m) (.slice (some ⟨g9, 0, none⟩) s s) cs ss 0 (9 + 2 * m + 1 + 2 + 4 * s)) := HdM.put1 N0 HRG.out hU9
  clear z1 z2 hU9 N0 hC9 hQ FC FK M
  generalize w9.setCell ⟨b3, 1, none⟩ _ = W13 at M2 ⊢
  have M := M2
  clear M2
  generalize hg9 : g9 = gc at M ⊢
  clear hg9
  have HE : Hid (LL = (fld b (9 + 2 * m + 1 + 2 + 4 * s) 1 53 (fun n => n == 255)).bind fun _ => hdEnd b (9 + 2 * m + 1 + 2 + 4 * s + 1) cs ss) := HE.out
  have FC0 := fixed_is W13 rb bs b (9 + 2 * m + 1 + 2 + 4 * s) 255 53 M.out.rd M.out.kl
  have FK : Hid (∀ q, fld b (9 + 2 * m + 1 + 2 + 4 * s) 1 53 (fun n => n == 255) = .ok q → 9 + 2 * m + 1 + 2 + 4 * s + 1 ≤ b.length) := fun q hq => (fld_k hq).1
  have FC : Hid _ := FC0
  clear FC0
  generalize fld b (9 + 2 * m + 1 + 2 + 4 * s) 1 53 (fun n => n == 255) = FF at *
  cases FF with
  | error er =>
    obtain ⟨ec, ea⟩ := er
    have E0 : Hid (LL = .error (ec, ea)) := HE.out
    go_wp2_with (go_at_call 90; refine Calls.mono FC.out ?_; rintro e w' ⟨rfl, hB⟩; unfold thrown rejV)
    refine ⟨rfl, ?_⟩
    rw [E0.out]
    exact ⟨rfl, M.out.but.trans hB⟩
  | ok xq =>
  have HE : Hid (LL = hdEnd b (9 + 2 * m + 1 + 2 + 4 * s + 1) cs ss) := HE.out
  have HK := FK.out xq rfl
  go_upto_region 15 with (go_at_call 90; refine Calls.mono FC.out ?_; rintro e W14 ⟨rfl, hR, hB⟩)
  have M2 : Hid (HdM rb b2 b3 w W14 bs b (.slice (some ⟨ga, 0, none⟩) m m) (.slice (some ⟨gc, 0, none⟩) s s) cs ss 0 (9 + 2 * m + 1 + 2 + 4 * s + 1)) := M.out.read HRG.out hB hR HK
  clear hR hB HK FC FK M
  have M := M2
  clear M2
  have HE : Hid (LL = (fld b (9 + 2 * m + 1 + 2 + 4 * s + 1) 2 0 (fun _ => true)).bind fun d => (fld b (9 + 2 * m + 1 + 2 + 4 * s + 1 + 2) 1 53 (fun n => n == 0)).bind fun _ => .ok ⟨cs, ss, d, 9 + 2 * m + 1 + 2 + 4 * s + 1 + 3⟩) := HE.out
  by_cases ec : b.length < 9 + 2 * m + 1 + 2 + 4 * s + 1 + 2
  · have E0 : Hid (LL = .error (50, b.length)) := by unfold Hid; rw [HE.out, fld_cut ec]; rfl
    have FC0 := number_cut W14 rb bs b (9 + 2 * m + 1 + 2 + 4 * s + 1) 2 M.out.rd M.out.kl (by omega) ec
    have FC : Hid _ := FC0
    clear FC0 ec HE
    go_wp2_with (go_at_call 97; refine Calls.mono FC.out ?_; rintro e w' ⟨rfl, hB⟩; unfold thrown rejV)
    refine ⟨rfl, ?_⟩
    rw [E0.out]
    exact ⟨rfl, M.out.but.trans (below_but hB)⟩
  have HE : Hid (LL = (fld b (9 + 2 * m + 1 + 2 + 4 * s + 1 + 2) 1 53 (fun n => n == 0)).bind fun _ => .ok ⟨cs, ss, rd b (9 + 2 * m + 1 + 2 + 4 * s + 1) 2, 9 + 2 * m + 1 + 2 + 4 * s + 1 + 3⟩) := by unfold Hid; rw [HE.out, fld_ok (by omega) rfl]; rfl
  have FC0 := number_ok W14 rb bs b (9 + 2 * m + 1 + 2 + 4 * s + 1) 2 M.out.rd (by omega) (by omega)
  have HDL : Hid (rd b (9 + 2 * m + 1 + 2 + 4 * s + 1) 2 ≤ 65535) := rd_small HBY.out _ _ (by omega)
  have HK2 : Hid (9 + 2 * m + 1 + 2 + 4 * s + 1 + 2 ≤ b.length) := by unfold Hid; omega
  have FC : Hid _ := FC0
  clear FC0 ec
  generalize rd b (9 + 2 * m + 1 + 2 + 4 * s + 1) 2 = dd at *
  go_upto_region 16 with (go_at_call 97; refine Calls.mono FC.out ?_; rintro e w8 ⟨rfl, hR, hB⟩; (have N0 := M.out.read HRG.out hB hR HK2.out); (have z1 : w8.cell? ⟨b3, 2, none⟩ = some (.int .u64 0) := N0.c3.cell 2); (have z2 := N0.c3.frozen 2))
  have M2 : Hid (HdM rb b2 b3 w (w8.setCell ⟨b3, 2, none⟩ (.int .u64 (dd : Int))) bs b (.slice (some ⟨ga, 0, none⟩) m m) (.slice (some ⟨gc, 0, none⟩) s s) cs ss dd (9 + 2 * m + 1 + 2 + 4 * s + 1 + 2)) := HdM.put2 N0 HRG.out dd
  clear z1 z2 N0 hR hB FC M
  generalize w8.setCell ⟨b3, 2, none⟩ _ = Wr at M2 ⊢
  have M := M2
  clear M2
  have HE : Hid (LL = (fld b (9 + 2 * m + 1 + 2 + 4 * s + 1 + 2) 1 53 (fun n => n == 0)).bind fun _ => .ok ⟨cs, ss, dd, 9 + 2 * m + 1 + 2 + 4 * s + 1 + 3⟩) := HE.out
  have FC0 := fixed_is Wr rb bs b (9 + 2 * m + 1 + 2 + 4 * s + 1 + 2) 0 53 M.out.rd M.out.kl
  have FK : Hid (∀ q, fld b (9 + 2 * m + 1 + 2 + 4 * s + 1 + 2) 1 53 (fun n => n == 0) = .ok q → 9 + 2 * m + 1 + 2 + 4 * s + 1 + 2 + 1 ≤ b.length) := fun q hq => (fld_k hq).1
  have FC : Hid _ := FC0
  clear FC0
  generalize fld b (9 + 2 * m + 1 + 2 + 4 * s + 1 + 2) 1 53 (fun n => n == 0) = FF at *
  cases FF with
  | error er =>
    obtain ⟨ec, ea⟩ := er
    have E0 : Hid (LL = .error (ec, ea)) := HE.out
    go_wp2_with (go_at_call 90; refine Calls.mono FC.out ?_; rintro e w' ⟨rfl, hB⟩; unfold thrown rejV)
    refine ⟨rfl, ?_⟩
    rw [E0.out]
    exact ⟨rfl, M.out.but.trans hB⟩
  | ok xq =>
  have HE : Hid (LL = .ok ⟨cs, ss, dd, 9 + 2 * m + 1 + 2 + 4 * s + 1 + 3⟩) := HE.out
  have HK := FK.out xq rfl
  go_upto_region 17 with (go_at_call 90; refine Calls.mono FC.out ?_; rintro e Wfr ⟨rfl, hR, hB⟩)
  have M2 : Hid (HdM rb b2 b3 w Wfr bs b (.slice (some ⟨ga, 0, none⟩) m m) (.slice (some ⟨gc, 0, none⟩) s s) cs ss dd (9 + 2 * m + 1 + 2 + 4 * s + 1 + 2 + 1)) := M.out.read HRG.out hB hR HK
  clear hR hB HK FC FK M
  have M := M2
  clear M2
  have a0 : Wfr.cell? ⟨b3, 0, none⟩ = some (.slice (some ⟨ga, 0, none⟩) m m) := M.out.c3.cell 0
  have a1 : Wfr.cell? ⟨b3, 1, none⟩ = some (.slice (some ⟨gc, 0, none⟩) s s) := M.out.c3.cell 1
  have a2 : Wfr.cell? ⟨b3, 2, none⟩ = some (.int .u64 (dd : Int)) := M.out.c3.cell 2
  have k0 : Wfr.cell? ⟨b2, 0, none⟩ = some (.slice none 0 0) := M.out.c2.cell 0
  have k1 : Wfr.cell? ⟨b2, 1, none⟩ = some (.slice none 0 0) := M.out.c2.cell 1
  have k2 : Wfr.cell? ⟨b2, 2, none⟩ = some (.int .u64 0) := M.out.c2.cell 2
  have f0 := M.out.c2.frozen 0
  have f1 := M.out.c2.frozen 1
  have f2 := M.out.c2.frozen 2
  have HF : Hid (CBox (((Wfr.setCell ⟨b2, 0, none⟩ (.slice (some ⟨ga, 0, none⟩) m m)).setCell ⟨b2, 1, none⟩ (.slice (some ⟨gc, 0, none⟩) s s)).setCell ⟨b2, 2, none⟩ (.int .u64 (dd : Int))) b2 84 [.slice (some ⟨ga, 0, none⟩) m m, .slice (some ⟨gc, 0, none⟩) s s, .int .u64 (dd : Int)] ∧ UL (((Wfr.setCell ⟨b2, 0, none⟩ (.slice (some ⟨ga, 0, none⟩) m m)).setCell ⟨b2, 1, none⟩ (.slice (some ⟨gc, 0, none⟩) s s)).setCell ⟨b2, 2, none⟩ (.int .u64 (dd : Int))) (.slice (some ⟨ga, 0, none⟩) m m) cs ∧ UL (((Wfr.setCell ⟨b2, 0, none⟩ (.slice (some ⟨ga, 0, none⟩) m m)).setCell ⟨b2, 1, none⟩ (.slice (some ⟨gc, 0, none⟩) s s)).setCell ⟨b2, 2, none⟩ (.int .u64 (dd : Int))) (.slice (some ⟨gc, 0, none⟩) s s) ss ∧ Rdr (((Wfr.setCell ⟨b2, 0, none⟩ (.slice (some ⟨ga, 0, none⟩) m m)).setCell ⟨b2, 1, none⟩ (.slice (some ⟨gc, 0, none⟩) s s)).setCell ⟨b2, 2, none⟩ (.int .u64 (dd : Int))) rb bs b (9 + 2 * m + 1 + 2 + 4 * s + 1 + 2 + 1) ∧ RB rb w (((Wfr.setCell ⟨b2, 0, none⟩ (.slice (some ⟨ga, 0, none⟩) m m)).setCell ⟨b2, 1, none⟩ (.slice (some ⟨gc, 0, none⟩) s s)).setCell ⟨b2, 2, none⟩ (.int .u64 (dd : Int))) ∧ 9 + 2 * m + 1 + 2 + 4 * s + 1 + 2 + 1 ≤ b.length) := by
    have hs : But (fun y => y = b2) Wfr (((Wfr.setCell ⟨b2, 0, none⟩ (.slice (some ⟨ga, 0, none⟩) m m)).setCell ⟨b2, 1, none⟩ (.slice (some ⟨gc, 0, none⟩) s s)).setCell ⟨b2, 2, none⟩ (.int .u64 (dd : Int))) := (((But.refl (fun y => y = b2) Wfr).setCell ⟨b2, 0, none⟩ _ (Or.inl rfl)).setCell ⟨b2, 1, none⟩ _ (Or.inl rfl)).setCell ⟨b2, 2, none⟩ _ (Or.inl rfl)
    exact ⟨((M.out.c2.set 0 _).set 1 _).set 2 _, M.out.uc.but2 hs M.out.c2 (by decide), M.out.us.but2 hs M.out.c2 (by decide), M.out.rd.keep hs (fun y hy e => by have := M.out.n2; have := HRG.out; omega), ((M.out.but.setCell ⟨b2, 0, none⟩ _ (Or.inr M.out.n2)).setCell ⟨b2, 1, none⟩ _ (Or.inr M.out.n2)).setCell ⟨b2, 2, none⟩ _ (Or.inr M.out.n2), M.out.kl⟩
  clear M
  go_wp2
  clear a0 a1 a2 k0 k1 k2 f0 f1 f2
  generalize (((Wfr.setCell ⟨b2, 0, none⟩ (.slice (some ⟨ga, 0, none⟩) m m)).setCell ⟨b2, 1, none⟩ (.slice (some ⟨gc, 0, none⟩) s s)).setCell ⟨b2, 2, none⟩ (.int .u64 (dd : Int))) = Z9 at HF ⊢
  refine bodyPost_ret (v := .agg #[.slice (some ⟨ga, 0, none⟩) m m, .slice (some ⟨gc, 0, none⟩) s s, .int .u64 (dd : Int)]) (results_c (p := 2) (ty := 84) Try.results65 _ _ _ ⟨b2, 0, none⟩ rfl (run_loadVar_mid Z9 b2 0 84 [.slice (some ⟨ga, 0, none⟩) m m, .slice (some ⟨gc, 0, none⟩) s s, .int .u64 (dd : Int)] _ HF.out.1.range Try.underlying84 rfl (by kernel_rfl))) rfl ?_
  rw [HE.out]
  exact ⟨⟨_, _, rfl, HF.out.2.1, HF.out.2.2.1⟩, HF.out.2.2.2.1, HF.out.2.2.2.2.1, HF.out.2.2.2.2.2, HDL.out, by have := HLncs.out; have := HM4.out; (show cs.length ≤ 1024); omega, by have := HLnss.out; have := HS4.out; (show ss.length ≤ 256); omega⟩
end Go.Proofs.Ytndhabhlajldeaa
