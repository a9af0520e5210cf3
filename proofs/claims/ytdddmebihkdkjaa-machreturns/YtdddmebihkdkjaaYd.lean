/- MachReturns: two return stacks of each kind. -/
import Derived.Test.YtdddmebihkdkjaaYc
import Derived.Test.YtdddmebihkdkjaaQr
namespace Go.Proofs.Ytdddmebihkdkjaa
open Go.RowKit
theorem ptp0 (a b : Int) (W : World) : Sem.run Try.prog (part 3 #[.int .i64 a, .int .i64 b] 0) W = .ok (.int .i64 a) W := by kernel_rfl
theorem ptp1 (a b : Int) (W : World) : Sem.run Try.prog (part 3 #[.int .i64 a, .int .i64 b] 1) W = .ok (.int .i64 b) W := by kernel_rfl
theorem eqI_self (x : Int) (W : World) : Sem.run Try.prog (Op.equalIn 9999 3 (.int .i64 x) (.int .i64 x)) W = .ok true W := by
  have := eqI_run 9998 x x W; simpa using this
set_option maxRecDepth 100000 in
theorem eqp_self (a b : Int) (W : World) : Sem.run Try.prog (Op.equalIn 10000 44 (.agg #[.int .i64 a, .int .i64 b]) (.agg #[.int .i64 a, .int .i64 b])) W = .ok true W := by
  rw [show (10000 : Nat) = 9998 + 1 + 1 from rfl, Op.equalIn]
  simp only [Sem.run_bind, run_underlying Try.underlying44, Result.andThen_ok]
  simp [eqI_self, ptp0, ptp1]
def upd {α : Type} (f : Nat → α) (k : Nat) (x : α) : Nat → α := fun i => if i = k then x else f i
theorem upd_same {α : Type} (f : Nat → α) (k : Nat) (x : α) : upd f k x k = x := by unfold upd; rw [if_pos rfl]
theorem upd_other {α : Type} (f : Nat → α) (k i : Nat) (x : α) (h : i ≠ k) : upd f k x i = f i := by unfold upd; rw [if_neg h]
structure RT (w W : World) (br bd : Nat) (b c : Nat → Nat) (zb : Nat) (f g : Nat → PRing) (n m : Nat → Int) : Prop where
  s : ∀ k, k < 2 → Rtn W (b k) 0 2048 (f k) (n k)
  r : ∀ k, k < 2 → Rtn W (c k) 1 0 (g k) (m k)
  pb : ∀ k, k < 2 → W.cell? ⟨br, k, none⟩ = some (.pointer (some ⟨b k, 0, none⟩))
  pc : ∀ k, k < 2 → W.cell? ⟨bd, k, none⟩ = some (.pointer (some ⟨c k, 0, none⟩))
  z : Rtn W zb 0 2048 pring0 0
  nb : ∀ i k, i < 2 → k < 2 → i ≠ k → b i ≠ b k ∧ c i ≠ c k
  nc : ∀ i k, i < 2 → k < 2 → b i ≠ c k
  nz : ∀ i, i < 2 → (zb ≠ b i ∧ zb ≠ c i) ∧ (br ≠ b i ∧ br ≠ c i) ∧ bd ≠ b i ∧ bd ≠ c i
  ge : ∀ i, i < 2 → w.heap.size ≤ b i ∧ w.heap.size ≤ c i
  gz : w.heap.size ≤ zb
  bel : Below w.heap.size w W
theorem RT.callS {w W W' : World} {br bd zb : Nat} {b c : Nat → Nat} {f g : Nat → PRing} {n m : Nat → Int} (h : RT w W br bd b c zb f g n m) (k : Nat) (hk : k < 2) {f' : PRing} {n' : Int} (hs : Rtn W' (b k) 0 2048 f' n') (o : Only (b k) W W') : RT w W' br bd b c zb (upd f k f') g (upd n k n') m := by
  refine ⟨fun i hi => ?_, fun i hi => (h.r i hi).only o (h.nc k i hk hi).symm, fun i hi => (o.cell (p := ⟨br, i, none⟩) (World.block_lt_of_cell? W _ (h.pb i hi)) (h.nz k hk).2.1.1).trans (h.pb i hi), fun i hi => (o.cell (p := ⟨bd, i, none⟩) (World.block_lt_of_cell? W _ (h.pc i hi)) (h.nz k hk).2.2.1).trans (h.pc i hi), h.z.only o (h.nz k hk).1.1, h.nb, h.nc, h.nz, h.ge, h.gz, h.bel.trans (o.below (h.ge k hk).1 h.bel.size)⟩
  by_cases e : i = k
  · subst e; rw [upd_same, upd_same]; exact hs
  · rw [upd_other _ _ _ _ e, upd_other _ _ _ _ e]; exact (h.s i hi).only o (h.nb i k hi hk e).1
theorem RT.callR {w W W' : World} {br bd zb : Nat} {b c : Nat → Nat} {f g : Nat → PRing} {n m : Nat → Int} (h : RT w W br bd b c zb f g n m) (k : Nat) (hk : k < 2) {g' : PRing} {m' : Int} (hs : Rtn W' (c k) 1 0 g' m') (o : Only (c k) W W') : RT w W' br bd b c zb f (upd g k g') n (upd m k m') := by
  refine ⟨fun i hi => (h.s i hi).only o (h.nc i k hi hk), fun i hi => ?_, fun i hi => (o.cell (p := ⟨br, i, none⟩) (World.block_lt_of_cell? W _ (h.pb i hi)) (h.nz k hk).2.1.2).trans (h.pb i hi), fun i hi => (o.cell (p := ⟨bd, i, none⟩) (World.block_lt_of_cell? W _ (h.pc i hi)) (h.nz k hk).2.2.2).trans (h.pc i hi), h.z.only o (h.nz k hk).1.2, h.nb, h.nc, h.nz, h.ge, h.gz, h.bel.trans (o.below (h.ge k hk).2 h.bel.size)⟩
  by_cases e : i = k
  · subst e; rw [upd_same, upd_same]; exact hs
  · rw [upd_other _ _ _ _ e, upd_other _ _ _ _ e]; exact (h.r i hi).only o (h.nb i k hi hk e).2
theorem RT.past {w W W' : World} {br bd zb : Nat} {b c : Nat → Nat} {f g : Nat → PRing} {n m : Nat → Int} (h : RT w W br bd b c zb f g n m) (k : Below W.heap.size W W') : RT w W' br bd b c zb f g n m :=
  ⟨fun i hi => (h.s i hi).past k, fun i hi => (h.r i hi).past k, fun i hi => (k.cell (p := ⟨br, i, none⟩) (World.block_lt_of_cell? W _ (h.pb i hi))).trans (h.pb i hi), fun i hi => (k.cell (p := ⟨bd, i, none⟩) (World.block_lt_of_cell? W _ (h.pc i hi))).trans (h.pc i hi), h.z.past k, h.nb, h.nc, h.nz, h.ge, h.gz, h.bel.trans (k.mono h.bel.size)⟩
/-- a block that is none of the stacks -/
def Out_ (b c : Nat → Nat) (x : Nat) : Prop := ∀ i, i < 2 → x ≠ b i ∧ x ≠ c i
theorem RT.new {w W : World} {br bd zb : Nat} {b c : Nat → Nat} {f g : Nat → PRing} {n m : Nat → Int} (h : RT w W br bd b c zb f g n m) : Out_ b c W.heap.size := fun i hi => by have h1 := (h.s i hi).lt; have h2 := (h.r i hi).lt; omega
theorem pick2 {α : Type} (f : Nat → α) (x0 x1 : α) (h0 : f 0 = x0) (h1 : f 1 = x1) (P : Nat → α → Prop) (p0 : P 0 x0) (p1 : P 1 x1) : ∀ k, k < 2 → P k (f k) := fun k hk => by
  obtain rfl | rfl : k = 0 ∨ k = 1 := by omega
  · rw [h0]; exact p0
  · rw [h1]; exact p1
def two (x0 x1 : Nat) : Nat → Nat := fun i => if i = 0 then x0 else x1
def ptrO (t : TypeId) (x0 x1 : Nat) : Obj := .cells #[.pointer (some ⟨x0, 0, none⟩), .pointer (some ⟨x1, 0, none⟩)] t
theorem ptrO_at (w : World) (t : TypeId) (x0 x1 : Nat) : ∀ k, k < 2 → (w.alloc (ptrO t x0 x1)).cell? ⟨w.heap.size, k, none⟩ = some (.pointer (some ⟨two x0 x1 k, 0, none⟩)) := fun k hk => by
  unfold ptrO; rw [World.cell?_alloc_at _ _ _ _ rfl]
  obtain rfl | rfl : k = 0 ∨ k = 1 := by omega
  · rfl
  · rfl
theorem RT.start {w v1 v2 v3 v4 v5 v6 v7 : World} {t t' : TypeId} (N1 : NewRtn w v1 0 2048) (N2 : NewRtn v1 v2 0 2048) (e3 : v3 = v2.alloc (ptrO t w.heap.size v1.heap.size)) (N3 : NewRtn v3 v4 1 0) (N4 : NewRtn v4 v5 1 0) (e6 : v6 = v5.alloc (ptrO t' v3.heap.size v4.heap.size)) (N5 : NewRtn v6 v7 0 2048) :
    RT w v7 v2.heap.size v5.heap.size (two w.heap.size v1.heap.size) (two v3.heap.size v4.heap.size) v6.heap.size (fun _ => pring0) (fun _ => pring0) (fun _ => 0) (fun _ => 0) := by
  have s1 := N1.siz
  have s2 := N2.siz
  have s3 := N3.siz
  have s4 := N4.siz
  have s5 := N5.siz
  have z3 : v3.heap.size = v2.heap.size + 1 := by rw [e3]; simp
  have z6 : v6.heap.size = v5.heap.size + 1 := by rw [e6]; simp
  have a2 : Below v2.heap.size v2 v3 := by rw [e3]; exact (Below.refl _ _).alloc (Nat.le_refl _) _
  have a5 : Below v5.heap.size v5 v6 := by rw [e6]; exact (Below.refl _ _).alloc (Nat.le_refl _) _
  have pr := ptrO_at v2 t w.heap.size v1.heap.size
  have pd := ptrO_at v5 t' v3.heap.size v4.heap.size
  rw [← e3] at pr
  rw [← e6] at pd
  have b57 : Below v5.heap.size v5 v7 := a5.trans (N5.bel.mono a5.size)
  have b47 : Below v4.heap.size v4 v7 := N4.bel.trans (b57.mono (by omega))
  have b37 : Below v3.heap.size v3 v7 := N3.bel.trans (b47.mono (by omega))
  have b27 : Below v2.heap.size v2 v7 := a2.trans (b37.mono (by omega))
  have b17 : Below v1.heap.size v1 v7 := N2.bel.trans (b27.mono (by omega))
  have b07 : Below w.heap.size w v7 := N1.bel.trans (b17.mono (by omega))
  refine ⟨fun k hk => ?_, fun k hk => ?_, fun k hk => ?_, fun k hk => ?_, N5.st, fun i k hi hk hn => ?_, fun i k hi hk => ?_, fun i hi => ?_, fun i hi => ?_, by omega, b07⟩
  · obtain rfl | rfl : k = 0 ∨ k = 1 := by omega
    · exact N1.st.past b17
    · exact N2.st.past b27
  · obtain rfl | rfl : k = 0 ∨ k = 1 := by omega
    · exact N3.st.past b47
    · exact N4.st.past b57
  · exact (b37.cell (p := ⟨v2.heap.size, k, none⟩) (by show v2.heap.size < _; omega)).trans (pr k hk)
  · exact (N5.bel.cell (p := ⟨v5.heap.size, k, none⟩) (by show v5.heap.size < _; omega)).trans (pd k hk)
  · unfold two
    obtain rfl | rfl : i = 0 ∨ i = 1 := by omega
    · obtain rfl | rfl : k = 0 ∨ k = 1 := by omega
      · exact absurd rfl hn
      · simp; omega
    · obtain rfl | rfl : k = 0 ∨ k = 1 := by omega
      · simp; omega
      · exact absurd rfl hn
  · unfold two
    obtain rfl | rfl : i = 0 ∨ i = 1 := by omega
    · obtain rfl | rfl : k = 0 ∨ k = 1 := by omega
      · simp; omega
      · simp; omega
    · obtain rfl | rfl : k = 0 ∨ k = 1 := by omega
      · simp; omega
      · simp; omega
  · unfold two
    obtain rfl | rfl : i = 0 ∨ i = 1 := by omega
    · simp; omega
    · simp; omega
  · unfold two
    obtain rfl | rfl : i = 0 ∨ i = 1 := by omega
    · simp; omega
    · simp; omega
/-- the stacks, the step's box and the place's box -/
structure RI (w W : World) (br bd : Nat) (b c : Nat → Nat) (zb : Nat) (f g : Nat → PRing) (n m : Nat → Int) (ob : Nat) (op : OpR) (xb : Nat) (x : P2) : Prop where
  t : RT w W br bd b c zb f g n m
  o : OpAt W ob 0 op
  p : Pd W xb 0 x
  oo : Out_ b c ob
  xo : Out_ b c xb
theorem RI.callS {w W W' : World} {br bd zb ob xb : Nat} {op : OpR} {x : P2} {b c : Nat → Nat} {f g : Nat → PRing} {n m : Nat → Int} (h : RI w W br bd b c zb f g n m ob op xb x) (k : Nat) (hk : k < 2) {f' : PRing} {n' : Int} (hs : Rtn W' (b k) 0 2048 f' n') (o : Only (b k) W W') : RI w W' br bd b c zb (upd f k f') g (upd n k n') m ob op xb x :=
  ⟨h.t.callS k hk hs o, h.o.only o (h.oo k hk).1, h.p.only o (h.xo k hk).1, h.oo, h.xo⟩
theorem RI.callR {w W W' : World} {br bd zb ob xb : Nat} {op : OpR} {x : P2} {b c : Nat → Nat} {f g : Nat → PRing} {n m : Nat → Int} (h : RI w W br bd b c zb f g n m ob op xb x) (k : Nat) (hk : k < 2) {g' : PRing} {m' : Int} (hs : Rtn W' (c k) 1 0 g' m') (o : Only (c k) W W') : RI w W' br bd b c zb f (upd g k g') n (upd m k m') ob op xb x :=
  ⟨h.t.callR k hk hs o, h.o.only o (h.oo k hk).2, h.p.only o (h.xo k hk).2, h.oo, h.xo⟩
theorem RI.past {w W W' : World} {br bd zb ob xb : Nat} {op : OpR} {x : P2} {b c : Nat → Nat} {f g : Nat → PRing} {n m : Nat → Int} (h : RI w W br bd b c zb f g n m ob op xb x) (k : Below W.heap.size W W') : RI w W' br bd b c zb f g n m ob op xb x := ⟨h.t.past k, h.o.past k, h.p.past k, h.oo, h.xo⟩
theorem RI.drew {w W : World} {br bd zb ob xb : Nat} {op : OpR} {x : P2} {b c : Nat → Nat} {f g : Nat → PRing} {n m : Nat → Int} (h : RI w W br bd b c zb f g n m ob op xb x) : RI w W.drew br bd b c zb f g n m ob op xb x := h.past ((Below.refl _ _).drew)
theorem RI.alloc {w W : World} {br bd zb ob xb : Nat} {op : OpR} {x : P2} {b c : Nat → Nat} {f g : Nat → PRing} {n m : Nat → Int} (h : RI w W br bd b c zb f g n m ob op xb x) (q : Obj) : RI w (W.alloc q) br bd b c zb f g n m ob op xb x := h.past ((Below.refl _ _).alloc (Nat.le_refl _) q)
def SB (W : World) (br bd kk bk ck xb : Nat) (x : P2) : Prop := W.cell? ⟨br, kk, none⟩ = some (.pointer (some ⟨bk, 0, none⟩)) ∧ W.cell? ⟨bd, kk, none⟩ = some (.pointer (some ⟨ck, 0, none⟩)) ∧ Pd W xb 0 x
theorem RI.sb {w W : World} {br bd zb ob xb : Nat} {op : OpR} {x : P2} {b c : Nat → Nat} {f g : Nat → PRing} {n m : Nat → Int} (h : RI w W br bd b c zb f g n m ob op xb x) {k : Nat} (hk : k < 2) : SB W br bd k (b k) (c k) xb x := ⟨h.t.pb k hk, h.t.pc k hk, h.p⟩
theorem RI.sb2 {w W : World} {br bd zb ob xb yb : Nat} {op : OpR} {x y : P2} {b c : Nat → Nat} {f g : Nat → PRing} {n m : Nat → Int} (h : RI w W br bd b c zb f g n m ob op xb x) {k : Nat} (hk : k < 2) (hy : Pd W yb 0 y) : SB W br bd k (b k) (c k) yb y := ⟨h.t.pb k hk, h.t.pc k hk, hy⟩
def S4 (W : World) (br bd b0 b1 c0 c1 : Nat) : Prop := (W.cell? ⟨br, 0, none⟩ = some (.pointer (some ⟨b0, 0, none⟩)) ∧ W.cell? ⟨br, 1, none⟩ = some (.pointer (some ⟨b1, 0, none⟩))) ∧ W.cell? ⟨bd, 0, none⟩ = some (.pointer (some ⟨c0, 0, none⟩)) ∧ W.cell? ⟨bd, 1, none⟩ = some (.pointer (some ⟨c1, 0, none⟩))
theorem RT.s4 {w W : World} {br bd zb : Nat} {b c : Nat → Nat} {f g : Nat → PRing} {n m : Nat → Int} (h : RT w W br bd b c zb f g n m) : S4 W br bd (b 0) (b 1) (c 0) (c 1) := ⟨⟨h.pb 0 (by omega), h.pb 1 (by omega)⟩, h.pc 0 (by omega), h.pc 1 (by omega)⟩
theorem push29 : pPush pring0 0 ⟨2, 9⟩ = ⟨0, pput pring0 0 ⟨2, 9⟩, 1⟩ := by
  unfold pPush; rw [if_neg (by decide)]
  have h1 : pl 0 = 0 := by decide
  have h2 : wrap64 (0 + 1) = 1 := wrap_up (by omega) (by omega)
  rw [h1, h2]
theorem take29 : pput pring0 0 ⟨2, 9⟩ (pl (1 - 1)) = ⟨2, 9⟩ := by
  have h1 : pl (1 - 1) = 0 := by decide
  rw [h1]; rfl
def isMany (kd : Int) : Bool := kd == 13 || kd == 14 || kd == 15
set_option maxHeartbeats 8000000 in
set_option maxRecDepth 100000 in
theorem machReturns_walk (w : World) (v : Value) (n0 : Nat) (os : Nat → OpR) (hv : OpsAt w v n0 os) (hn0 : n0 ≤ 1099511627776) : Calls Try.prog 4 #[v] w fun e w' => e = .returned (.bool true) ∧ Below w.heap.size w w' := by
  obtain ⟨ad, cap, rfl, hv⟩ := hv
  have HV : Hid _ := hv
  have nI : (n0 : Int) ≤ 1099511627776 := by omega
  clear hv
  go_enter Try.func4, Try.ntmps4
  go_upto_region 2 with (first | (go_at_call 13; refine (newRtn_is w).mono ?_; rintro e v1 ⟨rfl, hN⟩; (have N1 : Hid (NewRtn w v1 0 2048) := hN); clear hN) | (go_at_call 13; refine (newRtn_is v1).mono ?_; rintro e v2 ⟨rfl, hN⟩; (have N2 : Hid (NewRtn v1 v2 0 2048) := hN); clear hN))
  obtain ⟨v3, ev3⟩ : ∃ v3, v3 = v2.alloc (ptrO 39 w.heap.size v1.heap.size) := ⟨_, rfl⟩
  change Code.wp _ _ _ _ (v2.alloc (ptrO 39 w.heap.size v1.heap.size))
  rw [← ev3]
  have E3 : Hid (v3 = v2.alloc (ptrO 39 w.heap.size v1.heap.size)) := ev3
  clear ev3
  go_upto_region 3 with (first | (go_at_call 14; refine (newRtnR_is v3).mono ?_; rintro e v4 ⟨rfl, hN⟩; (have N3 : Hid (NewRtn v3 v4 1 0) := hN); clear hN) | (go_at_call 14; refine (newRtnR_is v4).mono ?_; rintro e v5 ⟨rfl, hN⟩; (have N4 : Hid (NewRtn v4 v5 1 0) := hN); clear hN))
  obtain ⟨v6, ev6⟩ : ∃ v6, v6 = v5.alloc (ptrO 42 v3.heap.size v4.heap.size) := ⟨_, rfl⟩
  change Code.wp _ _ _ _ (v5.alloc (ptrO 42 v3.heap.size v4.heap.size))
  rw [← ev6]
  have E6 : Hid (v6 = v5.alloc (ptrO 42 v3.heap.size v4.heap.size)) := ev6
  clear ev6
  go_upto_region 4 with (go_at_call 13; refine (newRtn_is v6).mono ?_; rintro e v7 ⟨rfl, hN⟩; (have N5 : Hid (NewRtn v6 v7 0 2048) := hN); clear hN)
  have R0 : Hid (RT w v7 v2.heap.size v5.heap.size (two w.heap.size v1.heap.size) (two v3.heap.size v4.heap.size) v6.heap.size (fun _ => pring0) (fun _ => pring0) (fun _ => 0) (fun _ => 0)) := RT.start N1.out N2.out E3.out N3.out N4.out E6.out N5.out
  clear N1 N2 N3 N4 N5 E3 E6
  generalize v6.heap.size = zb at R0 ⊢
  generalize two v3.heap.size v4.heap.size = c at R0
  generalize two w.heap.size v1.heap.size = b at R0
  generalize v5.heap.size = bd at R0 ⊢
  generalize v2.heap.size = br at R0 ⊢
  replace R0 : Hid (RT w v7 br bd b c zb (fun _ => pring0) (fun _ => pring0) (fun _ => 0) (fun _ => 0)) := R0
  have p0 := R0.out.pb 0 (by omega)
  have p1 := R0.out.pb 1 (by omega)
  go_upto_region 6 with fail
  clear p0 p1
  go_wp2
  go_loopw [6] (fun s6 wr => ∃ (i : Nat) (f : Nat → PRing) (n : Nat → Int), i ≤ n0 ∧ s6 = .int .i64 (i : Int) ∧ RT w wr br bd b c zb f f n n) (fun s6 _ => n0 - (intOf s6).toNat)
  case atStart => exact ⟨0, _, _, by omega, rfl, R0.out⟩
  case round =>
    obtain ⟨i, f, n, hi, rfl, hR⟩ := hrel
    have R1 : Hid (RT w wr br bd b c zb f f n n) := hR
    clear hR R0
    by_cases hin : i < n0
    · have iI : (i : Int) < (n0 : Int) := by omega
      obtain ⟨g, a, rfl, hO⟩ := HV.out (by omega)
      have hO1 : OpAt wr g (a + i * 14) (os i) := (hO i hin).below R1.out.bel (hO i hin).lt
      obtain ⟨op, eop⟩ : ∃ op, os i = op := ⟨_, rfl⟩
      rw [eop] at hO1
      have e0 : wr.cell? ⟨g, a + i * 14, none⟩ = some (.int .i64 op.kd) := hO1 0 _ rfl
      have e1 : wr.cell? ⟨g, a + i * 14 + 1, none⟩ = some (.bool op.tw) := hO1 1 _ rfl
      have e2 : wr.cell? ⟨g, a + i * 14 + 2, none⟩ = some (.int .i64 op.N) := hO1 2 _ rfl
      have e3 : wr.cell? ⟨g, a + i * 14 + 3, none⟩ = some (.int .i64 op.M) := hO1 3 _ rfl
      have e4 : wr.cell? ⟨g, a + i * 14 + 4, none⟩ = some (.int .i64 op.P) := hO1 4 _ rfl
      have e5 : wr.cell? ⟨g, a + i * 14 + 5, none⟩ = some (.int .u64 op.X.a) := hO1 5 _ rfl
      have e6 : wr.cell? ⟨g, a + i * 14 + 6, none⟩ = some (.int .u64 op.X.b) := hO1 6 _ rfl
      have e7 : wr.cell? ⟨g, a + i * 14 + 7, none⟩ = some (.int .u64 op.X.c) := hO1 7 _ rfl
      have e8 : wr.cell? ⟨g, a + i * 14 + 8, none⟩ = some (.int .u64 op.X.d) := hO1 8 _ rfl
      have e9 : wr.cell? ⟨g, a + i * 14 + 9, none⟩ = some (.int .u64 op.Y.a) := hO1 9 _ rfl
      have e10 : wr.cell? ⟨g, a + i * 14 + 10, none⟩ = some (.int .u64 op.Y.b) := hO1 10 _ rfl
      have e11 : wr.cell? ⟨g, a + i * 14 + 11, none⟩ = some (.int .u64 op.Y.c) := hO1 11 _ rfl
      have e12 : wr.cell? ⟨g, a + i * 14 + 12, none⟩ = some (.int .u64 op.Y.d) := hO1 12 _ rfl
      have e13 : wr.cell? ⟨g, a + i * 14 + 13, none⟩ = some (op.B) := hO1 13 _ rfl
      clear hO hO1 eop
      go_upto_region 10 with fail
      clear e0 e1 e2 e3 e4 e5 e6 e7 e8 e9 e10 e11 e12 e13
      change Code.wp _ _ _ _ (wr.alloc op.ob)
      have R2 : Hid (RT w (wr.alloc op.ob) br bd b c zb f f n n) := R1.out.past ((Below.refl _ _).alloc (Nat.le_refl _) _)
      have BX : Hid (OpAt (wr.alloc op.ob) wr.heap.size 0 op) := OpAt.new wr op
      have OB : Hid (Out_ b c wr.heap.size) := R1.out.new
      generalize wr.alloc op.ob = v8 at R2 BX ⊢
      generalize wr.heap.size = ob at BX OB ⊢
      clear R1
      have k0 : v8.cell? ⟨ob, 0, none⟩ = some (.int .i64 op.kd) := BX.out 0 _ rfl
      have k1 : v8.cell? ⟨ob, 1, none⟩ = some (.bool op.tw) := BX.out 1 _ rfl
      have k2 : v8.cell? ⟨ob, 2, none⟩ = some (.int .i64 op.N) := BX.out 2 _ rfl
      have k3 : v8.cell? ⟨ob, 3, none⟩ = some (.int .i64 op.M) := BX.out 3 _ rfl
      generalize eN : op.N = N at k2
      generalize eM : op.M = M at k3
      generalize eK : op.kd = kd at k0
      have EN : Hid (op.N = N ∧ op.M = M ∧ op.kd = kd) := ⟨eN, eM, eK⟩
      clear eN eM eK
      go_upto_if 47 with fail
      go_cut [8, 45, 47] (fun s8 _ _ wx => ∃ kk : Nat, kk < 2 ∧ s8 = .int .i64 (kk : Int) ∧ wx = v8)
      case first =>
        clear k1
        generalize op.tw = tw
        cases tw
        · go_wp2
          go_meet
          case rel => exact ⟨0, by omega, rfl, rfl⟩
        · go_wp2
          go_meet
          case rel => exact ⟨1, by omega, rfl, rfl⟩
      case rest =>
        obtain ⟨kk, hkk, rfl, rfl⟩ := hcut
        have kkI : (kk : Int) < 2 := by omega
        clear k1
        go_upto_region 14 with fail
        obtain ⟨Pp, ePp⟩ : ∃ Pp : P2, Pp = ⟨N, M⟩ := ⟨_, rfl⟩
        have v9e : wc.alloc (.cells #[.int .i64 N, .int .i64 M] 44) = wc.alloc Pp.o := by rw [ePp]; rfl
        rw [v9e]
        have R3 : Hid (RT w (wc.alloc Pp.o) br bd b c zb f f n n) := R2.out.past ((Below.refl _ _).alloc (Nat.le_refl _) _)
        have BY : Hid (OpAt (wc.alloc Pp.o) ob 0 op) := BX.out.past ((Below.refl _ _).alloc (Nat.le_refl _) _)
        have PB : Hid (Pd (wc.alloc Pp.o) wc.heap.size 0 Pp) := Pd.new wc Pp
        have OP : Hid (Out_ b c wc.heap.size) := R2.out.new
        clear v9e ePp k0 k2 k3 R2 BX
        generalize wc.alloc Pp.o = v9 at R3 BY PB ⊢
        generalize wc.heap.size = pb at PB OP ⊢
        have k0 : v9.cell? ⟨ob, 0, none⟩ = some (.int .i64 kd) := BY.out 0 _ (by rw [← EN.out.2.2]; rfl)
        have k2 : v9.cell? ⟨ob, 2, none⟩ = some (.int .i64 N) := BY.out 2 _ (by rw [← EN.out.1]; rfl)
        go_upto_region 15 with fail
        go_cut [65] (fun s65 wx => s65 = .bool (isMany kd) ∧ wx = v9)
        case first =>
          by_cases h13 : kd = 13
          · rw [h13] at k0
            have IM : Hid (isMany kd = true) := by unfold Hid isMany; rw [h13]; rfl
            clear h13
            go_wp2
            go_meet
            case rel => exact ⟨by rw [IM.out], rfl⟩
          · replace h13 : (kd == 13) = false := by simpa using h13
            by_cases h14 : kd = 14
            · rw [h14] at k0
              have IM : Hid (isMany kd = true) := by unfold Hid isMany; rw [h14]; rfl
              clear h14 h13
              go_wp2
              go_meet
              case rel => exact ⟨by rw [IM.out], rfl⟩
            · replace h14 : (kd == 14) = false := by simpa using h14
              by_cases h15 : kd = 15
              · rw [h15] at k0
                have IM : Hid (isMany kd = true) := by unfold Hid isMany; rw [h15]; rfl
                clear h15 h13 h14
                go_wp2
                go_meet
                case rel => exact ⟨by rw [IM.out], rfl⟩
              · replace h15 : (kd == 15) = false := by simpa using h15
                have IM : Hid (isMany kd = false) := by unfold Hid isMany; rw [h13, h14, h15]; rfl
                go_wp2
                go_meet
                case rel => exact ⟨by rw [IM.out], rfl⟩
        case rest =>
          obtain ⟨rfl, rfl⟩ := hcut
          obtain ⟨v10, e10⟩ : ∃ V, V = wc := ⟨_, rfl⟩
          subst e10
          go_upto_if 65 with fail
          go_cut [10, 65] (fun s10 _ wx => ∃ t : Nat, t ≤ 2100 ∧ s10 = .int .i64 (t : Int) ∧ wx = v10)
          case first =>
            cases isMany kd
            · go_wp2
              go_meet
              case rel => exact ⟨1, by omega, rfl, rfl⟩
            · by_cases hN0 : N < 0
              · go_wp2
                go_meet
                case rel => exact ⟨0, by omega, rfl, rfl⟩
              · by_cases hN1 : 2100 < N
                · go_wp2
                  go_meet
                  case rel => exact ⟨2100, by omega, rfl, rfl⟩
                · obtain ⟨t, et⟩ : ∃ t : Nat, N = (t : Int) := ⟨N.toNat, by omega⟩
                  go_wp2
                  go_meet
                  case rel => exact ⟨t, by omega, by first | rfl | rw [et], rfl⟩
          case rest =>
            obtain ⟨t, ht, rfl, hw⟩ := hcut
            subst hw
            obtain ⟨v11, e11⟩ : ∃ V, V = wc := ⟨_, rfl⟩
            subst e11
            have tI : (t : Int) ≤ 2100 := by omega
            have RA : Hid (RI w v11 br bd b c zb f f n n ob op pb Pp) := ⟨R3.out, BY.out, PB.out, OB.out, OP.out⟩
            clear R3 BY PB OB OP k0 k2
            go_wp2
            go_loopw [11] (fun s11 wx => ∃ (j : Nat) (f1 : Nat → PRing) (n1 : Nat → Int), j ≤ t ∧ s11 = .int .i64 (j : Int) ∧ RI w wx br bd b c zb f1 f1 n1 n1 ob op pb Pp) (fun s11 _ => t - (intOf s11).toNat)
            case atStart => exact ⟨0, f, n, by omega, rfl, RA.out⟩
            case round =>
              obtain ⟨wx, ewx⟩ : ∃ V, V = wr := ⟨_, rfl⟩
              obtain ⟨j, f1, n1, hj, rfl, hR⟩ := hrel
              rw [← ewx] at hR ⊢
              clear ewx
              have K0 : Hid (RI w wx br bd b c zb f1 f1 n1 n1 ob op pb Pp) := hR
              clear hR RA
              by_cases hjt : j < t
              · have jI : (j : Int) < (t : Int) := by omega
                have k0 : wx.cell? ⟨ob, 0, none⟩ = some (.int .i64 kd) := K0.out.o 0 _ (by rw [← EN.out.2.2]; rfl)
                have jJ : (j : Int) ≤ 2100 := by omega
                by_cases h1 : kd = 1
                · rw [h1] at k0
                  clear h1
                  as_aux_lemma =>
                    go_upto_region 23 with fail
                    clear k0
                    obtain ⟨q, eq⟩ : ∃ q, q = pPush (f1 kk) (n1 kk) Pp := ⟨_, rfl⟩
                    have EQ : Hid (q = pPush (f1 kk) (n1 kk) Pp) := eq
                    clear eq
                    refine wp_region_held_drew (S := fun V' => SB V' br bd kk (b kk) (c kk) pb Pp) (by kernel_rfl) (K0.out.drew.sb hkk) (fun hHeld => ?_)
                    have K1 : Hid (RI w wx.drew br bd b c zb f1 f1 n1 n1 ob op pb Pp) := K0.out.drew
                    generalize wx.drew = z0 at hHeld K1 ⊢
                    clear K0
                    refine wpAnyH_take (i := 0) (v := .int .i64 (kk : Int)) ov0 (by kernel_rfl) (by kernel_rfl) (by kernel_rfl) (fun _ _ _ h => h) (Or.inl ⟨by rfl, fun V' hS => ?_⟩) hHeld ?_
                    · go_simp
                    simp only [Act.put, List.setIfInBounds_toArray, List.set_cons_zero, List.set_cons_succ]
                    refine wpAnyH_take (i := 1) (v := .pointer (some ⟨br, kk, none⟩)) ov1 (by kernel_rfl) (by kernel_rfl) (by kernel_rfl) (fun _ _ _ h => h) (Or.inl ⟨by rfl, fun V' hS => ?_⟩) hHeld ?_
                    · go_simp
                    simp only [Act.put, List.setIfInBounds_toArray, List.set_cons_zero, List.set_cons_succ]
                    refine wpAnyH_take (i := 2) (v := .pointer (some ⟨(b kk), 0, none⟩)) ov2 (by kernel_rfl) (by kernel_rfl) (by kernel_rfl) (fun _ _ _ h => h) (Or.inl ⟨by rfl, fun V' hS => ?_⟩) hHeld ?_
                    · have q0 := hS.1
                      go_simp
                    simp only [Act.put, List.setIfInBounds_toArray, List.set_cons_zero, List.set_cons_succ]
                    refine wpAnyH_take (i := 3) (v := .agg #[.int .i64 Pp.a, .int .i64 Pp.b]) ov3 (by kernel_rfl) (by kernel_rfl) (by kernel_rfl) (fun _ _ _ h => h) (Or.inl ⟨by rfl, fun V' hS => ?_⟩) hHeld ?_
                    · obtain ⟨q0, q1, _⟩ := hS.2.2
                      go_simp
                    simp only [Act.put, List.setIfInBounds_toArray, List.set_cons_zero, List.set_cons_succ]
                    refine wpAnyH_take (i := 5) (v := .int .i64 (kk : Int)) ov5 (by kernel_rfl) (by kernel_rfl) (by kernel_rfl) (fun _ _ _ h => h) (Or.inl ⟨by rfl, fun V' hS => ?_⟩) hHeld ?_
                    · go_simp
                    simp only [Act.put, List.setIfInBounds_toArray, List.set_cons_zero, List.set_cons_succ]
                    refine wpAnyH_take (i := 6) (v := .pointer (some ⟨bd, kk, none⟩)) ov6 (by kernel_rfl) (by kernel_rfl) (by kernel_rfl) (fun _ _ _ h => h) (Or.inl ⟨by rfl, fun V' hS => ?_⟩) hHeld ?_
                    · go_simp
                    simp only [Act.put, List.setIfInBounds_toArray, List.set_cons_zero, List.set_cons_succ]
                    refine wpAnyH_take (i := 7) (v := .pointer (some ⟨(c kk), 0, none⟩)) ov7 (by kernel_rfl) (by kernel_rfl) (by kernel_rfl) (fun _ _ _ h => h) (Or.inl ⟨by rfl, fun V' hS => ?_⟩) hHeld ?_
                    · have q0 := hS.2.1
                      go_simp
                    simp only [Act.put, List.setIfInBounds_toArray, List.set_cons_zero, List.set_cons_succ]
                    refine wpAnyH_take (i := 8) (v := .agg #[.int .i64 Pp.a, .int .i64 Pp.b]) ov8 (by kernel_rfl) (by kernel_rfl) (by kernel_rfl) (fun _ _ _ h => h) (Or.inl ⟨by rfl, fun V' hS => ?_⟩) hHeld ?_
                    · obtain ⟨q0, q1, _⟩ := hS.2.2
                      go_simp
                    simp only [Act.put, List.setIfInBounds_toArray, List.set_cons_zero, List.set_cons_succ]
                    refine wpAnyH_ready (rs := [4]) (by kernel_rfl) (by simp) ?_
                    refine AllReadyH.cons ov4 (fun K hK => ?_) AllReadyH.nil
                    rw [if_pos (by rfl)]
                    go_simp
                    refine (rpush_is z0 (b kk) (f1 kk) (n1 kk) (K1.out.t.s kk hkk) Pp).mono ?_
                    rintro e u1 ⟨rfl, h1, h2⟩
                    rw [← EQ.out] at h1 ⊢
                    have K2 : Hid (RI w u1 br bd b c zb (upd f1 kk q.f) f1 (upd n1 kk q.n) n1 ob op pb Pp) := K1.out.callS kk hkk h1 h2
                    clear h1 h2
                    (try go_wp2_with fail)
                    refine hK.out _ _ (K2.out.sb hkk) (fun _ => ?_)
                    clear hK K
                    (try simp only [Act.put, List.setIfInBounds_toArray, List.set_cons_zero, List.set_cons_succ])
                    refine wpAnyH_ready (rs := [9]) (by kernel_rfl) (by simp) ?_
                    refine AllReadyH.cons ov9 (fun K hK => ?_) AllReadyH.nil
                    rw [if_pos (by rfl)]
                    go_simp
                    refine (rpushR_is u1 (c kk) (f1 kk) (n1 kk) (K2.out.t.r kk hkk) Pp).mono ?_
                    rintro e u2 ⟨rfl, h1, h2⟩
                    rw [← EQ.out] at h1 ⊢
                    have K3 : Hid (RI w u2 br bd b c zb (upd f1 kk q.f) (upd f1 kk q.f) (upd n1 kk q.n) (upd n1 kk q.n) ob op pb Pp) := K2.out.callR kk hkk h1 h2
                    clear h1 h2
                    (try go_wp2_with fail)
                    refine hK.out _ _ (K3.out.sb hkk) (fun _ => ?_)
                    clear hK K
                    (try simp only [Act.put, List.setIfInBounds_toArray, List.set_cons_zero, List.set_cons_succ])
                    refine wpAnyH_take (i := 10) (v := .bool false) ov10 (by kernel_rfl) (by kernel_rfl) (by kernel_rfl) (fun _ _ _ h => h) (Or.inl ⟨by rfl, fun V' hS => ?_⟩) (K3.out.sb hkk) ?_
                    · go_simp
                    simp only [Act.put, List.setIfInBounds_toArray, List.set_cons_zero, List.set_cons_succ]
                    refine wpAnyH_done (by kernel_rfl) ?_ _
                    go_wp2
                    go_roundw
                    case rel => exact ⟨j + 1, (upd f1 kk q.f), (upd n1 kk q.n), by omega, by simp, K3.out⟩
                    case measure => simp [intOf]; omega
                · replace h1 : (kd == 1) = false := by simpa using h1
                  by_cases h13 : kd = 13
                  · rw [h13] at k0
                    clear h13
                    as_aux_lemma =>
                      go_upto_region 23 with fail
                      clear k0
                      obtain ⟨q, eq⟩ : ∃ q, q = pPush (f1 kk) (n1 kk) Pp := ⟨_, rfl⟩
                      have EQ : Hid (q = pPush (f1 kk) (n1 kk) Pp) := eq
                      clear eq
                      refine wp_region_held_drew (S := fun V' => SB V' br bd kk (b kk) (c kk) pb Pp) (by kernel_rfl) (K0.out.drew.sb hkk) (fun hHeld => ?_)
                      have K1 : Hid (RI w wx.drew br bd b c zb f1 f1 n1 n1 ob op pb Pp) := K0.out.drew
                      generalize wx.drew = z0 at hHeld K1 ⊢
                      clear K0
                      refine wpAnyH_take (i := 0) (v := .int .i64 (kk : Int)) ov0 (by kernel_rfl) (by kernel_rfl) (by kernel_rfl) (fun _ _ _ h => h) (Or.inl ⟨by rfl, fun V' hS => ?_⟩) hHeld ?_
                      · go_simp
                      simp only [Act.put, List.setIfInBounds_toArray, List.set_cons_zero, List.set_cons_succ]
                      refine wpAnyH_take (i := 1) (v := .pointer (some ⟨br, kk, none⟩)) ov1 (by kernel_rfl) (by kernel_rfl) (by kernel_rfl) (fun _ _ _ h => h) (Or.inl ⟨by rfl, fun V' hS => ?_⟩) hHeld ?_
                      · go_simp
                      simp only [Act.put, List.setIfInBounds_toArray, List.set_cons_zero, List.set_cons_succ]
                      refine wpAnyH_take (i := 2) (v := .pointer (some ⟨(b kk), 0, none⟩)) ov2 (by kernel_rfl) (by kernel_rfl) (by kernel_rfl) (fun _ _ _ h => h) (Or.inl ⟨by rfl, fun V' hS => ?_⟩) hHeld ?_
                      · have q0 := hS.1
                        go_simp
                      simp only [Act.put, List.setIfInBounds_toArray, List.set_cons_zero, List.set_cons_succ]
                      refine wpAnyH_take (i := 3) (v := .agg #[.int .i64 Pp.a, .int .i64 Pp.b]) ov3 (by kernel_rfl) (by kernel_rfl) (by kernel_rfl) (fun _ _ _ h => h) (Or.inl ⟨by rfl, fun V' hS => ?_⟩) hHeld ?_
                      · obtain ⟨q0, q1, _⟩ := hS.2.2
                        go_simp
                      simp only [Act.put, List.setIfInBounds_toArray, List.set_cons_zero, List.set_cons_succ]
                      refine wpAnyH_take (i := 5) (v := .int .i64 (kk : Int)) ov5 (by kernel_rfl) (by kernel_rfl) (by kernel_rfl) (fun _ _ _ h => h) (Or.inl ⟨by rfl, fun V' hS => ?_⟩) hHeld ?_
                      · go_simp
                      simp only [Act.put, List.setIfInBounds_toArray, List.set_cons_zero, List.set_cons_succ]
                      refine wpAnyH_take (i := 6) (v := .pointer (some ⟨bd, kk, none⟩)) ov6 (by kernel_rfl) (by kernel_rfl) (by kernel_rfl) (fun _ _ _ h => h) (Or.inl ⟨by rfl, fun V' hS => ?_⟩) hHeld ?_
                      · go_simp
                      simp only [Act.put, List.setIfInBounds_toArray, List.set_cons_zero, List.set_cons_succ]
                      refine wpAnyH_take (i := 7) (v := .pointer (some ⟨(c kk), 0, none⟩)) ov7 (by kernel_rfl) (by kernel_rfl) (by kernel_rfl) (fun _ _ _ h => h) (Or.inl ⟨by rfl, fun V' hS => ?_⟩) hHeld ?_
                      · have q0 := hS.2.1
                        go_simp
                      simp only [Act.put, List.setIfInBounds_toArray, List.set_cons_zero, List.set_cons_succ]
                      refine wpAnyH_take (i := 8) (v := .agg #[.int .i64 Pp.a, .int .i64 Pp.b]) ov8 (by kernel_rfl) (by kernel_rfl) (by kernel_rfl) (fun _ _ _ h => h) (Or.inl ⟨by rfl, fun V' hS => ?_⟩) hHeld ?_
                      · obtain ⟨q0, q1, _⟩ := hS.2.2
                        go_simp
                      simp only [Act.put, List.setIfInBounds_toArray, List.set_cons_zero, List.set_cons_succ]
                      refine wpAnyH_ready (rs := [4]) (by kernel_rfl) (by simp) ?_
                      refine AllReadyH.cons ov4 (fun K hK => ?_) AllReadyH.nil
                      rw [if_pos (by rfl)]
                      go_simp
                      refine (rpush_is z0 (b kk) (f1 kk) (n1 kk) (K1.out.t.s kk hkk) Pp).mono ?_
                      rintro e u1 ⟨rfl, h1, h2⟩
                      rw [← EQ.out] at h1 ⊢
                      have K2 : Hid (RI w u1 br bd b c zb (upd f1 kk q.f) f1 (upd n1 kk q.n) n1 ob op pb Pp) := K1.out.callS kk hkk h1 h2
                      clear h1 h2
                      (try go_wp2_with fail)
                      refine hK.out _ _ (K2.out.sb hkk) (fun _ => ?_)
                      clear hK K
                      (try simp only [Act.put, List.setIfInBounds_toArray, List.set_cons_zero, List.set_cons_succ])
                      refine wpAnyH_ready (rs := [9]) (by kernel_rfl) (by simp) ?_
                      refine AllReadyH.cons ov9 (fun K hK => ?_) AllReadyH.nil
                      rw [if_pos (by rfl)]
                      go_simp
                      refine (rpushR_is u1 (c kk) (f1 kk) (n1 kk) (K2.out.t.r kk hkk) Pp).mono ?_
                      rintro e u2 ⟨rfl, h1, h2⟩
                      rw [← EQ.out] at h1 ⊢
                      have K3 : Hid (RI w u2 br bd b c zb (upd f1 kk q.f) (upd f1 kk q.f) (upd n1 kk q.n) (upd n1 kk q.n) ob op pb Pp) := K2.out.callR kk hkk h1 h2
                      clear h1 h2
                      (try go_wp2_with fail)
                      refine hK.out _ _ (K3.out.sb hkk) (fun _ => ?_)
                      clear hK K
                      (try simp only [Act.put, List.setIfInBounds_toArray, List.set_cons_zero, List.set_cons_succ])
                      refine wpAnyH_take (i := 10) (v := .bool false) ov10 (by kernel_rfl) (by kernel_rfl) (by kernel_rfl) (fun _ _ _ h => h) (Or.inl ⟨by rfl, fun V' hS => ?_⟩) (K3.out.sb hkk) ?_
                      · go_simp
                      simp only [Act.put, List.setIfInBounds_toArray, List.set_cons_zero, List.set_cons_succ]
                      refine wpAnyH_done (by kernel_rfl) ?_ _
                      go_wp2
                      go_roundw
                      case rel => exact ⟨j + 1, (upd f1 kk q.f), (upd n1 kk q.n), by omega, by simp, K3.out⟩
                      case measure => simp [intOf]; omega
                  · replace h13 : (kd == 13) = false := by simpa using h13
                    by_cases h2 : kd = 2
                    · rw [h2] at k0
                      clear h2
                      as_aux_lemma =>
                        obtain ⟨y, ey⟩ : ∃ y, pPopW (f1 kk) (n1 kk) = y := ⟨_, rfl⟩
                        obtain ⟨q, eq⟩ : ∃ q, pPop (f1 kk) (n1 kk) = q := ⟨_, rfl⟩
                        have CS : Hid (Calls Try.prog 17 #[.pointer (some ⟨b kk, 0, none⟩)] wx fun e w' => e = .returned (.tuple #[y.v, .int .i64 q.e]) ∧ Rtn w' (b kk) 0 2048 q.f q.n ∧ Only (b kk) wx w') := by rw [← ey, ← eq]; exact rpop_is wx (b kk) (f1 kk) (n1 kk) (K0.out.t.s kk hkk)
                        have CR : Hid (∀ W, Rtn W (c kk) 1 0 (f1 kk) (n1 kk) → Calls Try.prog 18 #[.pointer (some ⟨c kk, 0, none⟩)] W fun e w' => e = .returned (.tuple #[y.v, .int .i64 q.e]) ∧ Rtn w' (c kk) 1 0 q.f q.n ∧ Only (c kk) W w') := fun W hW => by rw [← ey, ← eq]; exact rpopR_is W (c kk) (f1 kk) (n1 kk) hW
                        clear ey eq
                        have p0 := K0.out.t.pb kk hkk
                        go_upto_region 27 with (go_at_call 17; refine (CS.out).mono ?_; rintro e u1 ⟨rfl, h1, h2⟩; (have K1 : Hid (RI w u1 br bd b c zb (upd f1 kk q.f) f1 (upd n1 kk q.n) n1 ob op pb Pp) := K0.out.callS kk hkk h1 h2); clear CS K0 h1 h2 p0 k0; unfold P2.v)
                        have W1 : Hid (Pd (u1.alloc (.cells #[.int .i64 y.a, .int .i64 y.b] 44)) u1.heap.size 0 y) := Pd.new u1 y
                        have O1 : Hid (Out_ b c u1.heap.size) := K1.out.t.new
                        replace K1 : Hid (RI w (u1.alloc (.cells #[.int .i64 y.a, .int .i64 y.b] 44)) br bd b c zb (upd f1 kk q.f) f1 (upd n1 kk q.n) n1 ob op pb Pp) := K1.out.alloc _
                        generalize u1.alloc (.cells #[.int .i64 y.a, .int .i64 y.b] 44) = u2 at K1 W1 ⊢
                        generalize u1.heap.size = bx at W1 O1 ⊢
                        have p0 := K1.out.t.pc kk hkk
                        go_upto_region 28 with (go_at_call 18; refine (CR.out _ (K1.out.t.r kk hkk)).mono ?_; rintro e u3 ⟨rfl, h1, h2⟩; (have K2 : Hid (RI w u3 br bd b c zb (upd f1 kk q.f) (upd f1 kk q.f) (upd n1 kk q.n) (upd n1 kk q.n) ob op pb Pp) := K1.out.callR kk hkk h1 h2); (have W2 : Hid (Pd u3 bx 0 y) := W1.out.only h2 (O1.out kk hkk).2); clear CR K1 W1 O1 h1 h2 p0; unfold P2.v)
                        have W3 : Hid (Pd (u3.alloc (.cells #[.int .i64 y.a, .int .i64 y.b] 44)) u3.heap.size 0 y) := Pd.new u3 y
                        replace W2 : Hid (Pd (u3.alloc (.cells #[.int .i64 y.a, .int .i64 y.b] 44)) bx 0 y) := W2.out.alloc _
                        replace K2 : Hid (RI w (u3.alloc (.cells #[.int .i64 y.a, .int .i64 y.b] 44)) br bd b c zb (upd f1 kk q.f) (upd f1 kk q.f) (upd n1 kk q.n) (upd n1 kk q.n) ob op pb Pp) := K2.out.alloc _
                        generalize u3.alloc (.cells #[.int .i64 y.a, .int .i64 y.b] 44) = u4 at K2 W2 W3 ⊢
                        generalize u3.heap.size = by_ at W3 ⊢
                        obtain ⟨a0, a1, _⟩ := W2.out
                        obtain ⟨c0, c1, _⟩ := W3.out
                        have hq := eqp_self y.a y.b u4
                        go_wp2
                        go_roundw
                        case rel => exact ⟨j + 1, (upd f1 kk q.f), (upd n1 kk q.n), by omega, by simp, K2.out⟩
                        case measure => simp [intOf]; omega
                    · replace h2 : (kd == 2) = false := by simpa using h2
                      by_cases h7 : kd = 7
                      · rw [h7] at k0
                        clear h7
                        as_aux_lemma =>
                          go_upto_region 31 with fail
                          clear k0
                          refine wp_region_held_drew (S := fun V' => SB V' br bd kk (b kk) (c kk) pb Pp) (by kernel_rfl) (K0.out.drew.sb hkk) (fun hHeld => ?_)
                          have K1 : Hid (RI w wx.drew br bd b c zb f1 f1 n1 n1 ob op pb Pp) := K0.out.drew
                          generalize wx.drew = z0 at hHeld K1 ⊢
                          clear K0
                          refine wpAnyH_take (i := 0) (v := .int .i64 (kk : Int)) ov0 (by kernel_rfl) (by kernel_rfl) (by kernel_rfl) (fun _ _ _ h => h) (Or.inl ⟨by rfl, fun V' hS => ?_⟩) hHeld ?_
                          · go_simp
                          simp only [Act.put, List.setIfInBounds_toArray, List.set_cons_zero, List.set_cons_succ]
                          refine wpAnyH_take (i := 1) (v := .pointer (some ⟨br, kk, none⟩)) ov1 (by kernel_rfl) (by kernel_rfl) (by kernel_rfl) (fun _ _ _ h => h) (Or.inl ⟨by rfl, fun V' hS => ?_⟩) hHeld ?_
                          · go_simp
                          simp only [Act.put, List.setIfInBounds_toArray, List.set_cons_zero, List.set_cons_succ]
                          refine wpAnyH_take (i := 2) (v := .pointer (some ⟨(b kk), 0, none⟩)) ov2 (by kernel_rfl) (by kernel_rfl) (by kernel_rfl) (fun _ _ _ h => h) (Or.inl ⟨by rfl, fun V' hS => ?_⟩) hHeld ?_
                          · have q0 := hS.1
                            go_simp
                          simp only [Act.put, List.setIfInBounds_toArray, List.set_cons_zero, List.set_cons_succ]
                          refine wpAnyH_take (i := 3) (v := .agg #[.int .i64 Pp.a, .int .i64 Pp.b]) ov3 (by kernel_rfl) (by kernel_rfl) (by kernel_rfl) (fun _ _ _ h => h) (Or.inl ⟨by rfl, fun V' hS => ?_⟩) hHeld ?_
                          · obtain ⟨q0, q1, _⟩ := hS.2.2
                            go_simp
                          simp only [Act.put, List.setIfInBounds_toArray, List.set_cons_zero, List.set_cons_succ]
                          refine wpAnyH_ready (rs := [4]) (by kernel_rfl) (by simp) ?_
                          refine AllReadyH.cons ov4 (fun K hK => ?_) AllReadyH.nil
                          rw [if_pos (by rfl)]
                          go_simp
                          refine (rput_is z0 (b kk) (f1 kk) (n1 kk) (K1.out.t.s kk hkk) Pp).mono ?_
                          rintro e u1 ⟨rfl, h1, h2⟩
                          have K2 : Hid (RI w u1 br bd b c zb (upd f1 kk (pput (f1 kk) (pl (n1 kk)) Pp)) f1 (upd n1 kk (wrap64 (n1 kk + 1))) n1 ob op pb Pp) := K1.out.callS kk hkk h1 h2
                          clear h1 h2
                          (try go_wp2_with fail)
                          refine hK.out _ _ (K2.out.sb hkk) (fun _ => ?_)
                          clear hK K
                          (try simp only [Act.put, List.setIfInBounds_toArray, List.set_cons_zero, List.set_cons_succ])
                          refine wpAnyH_done (by kernel_rfl) ?_ _
                          go_upto_region 32 with fail
                          refine wp_region_held_drew (S := fun V' => SB V' br bd kk (b kk) (c kk) pb Pp) (by kernel_rfl) (K2.out.drew.sb hkk) (fun hHeld2 => ?_)
                          have K3 : Hid (RI w u1.drew br bd b c zb (upd f1 kk (pput (f1 kk) (pl (n1 kk)) Pp)) f1 (upd n1 kk (wrap64 (n1 kk + 1))) n1 ob op pb Pp) := K2.out.drew
                          generalize u1.drew = z1 at hHeld2 K3 ⊢
                          clear K2
                          refine wpAnyH_take (i := 0) (v := .int .i64 (kk : Int)) ov0 (by kernel_rfl) (by kernel_rfl) (by kernel_rfl) (fun _ _ _ h => h) (Or.inl ⟨by rfl, fun V' hS => ?_⟩) hHeld2 ?_
                          · go_simp
                          simp only [Act.put, List.setIfInBounds_toArray, List.set_cons_zero, List.set_cons_succ]
                          refine wpAnyH_take (i := 1) (v := .pointer (some ⟨bd, kk, none⟩)) ov1 (by kernel_rfl) (by kernel_rfl) (by kernel_rfl) (fun _ _ _ h => h) (Or.inl ⟨by rfl, fun V' hS => ?_⟩) hHeld2 ?_
                          · go_simp
                          simp only [Act.put, List.setIfInBounds_toArray, List.set_cons_zero, List.set_cons_succ]
                          refine wpAnyH_take (i := 2) (v := .pointer (some ⟨(c kk), 0, none⟩)) ov2 (by kernel_rfl) (by kernel_rfl) (by kernel_rfl) (fun _ _ _ h => h) (Or.inl ⟨by rfl, fun V' hS => ?_⟩) hHeld2 ?_
                          · have q0 := hS.2.1
                            go_simp
                          simp only [Act.put, List.setIfInBounds_toArray, List.set_cons_zero, List.set_cons_succ]
                          refine wpAnyH_take (i := 3) (v := .agg #[.int .i64 Pp.a, .int .i64 Pp.b]) ov3 (by kernel_rfl) (by kernel_rfl) (by kernel_rfl) (fun _ _ _ h => h) (Or.inl ⟨by rfl, fun V' hS => ?_⟩) hHeld2 ?_
                          · obtain ⟨q0, q1, _⟩ := hS.2.2
                            go_simp
                          simp only [Act.put, List.setIfInBounds_toArray, List.set_cons_zero, List.set_cons_succ]
                          refine wpAnyH_ready (rs := [4]) (by kernel_rfl) (by simp) ?_
                          refine AllReadyH.cons ov4 (fun K hK => ?_) AllReadyH.nil
                          rw [if_pos (by rfl)]
                          go_simp
                          refine (rputR_is z1 (c kk) (f1 kk) (n1 kk) (K3.out.t.r kk hkk) Pp).mono ?_
                          rintro e u2 ⟨rfl, h1, h2⟩
                          have K4 : Hid (RI w u2 br bd b c zb (upd f1 kk (pput (f1 kk) (pl (n1 kk)) Pp)) (upd f1 kk (pput (f1 kk) (pl (n1 kk)) Pp)) (upd n1 kk (wrap64 (n1 kk + 1))) (upd n1 kk (wrap64 (n1 kk + 1))) ob op pb Pp) := K3.out.callR kk hkk h1 h2
                          clear h1 h2
                          (try go_wp2_with fail)
                          refine hK.out _ _ (K4.out.sb hkk) (fun _ => ?_)
                          clear hK K
                          (try simp only [Act.put, List.setIfInBounds_toArray, List.set_cons_zero, List.set_cons_succ])
                          refine wpAnyH_done (by kernel_rfl) ?_ _
                          go_wp2
                          go_roundw
                          case rel => exact ⟨j + 1, (upd f1 kk (pput (f1 kk) (pl (n1 kk)) Pp)), (upd n1 kk (wrap64 (n1 kk + 1))), by omega, by simp, K4.out⟩
                          case measure => simp [intOf]; omega
                      · replace h7 : (kd == 7) = false := by simpa using h7
                        by_cases h14 : kd = 14
                        · rw [h14] at k0
                          clear h14
                          as_aux_lemma =>
                            have k2 : wx.cell? ⟨ob, 2, none⟩ = some (.int .i64 N) := K0.out.o 2 _ (by rw [← EN.out.1]; rfl)
                            have k3 : wx.cell? ⟨ob, 3, none⟩ = some (.int .i64 M) := K0.out.o 3 _ (by rw [← EN.out.2.1]; rfl)
                            obtain ⟨A0, eA0⟩ : ∃ A, N - (j : Int) = A := ⟨_, rfl⟩
                            obtain ⟨B0, eB0⟩ : ∃ A, M + (j : Int) = A := ⟨_, rfl⟩
                            obtain ⟨A1, eA1⟩ : ∃ A, IntKind.i64.wrap A0 = A := ⟨_, rfl⟩
                            obtain ⟨B1, eB1⟩ : ∃ A, IntKind.i64.wrap B0 = A := ⟨_, rfl⟩
                            go_upto_region 35 with fail
                            clear k0 k2 k3 eA0 eB0 eA1 eB1
                            obtain ⟨Hh, eHh⟩ : ∃ Hh : P2, Hh = ⟨A1, B1⟩ := ⟨_, rfl⟩
                            have ve : wx.alloc (.cells #[.int .i64 A1, .int .i64 B1] 44) = wx.alloc Hh.o := by rw [eHh]; rfl
                            rw [ve]
                            clear ve eHh
                            have OH : Hid (Out_ b c wx.heap.size) := K0.out.t.new
                            have HB : Hid (Pd (wx.alloc Hh.o) wx.heap.size 0 Hh) := Pd.new wx Hh
                            replace K0 : Hid (RI w (wx.alloc Hh.o) br bd b c zb f1 f1 n1 n1 ob op pb Pp) := K0.out.alloc _
                            generalize wx.alloc Hh.o = wy at K0 HB ⊢
                            generalize wx.heap.size = hb at HB OH ⊢
                            refine wp_region_held_drew (S := fun V' => SB V' br bd kk (b kk) (c kk) hb Hh) (by kernel_rfl) (K0.out.drew.sb2 hkk HB.out.drew) (fun hHeld => ?_)
                            have K1 : Hid (RI w wy.drew br bd b c zb f1 f1 n1 n1 ob op pb Pp) := K0.out.drew
                            have HB1 : Hid (Pd wy.drew hb 0 Hh) := HB.out.drew
                            generalize wy.drew = z0 at hHeld K1 HB1 ⊢
                            clear K0 HB
                            refine wpAnyH_take (i := 0) (v := .int .i64 (kk : Int)) ov0 (by kernel_rfl) (by kernel_rfl) (by kernel_rfl) (fun _ _ _ h => h) (Or.inl ⟨by rfl, fun V' hS => ?_⟩) hHeld ?_
                            · go_simp
                            simp only [Act.put, List.setIfInBounds_toArray, List.set_cons_zero, List.set_cons_succ]
                            refine wpAnyH_take (i := 1) (v := .pointer (some ⟨br, kk, none⟩)) ov1 (by kernel_rfl) (by kernel_rfl) (by kernel_rfl) (fun _ _ _ h => h) (Or.inl ⟨by rfl, fun V' hS => ?_⟩) hHeld ?_
                            · go_simp
                            simp only [Act.put, List.setIfInBounds_toArray, List.set_cons_zero, List.set_cons_succ]
                            refine wpAnyH_take (i := 2) (v := .pointer (some ⟨(b kk), 0, none⟩)) ov2 (by kernel_rfl) (by kernel_rfl) (by kernel_rfl) (fun _ _ _ h => h) (Or.inl ⟨by rfl, fun V' hS => ?_⟩) hHeld ?_
                            · have q0 := hS.1
                              go_simp
                            simp only [Act.put, List.setIfInBounds_toArray, List.set_cons_zero, List.set_cons_succ]
                            refine wpAnyH_take (i := 3) (v := .agg #[.int .i64 Hh.a, .int .i64 Hh.b]) ov3 (by kernel_rfl) (by kernel_rfl) (by kernel_rfl) (fun _ _ _ h => h) (Or.inl ⟨by rfl, fun V' hS => ?_⟩) hHeld ?_
                            · obtain ⟨q0, q1, _⟩ := hS.2.2
                              go_simp
                            simp only [Act.put, List.setIfInBounds_toArray, List.set_cons_zero, List.set_cons_succ]
                            refine wpAnyH_ready (rs := [4]) (by kernel_rfl) (by simp) ?_
                            refine AllReadyH.cons ov4 (fun K hK => ?_) AllReadyH.nil
                            rw [if_pos (by rfl)]
                            go_simp
                            refine (rput_is z0 (b kk) (f1 kk) (n1 kk) (K1.out.t.s kk hkk) Hh).mono ?_
                            rintro e u1 ⟨rfl, h1, h2⟩
                            have K2 : Hid (RI w u1 br bd b c zb (upd f1 kk (pput (f1 kk) (pl (n1 kk)) Hh)) f1 (upd n1 kk (wrap64 (n1 kk + 1))) n1 ob op pb Pp) := K1.out.callS kk hkk h1 h2
                            have HB2 : Hid (Pd u1 hb 0 Hh) := HB1.out.only h2 (OH.out kk hkk).1
                            clear h1 h2
                            (try go_wp2_with fail)
                            refine hK.out _ _ (K2.out.sb2 hkk HB2.out) (fun _ => ?_)
                            clear hK K
                            (try simp only [Act.put, List.setIfInBounds_toArray, List.set_cons_zero, List.set_cons_succ])
                            refine wpAnyH_done (by kernel_rfl) ?_ _
                            go_upto_region 36 with fail
                            refine wp_region_held_drew (S := fun V' => SB V' br bd kk (b kk) (c kk) hb Hh) (by kernel_rfl) (K2.out.drew.sb2 hkk HB2.out.drew) (fun hHeld2 => ?_)
                            have K3 : Hid (RI w u1.drew br bd b c zb (upd f1 kk (pput (f1 kk) (pl (n1 kk)) Hh)) f1 (upd n1 kk (wrap64 (n1 kk + 1))) n1 ob op pb Pp) := K2.out.drew
                            have HB3 : Hid (Pd u1.drew hb 0 Hh) := HB2.out.drew
                            generalize u1.drew = z1 at hHeld2 K3 HB3 ⊢
                            clear K2
                            refine wpAnyH_take (i := 0) (v := .int .i64 (kk : Int)) ov0 (by kernel_rfl) (by kernel_rfl) (by kernel_rfl) (fun _ _ _ h => h) (Or.inl ⟨by rfl, fun V' hS => ?_⟩) hHeld2 ?_
                            · go_simp
                            simp only [Act.put, List.setIfInBounds_toArray, List.set_cons_zero, List.set_cons_succ]
                            refine wpAnyH_take (i := 1) (v := .pointer (some ⟨bd, kk, none⟩)) ov1 (by kernel_rfl) (by kernel_rfl) (by kernel_rfl) (fun _ _ _ h => h) (Or.inl ⟨by rfl, fun V' hS => ?_⟩) hHeld2 ?_
                            · go_simp
                            simp only [Act.put, List.setIfInBounds_toArray, List.set_cons_zero, List.set_cons_succ]
                            refine wpAnyH_take (i := 2) (v := .pointer (some ⟨(c kk), 0, none⟩)) ov2 (by kernel_rfl) (by kernel_rfl) (by kernel_rfl) (fun _ _ _ h => h) (Or.inl ⟨by rfl, fun V' hS => ?_⟩) hHeld2 ?_
                            · have q0 := hS.2.1
                              go_simp
                            simp only [Act.put, List.setIfInBounds_toArray, List.set_cons_zero, List.set_cons_succ]
                            refine wpAnyH_take (i := 3) (v := .agg #[.int .i64 Hh.a, .int .i64 Hh.b]) ov3 (by kernel_rfl) (by kernel_rfl) (by kernel_rfl) (fun _ _ _ h => h) (Or.inl ⟨by rfl, fun V' hS => ?_⟩) hHeld2 ?_
                            · obtain ⟨q0, q1, _⟩ := hS.2.2
                              go_simp
                            simp only [Act.put, List.setIfInBounds_toArray, List.set_cons_zero, List.set_cons_succ]
                            refine wpAnyH_ready (rs := [4]) (by kernel_rfl) (by simp) ?_
                            refine AllReadyH.cons ov4 (fun K hK => ?_) AllReadyH.nil
                            rw [if_pos (by rfl)]
                            go_simp
                            refine (rputR_is z1 (c kk) (f1 kk) (n1 kk) (K3.out.t.r kk hkk) Hh).mono ?_
                            rintro e u2 ⟨rfl, h1, h2⟩
                            have K4 : Hid (RI w u2 br bd b c zb (upd f1 kk (pput (f1 kk) (pl (n1 kk)) Hh)) (upd f1 kk (pput (f1 kk) (pl (n1 kk)) Hh)) (upd n1 kk (wrap64 (n1 kk + 1))) (upd n1 kk (wrap64 (n1 kk + 1))) ob op pb Pp) := K3.out.callR kk hkk h1 h2
                            have HB4 : Hid (Pd u2 hb 0 Hh) := HB3.out.only h2 (OH.out kk hkk).2
                            clear h1 h2
                            (try go_wp2_with fail)
                            refine hK.out _ _ (K4.out.sb2 hkk HB4.out) (fun _ => ?_)
                            clear hK K
                            (try simp only [Act.put, List.setIfInBounds_toArray, List.set_cons_zero, List.set_cons_succ])
                            refine wpAnyH_done (by kernel_rfl) ?_ _
                            go_wp2
                            go_roundw
                            case rel => exact ⟨j + 1, (upd f1 kk (pput (f1 kk) (pl (n1 kk)) Hh)), (upd n1 kk (wrap64 (n1 kk + 1))), by omega, by simp, K4.out⟩
                            case measure => simp [intOf]; omega
                        · replace h14 : (kd == 14) = false := by simpa using h14
                          by_cases h8 : kd = 8
                          · rw [h8] at k0
                            clear h8
                            as_aux_lemma =>
                              go_upto_region 39 with fail
                              clear k0
                              obtain ⟨y, ey⟩ : ∃ y, f1 kk (pl (n1 kk - 1)) = y := ⟨_, rfl⟩
                              have CS : Hid (∀ W, Rtn W (b kk) 0 2048 (f1 kk) (n1 kk) → Calls Try.prog 21 #[.pointer (some ⟨b kk, 0, none⟩)] W fun e w' => e = .returned y.v ∧ Rtn w' (b kk) 0 2048 (f1 kk) (wrap64 (n1 kk - 1)) ∧ Only (b kk) W w') := fun W hW => by rw [← ey]; exact rtake_is W (b kk) (f1 kk) (n1 kk) hW
                              have CR : Hid (∀ W, Rtn W (c kk) 1 0 (f1 kk) (n1 kk) → Calls Try.prog 22 #[.pointer (some ⟨c kk, 0, none⟩)] W fun e w' => e = .returned y.v ∧ Rtn w' (c kk) 1 0 (f1 kk) (wrap64 (n1 kk - 1)) ∧ Only (c kk) W w') := fun W hW => by rw [← ey]; exact rtakeR_is W (c kk) (f1 kk) (n1 kk) hW
                              clear ey
                              refine wp_region_held_drew (S := fun V' => SB V' br bd kk (b kk) (c kk) pb Pp) (by kernel_rfl) (K0.out.drew.sb hkk) (fun hHeld => ?_)
                              have K1 : Hid (RI w wx.drew br bd b c zb f1 f1 n1 n1 ob op pb Pp) := K0.out.drew
                              generalize wx.drew = z0 at hHeld K1 ⊢
                              clear K0
                              refine wpAnyH_take (i := 0) (v := .int .i64 (kk : Int)) ov0 (by kernel_rfl) (by kernel_rfl) (by kernel_rfl) (fun _ _ _ h => h) (Or.inl ⟨by rfl, fun V' hS => ?_⟩) hHeld ?_
                              · go_simp
                              simp only [Act.put, List.setIfInBounds_toArray, List.set_cons_zero, List.set_cons_succ]
                              refine wpAnyH_take (i := 1) (v := .pointer (some ⟨br, kk, none⟩)) ov1 (by kernel_rfl) (by kernel_rfl) (by kernel_rfl) (fun _ _ _ h => h) (Or.inl ⟨by rfl, fun V' hS => ?_⟩) hHeld ?_
                              · go_simp
                              simp only [Act.put, List.setIfInBounds_toArray, List.set_cons_zero, List.set_cons_succ]
                              refine wpAnyH_take (i := 2) (v := .pointer (some ⟨(b kk), 0, none⟩)) ov2 (by kernel_rfl) (by kernel_rfl) (by kernel_rfl) (fun _ _ _ h => h) (Or.inl ⟨by rfl, fun V' hS => ?_⟩) hHeld ?_
                              · have q0 := hS.1
                                go_simp
                              simp only [Act.put, List.setIfInBounds_toArray, List.set_cons_zero, List.set_cons_succ]
                              refine wpAnyH_take (i := 4) (v := .int .i64 (kk : Int)) ov4 (by kernel_rfl) (by kernel_rfl) (by kernel_rfl) (fun _ _ _ h => h) (Or.inl ⟨by rfl, fun V' hS => ?_⟩) hHeld ?_
                              · go_simp
                              simp only [Act.put, List.setIfInBounds_toArray, List.set_cons_zero, List.set_cons_succ]
                              refine wpAnyH_take (i := 5) (v := .pointer (some ⟨bd, kk, none⟩)) ov5 (by kernel_rfl) (by kernel_rfl) (by kernel_rfl) (fun _ _ _ h => h) (Or.inl ⟨by rfl, fun V' hS => ?_⟩) hHeld ?_
                              · go_simp
                              simp only [Act.put, List.setIfInBounds_toArray, List.set_cons_zero, List.set_cons_succ]
                              refine wpAnyH_take (i := 6) (v := .pointer (some ⟨(c kk), 0, none⟩)) ov6 (by kernel_rfl) (by kernel_rfl) (by kernel_rfl) (fun _ _ _ h => h) (Or.inl ⟨by rfl, fun V' hS => ?_⟩) hHeld ?_
                              · have q0 := hS.2.1
                                go_simp
                              simp only [Act.put, List.setIfInBounds_toArray, List.set_cons_zero, List.set_cons_succ]
                              refine wpAnyH_ready (rs := [3]) (by kernel_rfl) (by simp) ?_
                              refine AllReadyH.cons ov3 (fun K hK => ?_) AllReadyH.nil
                              rw [if_pos (by rfl)]
                              go_simp
                              refine (CS.out z0 (K1.out.t.s kk hkk)).mono ?_
                              rintro e u1 ⟨rfl, h1, h2⟩
                              unfold P2.v
                              have K2 : Hid (RI w u1 br bd b c zb (upd f1 kk (f1 kk)) f1 (upd n1 kk (wrap64 (n1 kk - 1))) n1 ob op pb Pp) := K1.out.callS kk hkk h1 h2
                              clear h1 h2
                              (try go_wp2_with fail)
                              refine hK.out _ _ (K2.out.sb hkk) (fun _ => ?_)
                              clear hK K
                              (try simp only [Act.put, List.setIfInBounds_toArray, List.set_cons_zero, List.set_cons_succ])
                              refine wpAnyH_ready (rs := [7]) (by kernel_rfl) (by simp) ?_
                              refine AllReadyH.cons ov7 (fun K hK => ?_) AllReadyH.nil
                              rw [if_pos (by rfl)]
                              go_simp
                              refine (CR.out u1 (K2.out.t.r kk hkk)).mono ?_
                              rintro e u2 ⟨rfl, h1, h2⟩
                              unfold P2.v
                              have K3 : Hid (RI w u2 br bd b c zb (upd f1 kk (f1 kk)) (upd f1 kk (f1 kk)) (upd n1 kk (wrap64 (n1 kk - 1))) (upd n1 kk (wrap64 (n1 kk - 1))) ob op pb Pp) := K2.out.callR kk hkk h1 h2
                              clear h1 h2
                              (try go_wp2_with fail)
                              refine hK.out _ _ (K3.out.sb hkk) (fun _ => ?_)
                              clear hK K
                              (try simp only [Act.put, List.setIfInBounds_toArray, List.set_cons_zero, List.set_cons_succ])
                              refine wpAnyH_take (i := 8) (v := .bool false) ov8 (by kernel_rfl) (by kernel_rfl) (by kernel_rfl) (fun _ _ _ h => h) (Or.inl ⟨by rfl, fun V' hS => ?_⟩) (K3.out.sb hkk) ?_
                              · have hq := eqp_self y.a y.b V'
                                go_simp
                              simp only [Act.put, List.setIfInBounds_toArray, List.set_cons_zero, List.set_cons_succ]
                              refine wpAnyH_done (by kernel_rfl) ?_ _
                              go_wp2
                              go_roundw
                              case rel => exact ⟨j + 1, (upd f1 kk (f1 kk)), (upd n1 kk (wrap64 (n1 kk - 1))), by omega, by simp, K3.out⟩
                              case measure => simp [intOf]; omega
                          · replace h8 : (kd == 8) = false := by simpa using h8
                            by_cases h15 : kd = 15
                            · rw [h15] at k0
                              clear h15
                              as_aux_lemma =>
                                go_upto_region 39 with fail
                                clear k0
                                obtain ⟨y, ey⟩ : ∃ y, f1 kk (pl (n1 kk - 1)) = y := ⟨_, rfl⟩
                                have CS : Hid (∀ W, Rtn W (b kk) 0 2048 (f1 kk) (n1 kk) → Calls Try.prog 21 #[.pointer (some ⟨b kk, 0, none⟩)] W fun e w' => e = .returned y.v ∧ Rtn w' (b kk) 0 2048 (f1 kk) (wrap64 (n1 kk - 1)) ∧ Only (b kk) W w') := fun W hW => by rw [← ey]; exact rtake_is W (b kk) (f1 kk) (n1 kk) hW
                                have CR : Hid (∀ W, Rtn W (c kk) 1 0 (f1 kk) (n1 kk) → Calls Try.prog 22 #[.pointer (some ⟨c kk, 0, none⟩)] W fun e w' => e = .returned y.v ∧ Rtn w' (c kk) 1 0 (f1 kk) (wrap64 (n1 kk - 1)) ∧ Only (c kk) W w') := fun W hW => by rw [← ey]; exact rtakeR_is W (c kk) (f1 kk) (n1 kk) hW
                                clear ey
                                refine wp_region_held_drew (S := fun V' => SB V' br bd kk (b kk) (c kk) pb Pp) (by kernel_rfl) (K0.out.drew.sb hkk) (fun hHeld => ?_)
                                have K1 : Hid (RI w wx.drew br bd b c zb f1 f1 n1 n1 ob op pb Pp) := K0.out.drew
                                generalize wx.drew = z0 at hHeld K1 ⊢
                                clear K0
                                refine wpAnyH_take (i := 0) (v := .int .i64 (kk : Int)) ov0 (by kernel_rfl) (by kernel_rfl) (by kernel_rfl) (fun _ _ _ h => h) (Or.inl ⟨by rfl, fun V' hS => ?_⟩) hHeld ?_
                                · go_simp
                                simp only [Act.put, List.setIfInBounds_toArray, List.set_cons_zero, List.set_cons_succ]
                                refine wpAnyH_take (i := 1) (v := .pointer (some ⟨br, kk, none⟩)) ov1 (by kernel_rfl) (by kernel_rfl) (by kernel_rfl) (fun _ _ _ h => h) (Or.inl ⟨by rfl, fun V' hS => ?_⟩) hHeld ?_
                                · go_simp
                                simp only [Act.put, List.setIfInBounds_toArray, List.set_cons_zero, List.set_cons_succ]
                                refine wpAnyH_take (i := 2) (v := .pointer (some ⟨(b kk), 0, none⟩)) ov2 (by kernel_rfl) (by kernel_rfl) (by kernel_rfl) (fun _ _ _ h => h) (Or.inl ⟨by rfl, fun V' hS => ?_⟩) hHeld ?_
                                · have q0 := hS.1
                                  go_simp
                                simp only [Act.put, List.setIfInBounds_toArray, List.set_cons_zero, List.set_cons_succ]
                                refine wpAnyH_take (i := 4) (v := .int .i64 (kk : Int)) ov4 (by kernel_rfl) (by kernel_rfl) (by kernel_rfl) (fun _ _ _ h => h) (Or.inl ⟨by rfl, fun V' hS => ?_⟩) hHeld ?_
                                · go_simp
                                simp only [Act.put, List.setIfInBounds_toArray, List.set_cons_zero, List.set_cons_succ]
                                refine wpAnyH_take (i := 5) (v := .pointer (some ⟨bd, kk, none⟩)) ov5 (by kernel_rfl) (by kernel_rfl) (by kernel_rfl) (fun _ _ _ h => h) (Or.inl ⟨by rfl, fun V' hS => ?_⟩) hHeld ?_
                                · go_simp
                                simp only [Act.put, List.setIfInBounds_toArray, List.set_cons_zero, List.set_cons_succ]
                                refine wpAnyH_take (i := 6) (v := .pointer (some ⟨(c kk), 0, none⟩)) ov6 (by kernel_rfl) (by kernel_rfl) (by kernel_rfl) (fun _ _ _ h => h) (Or.inl ⟨by rfl, fun V' hS => ?_⟩) hHeld ?_
                                · have q0 := hS.2.1
                                  go_simp
                                simp only [Act.put, List.setIfInBounds_toArray, List.set_cons_zero, List.set_cons_succ]
                                refine wpAnyH_ready (rs := [3]) (by kernel_rfl) (by simp) ?_
                                refine AllReadyH.cons ov3 (fun K hK => ?_) AllReadyH.nil
                                rw [if_pos (by rfl)]
                                go_simp
                                refine (CS.out z0 (K1.out.t.s kk hkk)).mono ?_
                                rintro e u1 ⟨rfl, h1, h2⟩
                                unfold P2.v
                                have K2 : Hid (RI w u1 br bd b c zb (upd f1 kk (f1 kk)) f1 (upd n1 kk (wrap64 (n1 kk - 1))) n1 ob op pb Pp) := K1.out.callS kk hkk h1 h2
                                clear h1 h2
                                (try go_wp2_with fail)
                                refine hK.out _ _ (K2.out.sb hkk) (fun _ => ?_)
                                clear hK K
                                (try simp only [Act.put, List.setIfInBounds_toArray, List.set_cons_zero, List.set_cons_succ])
                                refine wpAnyH_ready (rs := [7]) (by kernel_rfl) (by simp) ?_
                                refine AllReadyH.cons ov7 (fun K hK => ?_) AllReadyH.nil
                                rw [if_pos (by rfl)]
                                go_simp
                                refine (CR.out u1 (K2.out.t.r kk hkk)).mono ?_
                                rintro e u2 ⟨rfl, h1, h2⟩
                                unfold P2.v
                                have K3 : Hid (RI w u2 br bd b c zb (upd f1 kk (f1 kk)) (upd f1 kk (f1 kk)) (upd n1 kk (wrap64 (n1 kk - 1))) (upd n1 kk (wrap64 (n1 kk - 1))) ob op pb Pp) := K2.out.callR kk hkk h1 h2
                                clear h1 h2
                                (try go_wp2_with fail)
                                refine hK.out _ _ (K3.out.sb hkk) (fun _ => ?_)
                                clear hK K
                                (try simp only [Act.put, List.setIfInBounds_toArray, List.set_cons_zero, List.set_cons_succ])
                                refine wpAnyH_take (i := 8) (v := .bool false) ov8 (by kernel_rfl) (by kernel_rfl) (by kernel_rfl) (fun _ _ _ h => h) (Or.inl ⟨by rfl, fun V' hS => ?_⟩) (K3.out.sb hkk) ?_
                                · have hq := eqp_self y.a y.b V'
                                  go_simp
                                simp only [Act.put, List.setIfInBounds_toArray, List.set_cons_zero, List.set_cons_succ]
                                refine wpAnyH_done (by kernel_rfl) ?_ _
                                go_wp2
                                go_roundw
                                case rel => exact ⟨j + 1, (upd f1 kk (f1 kk)), (upd n1 kk (wrap64 (n1 kk - 1))), by omega, by simp, K3.out⟩
                                case measure => simp [intOf]; omega
                            · replace h15 : (kd == 15) = false := by simpa using h15
                              as_aux_lemma =>
                                go_wp2
                                go_roundw
                                case rel => exact ⟨j + 1, f1, n1, by omega, by simp, K0.out⟩
                                case measure => simp [intOf]; omega
              · have jI : ¬ ((j : Int) < (t : Int)) := by omega
                as_aux_lemma =>
                  go_upto_region 41 with fail
                  refine wp_region_held_drew (S := fun V' => S4 V' br bd (b 0) (b 1) (c 0) (c 1)) (by kernel_rfl) K0.out.drew.t.s4 (fun hHeld => ?_)
                  have K1 : Hid (RI w wx.drew br bd b c zb f1 f1 n1 n1 ob op pb Pp) := K0.out.drew
                  generalize wx.drew = z0 at hHeld K1 ⊢
                  clear K0
                  refine wpAnyH_take (i := 0) (v := .pointer (some ⟨br, 0, none⟩)) ov0 (by kernel_rfl) (by kernel_rfl) (by kernel_rfl) (fun _ _ _ h => h) (Or.inl ⟨by rfl, fun V' hS => ?_⟩) hHeld ?_
                  · go_simp
                  simp only [Act.put, List.setIfInBounds_toArray, List.set_cons_zero, List.set_cons_succ]
                  refine wpAnyH_take (i := 1) (v := .pointer (some ⟨(b 0), 0, none⟩)) ov1 (by kernel_rfl) (by kernel_rfl) (by kernel_rfl) (fun _ _ _ h => h) (Or.inl ⟨by rfl, fun V' hS => ?_⟩) hHeld ?_
                  · have q0 := hS.1.1
                    go_simp
                  simp only [Act.put, List.setIfInBounds_toArray, List.set_cons_zero, List.set_cons_succ]
                  refine wpAnyH_take (i := 3) (v := .pointer (some ⟨bd, 0, none⟩)) ov3 (by kernel_rfl) (by kernel_rfl) (by kernel_rfl) (fun _ _ _ h => h) (Or.inl ⟨by rfl, fun V' hS => ?_⟩) hHeld ?_
                  · go_simp
                  simp only [Act.put, List.setIfInBounds_toArray, List.set_cons_zero, List.set_cons_succ]
                  refine wpAnyH_take (i := 4) (v := .pointer (some ⟨(c 0), 0, none⟩)) ov4 (by kernel_rfl) (by kernel_rfl) (by kernel_rfl) (fun _ _ _ h => h) (Or.inl ⟨by rfl, fun V' hS => ?_⟩) hHeld ?_
                  · have q0 := hS.2.1
                    go_simp
                  simp only [Act.put, List.setIfInBounds_toArray, List.set_cons_zero, List.set_cons_succ]
                  refine wpAnyH_ready (rs := [2]) (by kernel_rfl) (by simp) ?_
                  refine AllReadyH.cons ov2 (fun K hK => ?_) AllReadyH.nil
                  rw [if_pos (by rfl)]
                  go_simp
                  refine (rlen_is z0 (b 0) (f1 0) (n1 0) (K1.out.t.s 0 (by omega))).mono ?_
                  rintro e w' ⟨rfl, hw⟩
                  have hw2 := hw.symm
                  clear hw
                  subst hw2
                  (try go_wp2_with fail)
                  refine hK.out _ _ hHeld (fun _ => ?_)
                  clear hK K
                  (try simp only [Act.put, List.setIfInBounds_toArray, List.set_cons_zero, List.set_cons_succ])
                  refine wpAnyH_ready (rs := [5]) (by kernel_rfl) (by simp) ?_
                  refine AllReadyH.cons ov5 (fun K hK => ?_) AllReadyH.nil
                  rw [if_pos (by rfl)]
                  go_simp
                  refine (rlenR_is z0 (c 0) (f1 0) (n1 0) (K1.out.t.r 0 (by omega))).mono ?_
                  rintro e w' ⟨rfl, hw⟩
                  have hw2 := hw.symm
                  clear hw
                  subst hw2
                  (try go_wp2_with fail)
                  refine hK.out _ _ hHeld (fun _ => ?_)
                  clear hK K
                  (try simp only [Act.put, List.setIfInBounds_toArray, List.set_cons_zero, List.set_cons_succ])
                  refine wpAnyH_take (i := 6) (v := .bool false) ov6 (by kernel_rfl) (by kernel_rfl) (by kernel_rfl) (fun _ _ _ h => h) (Or.inl ⟨by rfl, fun V' hS => ?_⟩) hHeld ?_
                  · go_simp
                  simp only [Act.put, List.setIfInBounds_toArray, List.set_cons_zero, List.set_cons_succ]
                  refine wpAnyH_take (i := 7) (v := .bool false) ov7 (by kernel_rfl) (by kernel_rfl) (by kernel_rfl) (fun _ _ _ h => h) (Or.inl ⟨by rfl, fun V' hS => ?_⟩) hHeld ?_
                  · go_simp
                  simp only [Act.put, List.setIfInBounds_toArray, List.set_cons_zero, List.set_cons_succ]
                  refine wpAnyH_take (i := 8) (v := .pointer (some ⟨br, 1, none⟩)) ov8 (by kernel_rfl) (by kernel_rfl) (by kernel_rfl) (fun _ _ _ h => h) (Or.inl ⟨by rfl, fun V' hS => ?_⟩) hHeld ?_
                  · go_simp
                  simp only [Act.put, List.setIfInBounds_toArray, List.set_cons_zero, List.set_cons_succ]
                  refine wpAnyH_take (i := 9) (v := .pointer (some ⟨(b 1), 0, none⟩)) ov9 (by kernel_rfl) (by kernel_rfl) (by kernel_rfl) (fun _ _ _ h => h) (Or.inl ⟨by rfl, fun V' hS => ?_⟩) hHeld ?_
                  · have q0 := hS.1.2
                    go_simp
                  simp only [Act.put, List.setIfInBounds_toArray, List.set_cons_zero, List.set_cons_succ]
                  refine wpAnyH_take (i := 11) (v := .pointer (some ⟨bd, 1, none⟩)) ov11 (by kernel_rfl) (by kernel_rfl) (by kernel_rfl) (fun _ _ _ h => h) (Or.inl ⟨by rfl, fun V' hS => ?_⟩) hHeld ?_
                  · go_simp
                  simp only [Act.put, List.setIfInBounds_toArray, List.set_cons_zero, List.set_cons_succ]
                  refine wpAnyH_take (i := 12) (v := .pointer (some ⟨(c 1), 0, none⟩)) ov12 (by kernel_rfl) (by kernel_rfl) (by kernel_rfl) (fun _ _ _ h => h) (Or.inl ⟨by rfl, fun V' hS => ?_⟩) hHeld ?_
                  · have q0 := hS.2.2
                    go_simp
                  simp only [Act.put, List.setIfInBounds_toArray, List.set_cons_zero, List.set_cons_succ]
                  refine wpAnyH_ready (rs := [10]) (by kernel_rfl) (by simp) ?_
                  refine AllReadyH.cons ov10 (fun K hK => ?_) AllReadyH.nil
                  rw [if_pos (by rfl)]
                  go_simp
                  refine (rlen_is z0 (b 1) (f1 1) (n1 1) (K1.out.t.s 1 (by omega))).mono ?_
                  rintro e w' ⟨rfl, hw⟩
                  have hw2 := hw.symm
                  clear hw
                  subst hw2
                  (try go_wp2_with fail)
                  refine hK.out _ _ hHeld (fun _ => ?_)
                  clear hK K
                  (try simp only [Act.put, List.setIfInBounds_toArray, List.set_cons_zero, List.set_cons_succ])
                  refine wpAnyH_ready (rs := [13]) (by kernel_rfl) (by simp) ?_
                  refine AllReadyH.cons ov13 (fun K hK => ?_) AllReadyH.nil
                  rw [if_pos (by rfl)]
                  go_simp
                  refine (rlenR_is z0 (c 1) (f1 1) (n1 1) (K1.out.t.r 1 (by omega))).mono ?_
                  rintro e w' ⟨rfl, hw⟩
                  have hw2 := hw.symm
                  clear hw
                  subst hw2
                  (try go_wp2_with fail)
                  refine hK.out _ _ hHeld (fun _ => ?_)
                  clear hK K
                  (try simp only [Act.put, List.setIfInBounds_toArray, List.set_cons_zero, List.set_cons_succ])
                  refine wpAnyH_take (i := 14) (v := .bool false) ov14 (by kernel_rfl) (by kernel_rfl) (by kernel_rfl) (fun _ _ _ h => h) (Or.inl ⟨by rfl, fun V' hS => ?_⟩) hHeld ?_
                  · go_simp
                  simp only [Act.put, List.setIfInBounds_toArray, List.set_cons_zero, List.set_cons_succ]
                  refine wpAnyH_take (i := 15) (v := .bool false) ov15 (by kernel_rfl) (by kernel_rfl) (by kernel_rfl) (fun _ _ _ h => h) (Or.inl ⟨by rfl, fun V' hS => ?_⟩) hHeld ?_
                  · go_simp
                  simp only [Act.put, List.setIfInBounds_toArray, List.set_cons_zero, List.set_cons_succ]
                  refine wpAnyH_done (by kernel_rfl) ?_ _
                  go_wp2
                  go_roundw
                  case rel => exact ⟨i + 1, f1, n1, by omega, by simp, K1.out.t⟩
                  case measure => simp [intOf]; omega
    · have iI : ¬ ((i : Int) < (n0 : Int)) := by omega
      have CS : Hid (Calls Try.prog 15 #[.pointer (some ⟨zb, 0, none⟩), .agg #[.int .i64 2, .int .i64 9]] wr fun e w' => e = .returned (.int .i64 0) ∧ Rtn w' zb 0 2048 (pput pring0 0 ⟨2, 9⟩) 1 ∧ Only zb wr w') := by
        have h := rpush_is wr zb pring0 0 R1.out.z ⟨2, 9⟩
        rw [push29] at h
        exact h
      have CL : Hid (∀ W, Rtn W zb 0 2048 (pput pring0 0 ⟨2, 9⟩) 1 → Calls Try.prog 23 #[.pointer (some ⟨zb, 0, none⟩)] W fun e w' => e = .returned (.int .i64 1) ∧ w' = W) := fun W hW => rlen_is W zb _ 1 hW
      have CT : Hid (∀ W, Rtn W zb 0 2048 (pput pring0 0 ⟨2, 9⟩) 1 → Calls Try.prog 21 #[.pointer (some ⟨zb, 0, none⟩)] W fun e w' => e = .returned (.agg #[.int .i64 2, .int .i64 9]) ∧ Only zb W w') := fun W hW => by
        have h := rtake_is W zb _ 1 hW
        rw [take29] at h
        exact h.mono (fun e w' h => ⟨h.1, h.2.2⟩)
      have hq := fun W => eqp_self 2 9 W
      go_wp2_with (first | (go_at_call 15; refine (CS.out).mono ?_; rintro e u1 ⟨rfl, h1, h2⟩; (have Z1 : Hid (Rtn u1 zb 0 2048 (pput pring0 0 ⟨2, 9⟩) 1) := h1); (have O1 : Hid (Only zb wr u1) := h2); clear h1 h2 CS) | (go_at_call 23; refine (CL.out _ Z1.out).mono ?_; rintro e u2 ⟨rfl, rfl⟩; clear CL) | (go_at_call 21; refine (CT.out _ Z1.out).mono ?_; rintro e u3 ⟨rfl, h2⟩; (have O2 : Hid (Only zb u2 u3) := h2); clear h2 CT))
      go_ret
      exact ⟨rfl, R1.out.bel.trans ((O1.out.below R1.out.gz R1.out.bel.size).trans (O2.out.below R1.out.gz (Nat.le_trans R1.out.bel.size O1.out.size)))⟩
end Go.Proofs.Ytdddmebihkdkjaa
