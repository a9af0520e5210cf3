/- The document's 'Permute': lanes to bits, 24 rounds, bits to lanes. -/
import Derived.Test.YteggikojfkmbkaaDoorVi
import Derived.Test.YteggikojfkmbkaaDoorKp
namespace Go.Proofs.YteggikojfkmbkaaDoor
open Go.RowKit
theorem lane_bit (f : KSt) (i z : Nat) (hz : z < 64) : bs f (64 * i + z) = (f i).toNat / 2 ^ z % 2 := by
  rw [bs_at _ _ _ hz, BitVec.getLsbD, Nat.testBit_eq_decide_div_mod_eq]
  have := Nat.mod_two_eq_zero_or_one ((f i).toNat / 2 ^ z)
  rcases this with h | h <;> simp [h]
theorem half_pow (X z : Nat) : X / 2 ^ z / 2 = X / 2 ^ (z + 1) := by rw [Nat.div_div_eq_div_mul, Nat.pow_succ]
theorem join_pow (X z : Nat) : 2 * (X / 2 ^ (z + 1)) + X / 2 ^ z % 2 = X / 2 ^ z := by rw [← half_pow]; omega
/-- while the lanes are taken apart -/
def PInv (w : World) (v : Nat → Int) (g : Nat → Nat) (c : Nat) (W : World) : Prop :=
  Below w.heap.size w W ∧ Row W w.heap.size 25 v ∧ Row W (w.heap.size + 1) 25 (fun _ => 0) ∧ ∃ u : Nat → Nat, RowI W (w.heap.size + 1 + 1) 1600 u ∧ Up g (fun k => k) c u
theorem PInv.set {w W : World} {v : Nat → Int} {g : Nat → Nat} {c x : Nat} (h : PInv w v g c W) (hx : x = g c) : PInv w v g (c + 1) (W.setCell ⟨w.heap.size + 1 + 1, c, none⟩ (.int .i64 (x : Int))) := by
  obtain ⟨hB, hA, hZ, u, hU, hu⟩ := h
  exact ⟨hB.setCell (by simp; omega) _, hA.set_other _ _ (by simp; omega), hZ.set_other _ _ (by simp), _, hU.set c x, hu.set rfl hx (fun k hk => by show k ≠ c; omega)⟩
theorem PInv.room {w W : World} {v : Nat → Int} {g : Nat → Nat} {c : Nat} (h : PInv w v g c W) (i : Nat) (hi : i < 1600) : ∃ z : Int, W.cell? ⟨w.heap.size + 1 + 1, i, none⟩ = some (.int .i64 z) ∧ W.frozen? ⟨w.heap.size + 1 + 1, i, none⟩ = false := by
  obtain ⟨_, _, _, u, hU, _⟩ := h
  exact ⟨u i, hU i hi⟩
/-- while the lanes are put together -/
def QInv (w : World) (b7 b8 : Nat) (g : Nat → Nat) (v : Nat → Int) (c : Nat) (W : World) : Prop :=
  Below w.heap.size w W ∧ Row W (w.heap.size + 1) 25 (fun _ => 0) ∧ RowI W b7 1600 g ∧ ∃ u : Nat → Int, Row W b8 25 u ∧ ∀ j, j < c → u j = v j
theorem QInv.set {w W : World} {b7 b8 : Nat} {g : Nat → Nat} {v : Nat → Int} {c : Nat} {x : Int} (h : QInv w b7 b8 g v c W) (hc : c < 25) (h8 : w.heap.size + 1 < b8) (h7 : b7 ≠ b8) (hx : x = v c) : QInv w b7 b8 g v (c + 1) (W.setCell ⟨b8, c, none⟩ (.int .u64 x)) := by
  obtain ⟨hB, hZ, hA, u, hU, hu⟩ := h
  refine ⟨hB.setCell (by show w.heap.size ≤ b8; omega) _, hZ.set_other _ _ (by show b8 ≠ w.heap.size + 1; omega), hA.set_other _ _ (fun e => h7 e.symm), _, hU.set c x hc, fun j hj => ?_⟩
  by_cases e : j = c
  · rw [if_pos e, hx, e]
  · rw [if_neg e]; exact hu j (by omega)
set_option maxHeartbeats 4000000 in
set_option maxRecDepth 100000 in
theorem rpermute_is (f : KSt) (w : World) : Calls Tryd.prog 12 #[.agg (rowL 25 (iv f)).toArray] w fun e w' => e = .returned (.agg (rowL 25 (iv (rndsF 24 f))).toArray) ∧ Below w.heap.size w w' := by
  obtain ⟨cs, hcs⟩ : ∃ cs, cs = (rowL 25 (iv f)).toArray := ⟨_, rfl⟩
  rw [← hcs]
  have HC : Hid (cs = (rowL 25 (iv f)).toArray) := hcs
  clear hcs
  go_enter Tryd.func12, Tryd.ntmps12
  go_upto_region 1 with fail
  rw [zero25]
  go_upto_region 2 with (refine allocSt rfl rfl ?_; intro W1 hW1)
  have z1 : ((w.alloc (.cells cs 23)).alloc (.cells (rowL 25 fun _ => 0).toArray 23)).heap.size = w.heap.size + 1 + 1 := by simp
  have S0 : Hid (PInv w (iv f) (bs f) 0 W1) := by
    have b0 : Below w.heap.size w ((w.alloc (.cells cs 23)).alloc (.cells (rowL 25 fun _ => 0).toArray 23)) := ((Below.refl _ _).alloc (Nat.le_refl _) _).alloc (by simp) _
    have r0 : Row ((w.alloc (.cells cs 23)).alloc (.cells (rowL 25 fun _ => 0).toArray 23)) w.heap.size 25 (iv f) := by rw [HC.out]; exact (Row.new w 23 25 (iv f)).alloc _
    have r1 : Row ((w.alloc (.cells cs 23)).alloc (.cells (rowL 25 fun _ => 0).toArray 23)) (w.heap.size + 1) 25 (fun _ => 0) := by
      have := Row.new (w.alloc (.cells cs 23)) 23 25 fun _ => 0
      simpa using this
    have q := hW1.row
    rw [z1] at q
    exact ⟨b0.trans (hW1.bel.mono b0.size), r0.below hW1.bel (r0.lt (by omega)), r1.below hW1.bel (r1.lt (by omega)), _, q, Up.zero _ _ _⟩
  rw [z1]
  clear HC hW1 z1
  go_wp2
  go_loopw [4] (fun s wr => ∃ i : Nat, i ≤ 25 ∧ s = .int .i64 (i : Int) ∧ PInv w (iv f) (bs f) (64 * i) wr) (fun s _ => 25 - (intOf s).toNat)
  case atStart => exact ⟨0, Nat.zero_le _, rfl, S0.out⟩
  case round =>
    clear S0
    obtain ⟨i, hi, rfl, hI⟩ := hrel
    have HI : Hid (PInv w (iv f) (bs f) (64 * i) wr) := hI
    clear hI
    by_cases hi5 : i < 25
    · have iI : (i : Int) < 25 := by omega
      clear hi
      have ci := (HI.out.2.1 i hi5).1
      have hlt := (f i).isLt
      have BT : Hid (∀ z, z < 64 → bs f (64 * i + z) = (f i).toNat / 2 ^ z % 2) := fun z hz => lane_bit f i z hz
      obtain ⟨X, eX⟩ : ∃ X, X = (f i).toNat := ⟨_, rfl⟩
      rw [← eX] at hlt BT
      have e0 : iv f i = (X : Int) := by rw [eX]; rfl
      rw [e0] at ci
      clear eX e0
      go_wp2
      go_loopw [5, 6] (fun n s wx => ∃ z : Nat, z ≤ 64 ∧ s = .int .i64 (z : Int) ∧ n = .int .u64 ((X / 2 ^ z : Nat) : Int) ∧ PInv w (iv f) (bs f) (64 * i + z) wx) (fun _ s _ => 64 - (intOf s).toNat)
      case atStart => exact ⟨0, Nat.zero_le _, rfl, by simp, HI.out⟩
      case round =>
        clear HI ci
        obtain ⟨z, hz, rfl, rfl, hI⟩ := hrel
        have HI : Hid (PInv w (iv f) (bs f) (64 * i + z) wr) := hI
        clear hI
        by_cases hz5 : z < 64
        · have zI : (z : Int) < 64 := by omega
          clear hz
          obtain ⟨x1, e1⟩ : ∃ x : Nat, x = 64 * i := ⟨_, rfl⟩
          obtain ⟨r, er⟩ : ∃ x : Nat, x = x1 + z := ⟨_, rfl⟩
          obtain ⟨n, en⟩ : ∃ n : Nat, n = X / 2 ^ z := ⟨_, rfl⟩
          obtain ⟨b, eb⟩ : ∃ b : Nat, b = n % 2 := ⟨_, rfl⟩
          obtain ⟨m, em⟩ : ∃ m : Nat, m = n / 2 := ⟨_, rfl⟩
          have hn : n ≤ X := by rw [en]; exact Nat.div_le_self _ _
          have HM : Hid (m = X / 2 ^ (z + 1)) := by unfold Hid; rw [em, en, half_pow]
          obtain ⟨zz, cz, fz⟩ := PInv.room HI.out r (by omega)
          have NS : Hid (PInv w (iv f) (bs f) (64 * i + (z + 1)) (wr.setCell ⟨w.heap.size + 1 + 1, r, none⟩ (.int .i64 (b : Int)))) := by
            have hh := HI.out
            rw [← e1, ← er] at hh
            have := hh.set (x := b) (by rw [er, e1, BT.out z hz5, eb, en])
            have e : 64 * i + (z + 1) = r + 1 := by omega
            unfold Hid; rw [e]; exact this
          have s1 : (64 : Int) * (i : Int) = (x1 : Int) := by omega
          have s2 : (x1 : Int) + (z : Int) = (r : Int) := by omega
          have s3 : Int.tmod (n : Int) 2 = (b : Int) := by rw [Int.tmod_eq_emod_of_nonneg (by omega)]; omega
          have s4 : Int.tdiv (n : Int) 2 = (m : Int) := by rw [Int.tdiv_eq_ediv_of_nonneg (by omega)]; omega
          have w1 : IntKind.i64.wrap (x1 : Int) = (x1 : Int) := by rw [IntKind.wrap_i64]; omega
          have w2 : IntKind.i64.wrap (r : Int) = (r : Int) := by rw [IntKind.wrap_i64]; omega
          have w3 : IntKind.u64.wrap (b : Int) = (b : Int) := by rw [IntKind.wrap_u64]; omega
          have w4 : IntKind.i64.wrap (b : Int) = (b : Int) := by rw [IntKind.wrap_i64]; omega
          have w5 : IntKind.u64.wrap (m : Int) = (m : Int) := by rw [IntKind.wrap_u64]; omega
          have i1 : (r : Int) < 1600 := by omega
          rw [← en]
          clear e1 er en eb em hn HI
          go_wp2
          go_roundw
          case rel => exact ⟨z + 1, by omega, by go_num, by rw [HM.out], NS.out⟩
          case measure => simp [intOf]; omega
        · obtain rfl : z = 64 := by omega
          have NS : Hid (PInv w (iv f) (bs f) (64 * (i + 1)) wr) := HI.out
          clear HI
          go_wp2
          go_roundw
          case rel => exact ⟨i + 1, by omega, by go_num, NS.out⟩
          case measure => simp [intOf]; omega
    · obtain rfl : i = 25 := by omega
      obtain ⟨B0, _, R1, u, R2, hu⟩ := HI.out
      have HR2 : Hid (RowI wr (w.heap.size + 1 + 1) 1600 (bs f)) := R2.ext (hu.all fun i hi => ⟨i, hi, rfl⟩)
      have HR1 : Hid (Row wr (w.heap.size + 1) 25 fun _ => 0) := R1
      have HB : Hid (Below w.heap.size w wr) := B0
      have hs : w.heap.size + 1 + 1 < wr.heap.size := R2.lt (by omega)
      have RD : Hid (∀ V, Calls Tryd.prog 33 #[.agg (intsD (bs f) 1600).toArray] V fun e w' => e = .returned (.agg (intsD (bs (rndsF 24 f)) 1600).toArray) ∧ Below V.heap.size V w') := fun V => rounds_is f V
      have LB : Hid (∀ i z, z < 64 → bs (rndsF 24 f) (64 * i + z) = (rndsF 24 f i).toNat / 2 ^ z % 2) := fun i z hz => lane_bit _ i z hz
      have LT : Hid (∀ i, (rndsF 24 f i).toNat < 2 ^ 64) := fun i => (rndsF 24 f i).isLt
      have LE : Hid (∀ i, iv (rndsF 24 f) i = ((rndsF 24 f i).toNat : Int)) := fun i => rfl
      clear B0 R1 R2 hu HI hi hi5
      obtain ⟨X, eX⟩ : ∃ X : Nat → Nat, X = fun i => (rndsF 24 f i).toNat := ⟨_, rfl⟩
      obtain ⟨V, eV⟩ : ∃ V : Nat → Int, V = iv (rndsF 24 f) := ⟨_, rfl⟩
      obtain ⟨G, eG⟩ : ∃ G : Nat → Nat, G = bs (rndsF 24 f) := ⟨_, rfl⟩
      have EV : Hid (V = iv (rndsF 24 f)) := eV
      have LB2 : Hid (∀ i z, z < 64 → G (64 * i + z) = X i / 2 ^ z % 2) := by intro i z hz; rw [eG, eX]; exact LB.out i z hz
      have LT2 : Hid (∀ i, X i < 2 ^ 64) := by intro i; rw [eX]; exact LT.out i
      have LE2 : Hid (∀ i, V i = (X i : Int)) := by intro i; rw [eV, eX]; exact LE.out i
      rw [← eG] at RD
      clear LB LT LE eX eV eG
      generalize bs f = F0 at HR2 RD
      go_upto_region 12 with (first
        | refine loadSt F0 (w.heap.size + 1 + 1) rfl _ rfl rfl HR2.out ?_
        | (go_at_call 33; refine (RD.out _).mono ?_; rintro e v1 ⟨rfl, hB⟩; (have B1 : Hid (Below w.heap.size w v1) := HB.out.trans (hB.mono HB.out.size)); (have R1 : Hid (Row v1 (w.heap.size + 1) 25 fun _ => 0) := HR1.out.below hB (HR1.out.lt (by omega))); (have z1 : w.heap.size + 1 + 1 < v1.heap.size := Nat.lt_of_lt_of_le hs hB.size); clear hB HR2 HR1 HB)
        | (refine newSt G rfl rfl _ rfl rfl _ rfl rfl rfl rfl ?_; intro v2 hN; (have B2 : Hid (Below w.heap.size w v2) := B1.out.trans (hN.bel.mono B1.out.size)); (have R2 : Hid (Row v2 (w.heap.size + 1) 25 fun _ => 0) := R1.out.below hN.bel (R1.out.lt (by omega))); (have R7 : Hid (RowI v2 v1.heap.size 1600 G) := hN.row); (have z2 := hN.siz); clear hN R1 B1))
      go_upto_region 13 with fail
      rw [zero25]
      obtain ⟨b7, e7⟩ : ∃ b, v1.heap.size = b := ⟨_, rfl⟩
      obtain ⟨b8, e8⟩ : ∃ b, v2.heap.size = b := ⟨_, rfl⟩
      have h78 : b7 ≠ b8 := by omega
      have h18 : w.heap.size + 1 < b8 := by omega
      have S0 : Hid (QInv w b7 b8 G V 0 (v2.alloc (.cells (rowL 25 fun _ => 0).toArray 23))) := by
        refine ⟨B2.out.alloc B2.out.size _, R2.out.alloc _, ?_, fun _ => 0, ?_, fun j hj => absurd hj (by omega)⟩
        · rw [← e7]; exact R7.out.past ((Below.refl _ _).alloc (Nat.le_refl _) _)
        · rw [← e8]; exact Row.new v2 23 25 fun _ => 0
      generalize v2.alloc (.cells (rowL 25 fun _ => 0).toArray 23) = v3 at S0 ⊢
      have e9 : b7 + 1 = b8 := by omega
      rw [e7, e9]
      clear e9 B2 R2 R7 z1 z2 e7 e8 hs RD
      go_wp2
      go_loopw [9] (fun s wr => ∃ i : Nat, i ≤ 25 ∧ s = .int .i64 (i : Int) ∧ QInv w b7 b8 G V i wr) (fun s _ => 25 - (intOf s).toNat)
      case atStart => exact ⟨0, Nat.zero_le _, rfl, S0.out⟩
      case round =>
        clear S0
        obtain ⟨i, hi, rfl, hI⟩ := hrel
        have HI : Hid (QInv w b7 b8 G V i wr) := hI
        clear hI
        by_cases hi5 : i < 25
        · have iI : (i : Int) < 25 := by omega
          clear hi
          have hlt := LT2.out i
          have BT : Hid (∀ z, z < 64 → G (64 * i + z) = X i / 2 ^ z % 2) := fun z hz => LB2.out i z hz
          have EI : Hid (V i = (X i : Int)) := LE2.out i
          generalize X i = x at hlt BT EI
          go_wp2
          go_loopw [10, 11] (fun n s wx => ∃ c : Nat, c ≤ 64 ∧ s = .int .i64 ((c : Int) - 1) ∧ n = .int .u64 ((x / 2 ^ c : Nat) : Int) ∧ QInv w b7 b8 G V i wx) (fun _ s _ => (intOf s + 1).toNat)
          case atStart => exact ⟨64, Nat.le_refl _, rfl, by rw [Nat.div_eq_of_lt hlt]; rfl, HI.out⟩
          case round =>
            clear HI
            obtain ⟨c, hc, rfl, rfl, hI⟩ := hrel
            have HI : Hid (QInv w b7 b8 G V i wr) := hI
            clear hI
            rcases c with _ | z
            · have s0 : ((0 : Nat) : Int) - 1 = -1 := rfl
              have s1 : x / 2 ^ 0 = x := by simp
              rw [s0, s1]
              obtain ⟨_, _, _, u, hU, _⟩ := HI.out
              have cz := (hU i hi5).1
              have fz := (hU i hi5).2
              have NS : Hid (QInv w b7 b8 G V (i + 1) (wr.setCell ⟨b8, i, none⟩ (.int .u64 (x : Int)))) := HI.out.set hi5 h18 h78 EI.out.symm
              generalize u i = uu at cz
              clear hU s0 s1 hc HI BT EI
              go_wp2
              go_roundw
              case rel => exact ⟨i + 1, by omega, by go_num, NS.out⟩
              case measure => simp [intOf]; omega
            · have s0 : ((z + 1 : Nat) : Int) - 1 = (z : Int) := by omega
              rw [s0]
              have zI : (0 : Int) ≤ (z : Int) := by omega
              obtain ⟨x1, e1⟩ : ∃ x : Nat, x = 64 * i := ⟨_, rfl⟩
              obtain ⟨r, er⟩ : ∃ x : Nat, x = x1 + z := ⟨_, rfl⟩
              obtain ⟨n, en⟩ : ∃ n : Nat, n = x / 2 ^ (z + 1) := ⟨_, rfl⟩
              obtain ⟨n2, en2⟩ : ∃ n2 : Nat, n2 = 2 * n := ⟨_, rfl⟩
              obtain ⟨m, em⟩ : ∃ m : Nat, m = x / 2 ^ z := ⟨_, rfl⟩
              have cb := (HI.out.2.2.1 r (by omega)).1
              have hb : G r = x / 2 ^ z % 2 := by rw [er, e1]; exact BT.out z (by omega)
              have hj := join_pow x z
              have hm : m ≤ x := by rw [em]; exact Nat.div_le_self _ _
              generalize G r = b at cb hb
              rw [← hb, ← en, ← en2, ← em] at hj
              have HM : Hid (m = x / 2 ^ z) := em
              have hb1 : b ≤ 1 := by rw [hb]; omega
              have s1 : (64 : Int) * (i : Int) = (x1 : Int) := by omega
              have s2 : (x1 : Int) + (z : Int) = (r : Int) := by omega
              have s3 : (2 : Int) * (n : Int) = (n2 : Int) := by omega
              have s4 : (n2 : Int) + (b : Int) = (m : Int) := by omega
              have w1 : IntKind.i64.wrap (x1 : Int) = (x1 : Int) := by rw [IntKind.wrap_i64]; omega
              have w2 : IntKind.i64.wrap (r : Int) = (r : Int) := by rw [IntKind.wrap_i64]; omega
              have w3 : IntKind.u64.wrap (n2 : Int) = (n2 : Int) := by rw [IntKind.wrap_u64]; omega
              have w4 : IntKind.u64.wrap (b : Int) = (b : Int) := by rw [IntKind.wrap_u64]; omega
              have w5 : IntKind.u64.wrap (m : Int) = (m : Int) := by rw [IntKind.wrap_u64]; omega
              have i1 : (r : Int) < 1600 := by omega
              have hz64 : z ≤ 64 := by omega
              rw [← en]
              clear s0 e1 er en en2 em hm hb hj hb1 hc
              go_wp2
              go_roundw
              case rel => exact ⟨z, hz64, rfl, by rw [HM.out], HI.out⟩
              case measure => (simp [intOf]) <;> omega
        · obtain rfl : i = 25 := by omega
          obtain ⟨B0, R1, _, u, R8, hu⟩ := HI.out
          have hl : rowL 25 u = rowL 25 V := rowL_ext hu
          have hr := R8.range
          rw [hl] at hr
          have HR : Hid _ := hr
          have HZ : Hid (wr.there (w.heap.size + 1) 0 25) := R1.there
          have HW : Hid (Row (wr.setCells (w.heap.size + 1) 0 (rowL 25 V)) (w.heap.size + 1) 25 V) := R1.of_range
          have HBW : Hid (Below w.heap.size w (wr.setCells (w.heap.size + 1) 0 (rowL 25 V))) := below_setCells _ (by omega) _ _ _ B0
          clear B0 R1 R8 hu hl hr HI
          go_wp2_with (first
            | refine load25 V b8 rfl _ rfl rfl HR.out ?_
            | refine store25 V (w.heap.size + 1) rfl _ _ rfl rfl rfl HZ.out ?_)
          refine bodyPost_ret (v := .agg (rowL 25 V).toArray) ?_ rfl ⟨by rw [EV.out], HBW.out⟩
          exact results_cell Tryd.results12 _ _ _ ⟨w.heap.size + 1, 0, none⟩ rfl (loadVar25 (Row.range HW.out))
end Go.Proofs.YteggikojfkmbkaaDoor
