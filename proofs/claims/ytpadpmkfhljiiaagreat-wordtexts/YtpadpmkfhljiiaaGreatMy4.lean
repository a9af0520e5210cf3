/- The document's 'based': a row's digits in a base. -/
import Derived.Test.YtpadpmkfhljiiaaGreatMy3
import Derived.Maps.AppendAt
import Derived.Test.YtpadpmkfhljiiaaGreatMy1
namespace Go.Proofs.YtpadpmkfhljiiaaGreat
open Go.RowKit
def lenV : Value → Nat
  | .slice _ n _ => n
  | _ => 0
theorem ownsR_below {B : Nat} {e : TypeId} {k : Nat} {v : Value} {n : Nat} {xs : List Value} {w w' : World} (h : w.ownsRow B e k v n xs) (hb : Below w.heap.size w w') : w'.ownsRow B e k v n xs :=
  h.kept (row := none) ⟨hb.os, hb.tape, hb.output, hb.size, fun j hj _ => hb.block j hj⟩ (by cases hv : v.ownBlock <;> simp)
/-- digits, lowest first -/
def dgs (B N k i : Nat) : Nat := if i < k then N / B ^ i % B else 0
theorem dgs_lt {B : Nat} (h0 : 0 < B) (h : B ≤ 16) (N k i : Nat) : dgs B N k i < 256 := by
  unfold dgs
  split
  · have := Nat.mod_lt (N / B ^ i) h0; omega
  · omega
theorem ints_dgs (B N k : Nat) : intsD (dgs B N k) k = intsD (fun i => N / B ^ i % B) k := by
  unfold intsD
  apply List.map_congr_left
  intro i hi
  unfold dgs
  rw [if_pos (List.mem_range.1 hi)]
/-- where the rounds of 'based' stand -/
structure BsInv (w : World) (B N n k : Nat) (a l : Value) (W : World) : Prop where
  row : ∃ f, RowAt W a n f ∧ dsum f n = N / B ^ k
  own : W.ownsRow w.heap.size 3 1 l k (intsD (fun i => N / B ^ i % B) k)
  ap : ∀ g o m c, a = .slice (some ⟨g, o, none⟩) m c → l.ownBlock ≠ some g
  bel : Below w.heap.size w W
theorem based_num {B r j nn q r' n : Nat} {y f : Nat → Nat} (hj : j < n) (hy : y j = 0) (e : B * dsum y n + r * 256 ^ (j + 1) + dsum f (j + 1) = dsum f n) (hn : nn = 256 * r + f j) (hq : q = nn / B) (hr : r' = nn % B) :
    B * dsum (setD y j q) n + r' * 256 ^ j + dsum f j = dsum f n := by
  have h1 := dsum_set y j q n hj
  rw [hy, Nat.zero_mul, Nat.add_zero] at h1
  have h2 : B * q + r' = nn := by rw [hq, hr]; exact Nat.div_add_mod _ _
  have h3 : (B * q + r') * 256 ^ j = (256 * r + f j) * 256 ^ j := by rw [h2, hn]
  have h4 : dsum f (j + 1) = dsum f j + f j * 256 ^ j := rfl
  have h5 : r * 256 ^ (j + 1) = 256 * r * 256 ^ j := by rw [Nat.pow_succ, Nat.mul_comm (256 ^ j), ← Nat.mul_assoc, Nat.mul_comm r]
  rw [h1, Nat.mul_add, ← Nat.mul_assoc]
  rw [Nat.add_mul, Nat.add_mul] at h3
  omega
theorem based_next {w wr wx w1 : World} {B N n k gq r : Nat} {y : Nat → Nat} {a v' : Value} {ld : Option Addr} {lc : Nat} {o : Obj} (hI : BsInv w B N n k a (.slice ld k lc) wr) (hgq : wr.heap.size = gq) (hR : RowI wx gq n y) (hB : Below gq wr wx) (hy : ∀ i, y i < 256) (hs : dsum y n = N / B ^ (k + 1)) (hr : r = N / B ^ k % B) (hsz : gq < wx.heap.size) (hn : n ≤ 100) (n0 : 0 < n)
    (hown' : w1.ownsRow w.heap.size 3 1 v' (k + 1) (intsD (fun i => N / B ^ i % B) k ++ [.int .i64 (r : Int)])) (hg : (wx.alloc o).grownBy w1 (Value.slice ld k lc).ownBlock) (hb : v'.ownBlock = (Value.slice ld k lc).ownBlock ∨ v'.ownBlock = some (wx.alloc o).heap.size) :
    BsInv w B N n (k + 1) (.slice (some ⟨gq, 0, none⟩) n n) v' w1 ∧ lenV v' = k + 1 := by
  have hne : (Value.slice ld k lc).ownBlock ≠ some gq := fun e => by have := (hI.own.lt gq e).2; omega
  have hB2 : Below w.heap.size w wx := hI.bel.trans (hB.mono (by rw [← hgq]; exact hI.bel.size))
  have hl : w.heap.size ≤ wx.heap.size := hB2.size
  have RI : RowI w1 gq n y := fun j hj => by
    have h1 : (wx.alloc o).heap[gq]? = wx.heap[gq]? := heap_alloc_old wx o hsz
    have h2 := hg.block gq (by simp; omega) (fun e => hne e.symm)
    have h3 : w1.heap[gq]? = wx.heap[gq]? := h2.trans h1
    exact ⟨(World.cell?_of_block (a := ⟨gq, j, none⟩) h3).trans (hR j hj).1, (World.frozen?_of_block (a := ⟨gq, j, none⟩) h3).trans (hR j hj).2⟩
  refine ⟨⟨⟨_, RowAt.ofRowI RI hy (by omega), by rw [cutD_same]; exact hs⟩, ?_, ?_, ?_⟩, ?_⟩
  · rw [intsD_snoc, ← hr]; exact hown'
  · intro g o' m c e h
    injection e with e1 _ _
    injection Option.some.inj e1 with e2 _ _
    subst e2
    rcases hb with hb | hb
    · rw [hb] at h; exact hne h
    · rw [hb] at h
      have := Option.some.inj h
      simp at this
      omega
  · exact Below.grown (hB2.alloc hl o) hg (by simp; omega) (fun q h => (hI.own.lt q h).1)
  · obtain ⟨_, h | ⟨g, cap, cur, h, _⟩⟩ := hown'
    · omega
    · rw [h]; rfl
set_option maxHeartbeats 4000000 in
set_option maxRecDepth 100000 in
theorem based_is (w : World) (v : Value) (n : Nat) (d : Nat → Nat) (hv : RowAt w v n d) (hn : 0 < n ∧ n ≤ 100) (B N : Nat) (hB : 10 ≤ B ∧ B ≤ 16) (hN : dsum d n = N) (hN2 : N < 10 ^ 78) :
    Calls Tryz.prog 121 #[v, .int .i64 (B : Int)] w fun e w' => ∃ x k, e = .returned x ∧ NDig B N k ∧ k ≤ 78 ∧ RowAt w' x k (dgs B N k) ∧ Below w.heap.size w w' := by
  obtain ⟨i0, hi, hz0, hz1, hz2⟩ := info_parts Tryz.infoI
  have HB : Hid (10 ≤ B ∧ B ≤ 16 ∧ N < 10 ^ 78 ∧ 0 < n) := ⟨hB.1, hB.2, hN2, hn.1⟩
  have I0 : Hid (BsInv w B N n 0 v (.slice none 0 0) w) := ⟨⟨d, hv, by rw [Nat.pow_zero, Nat.div_one]; exact hN⟩, World.ownsRow_nil _ _ _ _, (fun _ _ _ _ _ h => by cases h), Below.refl _ _⟩
  have b0 : ¬ (B : Int) = 0 := by omega
  have b1 : ((B : Int) == 0) = false := by simp; omega
  have n1 : (n : Int) ≤ 100 := by omega
  have n0 : 0 < n := hn.1
  clear hv hN hN2 hB hn
  go_enter Tryz.func121, Tryz.ntmps121
  go_wp2
  go_loopw [0, 5] (fun s0 s5 wr => ∃ k : Nat, k ≤ 78 ∧ (k = 0 → s5 = .slice none 0 0) ∧ (∀ j, 0 < j → j < k → N / B ^ j ≠ 0) ∧ BsInv w B N n k s0 s5 wr) (fun _ s5 _ => 79 - lenV s5)
  case atStart => exact ⟨0, by omega, fun _ => rfl, fun j h1 h2 => absurd h2 (by omega), I0.out⟩
  case round =>
    obtain ⟨wo, ewo⟩ : ∃ wo, wo = wr := ⟨_, rfl⟩
    subst ewo
    obtain ⟨k, hk, hk0, hnz, hI⟩ := hrel
    clear I0
    have HI : Hid (BsInv w B N n k u0 u5 wo) := hI
    have HZ : Hid (∀ j, 0 < j → j < k → N / B ^ j ≠ 0) := hnz
    obtain ⟨f, hf, ef⟩ := hI.row
    have HF : Hid (RowAt wo u0 n f ∧ dsum f n = N / B ^ k) := ⟨hf, ef⟩
    have HFL : Hid (∀ i, f i < 256) := hf.2.1
    obtain ⟨_, _, _, ad, cap, rfl, hc⟩ := hf
    obtain ⟨ag, ao, rfl, hcc⟩ := hc (by omega)
    have lag : ag < wo.heap.size := World.block_lt_of_cell? wo _ (hcc 0 n0)
    have HC : Hid (∀ i, i < n → wo.cell? ⟨ag, ao + i, none⟩ = some (.int .i64 (f i : Int))) := hcc
    have hl : ∃ ld lc, u5 = .slice ld k lc := by
      have h := hI.own
      rw [← ints_dgs] at h
      obtain ⟨_, _, _, ld, lc, e, _⟩ := RowAt.own h (dgs_lt (by have := HB.out; omega) (by have := HB.out; omega) N k) (fun i h => by unfold dgs; rw [if_neg (by omega)]) (by omega)
      exact ⟨ld, lc, e⟩
    obtain ⟨ld, lc, rfl⟩ := hl
    have NO : Hid (Calls Tryz.prog 88 #[.slice (some ⟨ag, ao, none⟩) n cap] wo fun e w' => e = .returned (.bool (decide (N / B ^ k = 0))) ∧ w' = wo) := none_is wo _ n f HF.out.1 _ (by rw [HF.out.2])
    have kI : (k : Int) ≤ 78 := by omega
    clear hnz ef hc hcc hI
    by_cases hgo : 0 < k ∧ N / B ^ k = 0
    · -- the end
      rw [decide_eq_true hgo.2] at NO
      have k0 : ¬ (k : Int) = 0 := by omega
      have k1 : ((k : Int) == 0) = false := by simp; omega
      have ND : Hid (NDig B N k) := ⟨hgo.1, hgo.2, HZ.out⟩
      clear hgo hk0
      go_wp2_with (go_at_call 88; refine Calls.mono NO.out ?_; rintro e w' ⟨rfl, hw⟩; (have hw2 := hw.symm); clear hw; subst hw2)
      go_ret
      refine ⟨_, k, rfl, ND.out, hk, ?_, HI.out.bel⟩
      have h := HI.out.own
      rw [← ints_dgs] at h
      exact RowAt.own h (dgs_lt (by have := HB.out; omega) (by have := HB.out; omega) N k) (fun i h => by unfold dgs; rw [if_neg (by omega)]) (by omega)
    · have hk2 : k < 78 := Classical.byContradiction fun h => hgo ⟨by omega, Nat.div_eq_of_lt (by
        have h1 : 10 ^ 78 ≤ 10 ^ k := Nat.pow_le_pow_right (by decide) (by omega)
        have h2 : 10 ^ k ≤ B ^ k := Nat.pow_le_pow_left HB.out.1 _
        exact Nat.lt_of_lt_of_le HB.out.2.2.1 (Nat.le_trans h1 h2))⟩
      have GO : Hid (0 < k → N / B ^ k ≠ 0) := fun h1 h2 => hgo ⟨h1, h2⟩
      have hkk : (k = 0 ∨ (¬ (k : Int) = 0 ∧ ((k : Int) == 0) = false ∧ Hid (Calls Tryz.prog 88 #[.slice (some ⟨ag, ao, none⟩) n cap] wo fun e w' => e = .returned (.bool false) ∧ w' = wo))) := by
        rcases Nat.eq_zero_or_pos k with h | h
        · exact .inl h
        · right
          rw [decide_eq_false (GO.out h)] at NO
          exact ⟨by omega, by simp; omega, NO⟩
      clear hgo NO
      have MK : Hid (∀ (ops : Array Oper) (rest : List Oper) (op : Oper) (a : Act) (Q : Exit → Act → World → Prop) (x : Operand), op.guard = none → op.op = .makeSlice 61 x x → a.eval x = .int .i64 (n : Int) → (∀ v1, RowI v1 wo.heap.size n (fun _ => 0) → Below wo.heap.size wo v1 → wo.heap.size < v1.heap.size → wpList Tryz.prog ops Q rest (a.put op.dst (.slice (some ⟨wo.heap.size, 0, none⟩) n n)) v1) → wpList Tryz.prog ops Q (op :: rest) a wo) := fun ops rest op a Q x hg ho hx h => by
        refine wpList_make_full _ hg x x 61 ho wo.heap.size 3 i0 (.int .i64 0) 1 Tryz.underlying61 hi hz0 hz1 .i64 .i64 _ _ n hx hx rfl rfl (by rw [hz2]; omega) (by unfold maxLen; omega) (Nat.le_refl _) ?_
        intro v1 hown hgrow
        exact h v1 (RowI.made hown) (Below.grown (Below.refl _ _) hgrow (Nat.le_refl _) (fun k h => by cases h)) (hown.lt _ rfl).2
      rcases hkk with hk9 | ⟨k0, k1, NO⟩
      · have k0 : (k : Int) = 0 := by omega
        have k1 : ((k : Int) == 0) = true := by simp; omega
        have HK : Hid (k = 0) := hk9
        clear hk9 hk0
        go_upto_region 3 with fail
        go_upto_region 5 with (at_make; refine MK.out _ _ _ _ _ _ rfl rfl rfl ?_; intro v1 hR1 hB1 hL1)
        have K1 : Hid (RowI v1 wo.heap.size n (fun _ => 0) ∧ Below wo.heap.size wo v1 ∧ wo.heap.size < v1.heap.size) := ⟨hR1, hB1, hL1⟩
        clear hR1 hB1 hL1 MK
        generalize hgq : wo.heap.size = gq at K1 lag ⊢
        have GQ : Hid (wo.heap.size = gq) := hgq
        clear hgq
        go_wp2
        go_loopw [6, 8] (fun s6 s8 wx => ∃ (j r : Nat) (y : Nat → Nat), j ≤ n ∧ r < B ∧ s6 = .int .i64 (r : Int) ∧ s8 = .int .i64 ((j : Int) - 1) ∧ (∀ i, y i < 256) ∧ (∀ i, i < j → y i = 0) ∧ B * dsum y n + r * 256 ^ j + dsum f j = dsum f n ∧ RowI wx gq n y ∧ Below gq wo wx) (fun _ s8 _ => (intOf s8 + 1).toNat)
        case atStart => exact ⟨n, 0, fun _ => 0, by omega, by have := HB.out; omega, rfl, by first | rfl | go_num | (congr 1; omega), fun _ => by simp, fun _ _ => rfl, by rw [dsum_zero n (fun _ _ => rfl)]; simp, K1.out.1, K1.out.2.1⟩
        case round =>
          obtain ⟨j, r, y, hj, hr, rfl, rfl, hy1, hy2, hS, hR, hB⟩ := hrel
          clear K1
          have HY : Hid ((∀ i, y i < 256) ∧ (∀ i, i < j → y i = 0) ∧ B * dsum y n + r * 256 ^ j + dsum f j = dsum f n) := ⟨hy1, hy2, hS⟩
          have HR : Hid (RowI wr gq n y ∧ Below gq wo wr) := ⟨hR, hB⟩
          clear hy1 hy2 hS hR hB
          rcases j with _ | j
          · -- all digits of this round are read
            obtain ⟨E1, E2⟩ : dsum y n = N / B ^ (k + 1) ∧ r = N / B ^ k % B := by
              have h := HY.out.2.2
              have h2 := HF.out.2
              rw [dsum, Nat.pow_zero, Nat.mul_one, Nat.add_zero, h2] at h
              constructor
              · rw [Nat.pow_succ, ← Nat.div_div_eq_div_mul, ← h, Nat.add_comm, Nat.add_mul_div_left _ _ (by omega), Nat.div_eq_of_lt hr, Nat.zero_add]
              · rw [← h, Nat.add_comm, Nat.add_mul_mod_self_left, Nat.mod_eq_of_lt hr]
            have RS : Hid (dsum y n = N / B ^ (k + 1) ∧ r = N / B ^ k % B) := ⟨E1, E2⟩
            have rI : (r : Int) < 16 := by have := HB.out; omega
            have OW : Hid (wr.ownsRow w.heap.size 3 1 (.slice ld k lc) k (intsD (fun i => N / B ^ i % B) k)) := ownsR_below HI.out.own (by rw [GQ.out]; exact HR.out.2)
            have SZ : Hid (w.heap.size ≤ gq ∧ gq < wr.heap.size) := ⟨by rw [← GQ.out]; exact HI.out.bel.size, by have := HR.out.1.lt n0; exact this⟩
            have sz1 : w.heap.size ≤ wr.heap.size := by have := SZ.out; omega
            clear E1 E2 hr
            go_wp2_with (at_builtin; refine wpList_append_own_at _ rfl _ _ 60 rfl w.heap.size 3 i0 (.int .i64 0) 1 8 Tryz.underlying60 hi hz0 hz1 hz2 rfl (by decide) _ _ _ rfl (World.ownsRow.alloc OW.out _) ⟨wr.heap.size, 0, none⟩ 1 1 [.int .i64 (r : Int)] rfl rfl (fun j u hj => (by have hj0 : j = 0 := (by have := (List.getElem?_eq_some_iff.1 hj).1; simpa using this); subst hj0; simp at hj; subst hj; (first | (simp [Addr.add]; done) | (simp [Addr.add]; omega)))) (fun u hu => (by rw [List.mem_singleton.1 hu]; rfl)) (by unfold maxLen; omega) (by omega) (by simp; omega) ?_; intro v' w1 hown' hgrow _ hblk)
            have NX : Hid (BsInv w B N n (k + 1) (.slice (some ⟨gq, 0, none⟩) n n) v' w1 ∧ lenV v' = k + 1) := based_next HI.out GQ.out HR.out.1 HR.out.2 HY.out.1 RS.out.1 RS.out.2 SZ.out.2 (by omega) n0 hown' hgrow hblk
            clear hown' hgrow hblk
            go_wp2
            go_roundw
            case rel => exact ⟨k + 1, by omega, fun h => absurd h (by omega), fun j h1 h2 => by
              by_cases e : j = k
              · rw [e]; exact GO.out (by omega)
              · exact HZ.out j h1 (by omega), NX.out.1⟩
            case measure =>
              have := NX.out.2
              show 79 - lenV v' < 79 - lenV (.slice ld k lc)
              rw [this, lenV]; omega
          · rw [show ((j + 1 : Nat) : Int) - 1 = (j : Int) by omega]
            have jI : (0 : Int) ≤ (j : Int) := by omega
            have jn : (j : Int) < (n : Int) := by omega
            have ca := (HR.out.2.cell (p := ⟨ag, ao + j, none⟩) lag).trans (HC.out j (by omega))
            obtain ⟨fj, efj⟩ : ∃ fj, fj = f j := ⟨_, rfl⟩
            have fl := HFL.out j
            rw [← efj] at ca fl
            obtain ⟨nn, enn⟩ : ∃ nn, nn = 256 * r + fj := ⟨_, rfl⟩
            obtain ⟨q, eq⟩ : ∃ q, q = nn / B := ⟨_, rfl⟩
            obtain ⟨r', er⟩ : ∃ r', r' = nn % B := ⟨_, rfl⟩
            have hB3 := HB.out
            have q256 : q < 256 := by
              rw [eq, Nat.div_lt_iff_lt_mul (by omega)]
              have : (r + 1) * 256 ≤ B * 256 := Nat.mul_le_mul_right _ hr
              omega
            have rl : r' < B := by rw [er]; exact Nat.mod_lt _ (by omega)
            have r1 : (256 : Int) * (r : Int) = ((256 * r : Nat) : Int) := by omega
            have r2 : IntKind.i64.wrap ((256 * r : Nat) : Int) = ((256 * r : Nat) : Int) := by rw [IntKind.wrap_i64]; omega
            have r3 : ((256 * r : Nat) : Int) + (fj : Int) = (nn : Int) := by omega
            have nw : IntKind.i64.wrap (nn : Int) = (nn : Int) := by rw [IntKind.wrap_i64]; omega
            have q1 : Int.tdiv (nn : Int) (B : Int) = (q : Int) := by rw [Int.tdiv_eq_ediv_of_nonneg (by omega), eq, Int.natCast_ediv]
            have q2 : IntKind.i64.wrap (q : Int) = (q : Int) := by rw [IntKind.wrap_i64]; omega
            have m1 : Int.tmod (nn : Int) (B : Int) = (r' : Int) := by rw [Int.tmod_eq_emod_of_nonneg (by omega), er, Int.natCast_emod]
            have m2 : IntKind.i64.wrap (r' : Int) = (r' : Int) := by rw [IntKind.wrap_i64]; omega
            have ST : Hid (B * dsum (setD y j q) n + r' * 256 ^ j + dsum f j = dsum f n) := based_num (by omega) (HY.out.2.1 j (by omega)) HY.out.2.2 (by rw [enn, efj]) eq er
            have RX : Hid (RowI (wr.setCell ⟨gq, j, none⟩ (.int .i64 (q : Int))) gq n (setD y j q) ∧ Below gq wo (wr.setCell ⟨gq, j, none⟩ (.int .i64 (q : Int)))) := ⟨HR.out.1.set j q, HR.out.2.setCell (Nat.le_refl _) _⟩
            have cq := (HR.out.1 j (by omega)).1
            have fq := (HR.out.1 j (by omega)).2
            obtain ⟨p, ep⟩ : ∃ p, p = 256 * r := ⟨_, rfl⟩
            rw [← ep] at r1 r2 r3
            clear eq er enn efj fl hB3 ep
            go_wp2
            go_roundw
            case rel => exact ⟨j, r', setD y j q, by omega, rl, rfl, by first | rfl | go_num | (congr 1; omega), fun i => setD_lt HY.out.1 j q i q256, fun i hi => by rw [setD, if_neg (by omega)]; exact HY.out.2.1 i (by omega), ST.out, RX.out.1, RX.out.2⟩
            case measure => simp [intOf]
      · clear hk0
        go_upto_region 3 with (go_at_call 88; refine Calls.mono NO.out ?_; rintro e w' ⟨rfl, hw⟩; (have hw2 := hw.symm); clear hw; subst hw2)
        go_upto_region 5 with (at_make; refine MK.out _ _ _ _ _ _ rfl rfl rfl ?_; intro v1 hR1 hB1 hL1)
        have K1 : Hid (RowI v1 wo.heap.size n (fun _ => 0) ∧ Below wo.heap.size wo v1 ∧ wo.heap.size < v1.heap.size) := ⟨hR1, hB1, hL1⟩
        clear hR1 hB1 hL1 MK
        generalize hgq : wo.heap.size = gq at K1 lag ⊢
        have GQ : Hid (wo.heap.size = gq) := hgq
        clear hgq
        go_wp2
        go_loopw [6, 8] (fun s6 s8 wx => ∃ (j r : Nat) (y : Nat → Nat), j ≤ n ∧ r < B ∧ s6 = .int .i64 (r : Int) ∧ s8 = .int .i64 ((j : Int) - 1) ∧ (∀ i, y i < 256) ∧ (∀ i, i < j → y i = 0) ∧ B * dsum y n + r * 256 ^ j + dsum f j = dsum f n ∧ RowI wx gq n y ∧ Below gq wo wx) (fun _ s8 _ => (intOf s8 + 1).toNat)
        case atStart => exact ⟨n, 0, fun _ => 0, by omega, by have := HB.out; omega, rfl, by first | rfl | go_num | (congr 1; omega), fun _ => by simp, fun _ _ => rfl, by rw [dsum_zero n (fun _ _ => rfl)]; simp, K1.out.1, K1.out.2.1⟩
        case round =>
          obtain ⟨j, r, y, hj, hr, rfl, rfl, hy1, hy2, hS, hR, hB⟩ := hrel
          clear K1
          have HY : Hid ((∀ i, y i < 256) ∧ (∀ i, i < j → y i = 0) ∧ B * dsum y n + r * 256 ^ j + dsum f j = dsum f n) := ⟨hy1, hy2, hS⟩
          have HR : Hid (RowI wr gq n y ∧ Below gq wo wr) := ⟨hR, hB⟩
          clear hy1 hy2 hS hR hB
          rcases j with _ | j
          · -- all digits of this round are read
            obtain ⟨E1, E2⟩ : dsum y n = N / B ^ (k + 1) ∧ r = N / B ^ k % B := by
              have h := HY.out.2.2
              have h2 := HF.out.2
              rw [dsum, Nat.pow_zero, Nat.mul_one, Nat.add_zero, h2] at h
              constructor
              · rw [Nat.pow_succ, ← Nat.div_div_eq_div_mul, ← h, Nat.add_comm, Nat.add_mul_div_left _ _ (by omega), Nat.div_eq_of_lt hr, Nat.zero_add]
              · rw [← h, Nat.add_comm, Nat.add_mul_mod_self_left, Nat.mod_eq_of_lt hr]
            have RS : Hid (dsum y n = N / B ^ (k + 1) ∧ r = N / B ^ k % B) := ⟨E1, E2⟩
            have rI : (r : Int) < 16 := by have := HB.out; omega
            have OW : Hid (wr.ownsRow w.heap.size 3 1 (.slice ld k lc) k (intsD (fun i => N / B ^ i % B) k)) := ownsR_below HI.out.own (by rw [GQ.out]; exact HR.out.2)
            have SZ : Hid (w.heap.size ≤ gq ∧ gq < wr.heap.size) := ⟨by rw [← GQ.out]; exact HI.out.bel.size, by have := HR.out.1.lt n0; exact this⟩
            have sz1 : w.heap.size ≤ wr.heap.size := by have := SZ.out; omega
            clear E1 E2 hr
            go_wp2_with (at_builtin; refine wpList_append_own_at _ rfl _ _ 60 rfl w.heap.size 3 i0 (.int .i64 0) 1 8 Tryz.underlying60 hi hz0 hz1 hz2 rfl (by decide) _ _ _ rfl (World.ownsRow.alloc OW.out _) ⟨wr.heap.size, 0, none⟩ 1 1 [.int .i64 (r : Int)] rfl rfl (fun j u hj => (by have hj0 : j = 0 := (by have := (List.getElem?_eq_some_iff.1 hj).1; simpa using this); subst hj0; simp at hj; subst hj; (first | (simp [Addr.add]; done) | (simp [Addr.add]; omega)))) (fun u hu => (by rw [List.mem_singleton.1 hu]; rfl)) (by unfold maxLen; omega) (by omega) (by simp; omega) ?_; intro v' w1 hown' hgrow _ hblk)
            have NX : Hid (BsInv w B N n (k + 1) (.slice (some ⟨gq, 0, none⟩) n n) v' w1 ∧ lenV v' = k + 1) := based_next HI.out GQ.out HR.out.1 HR.out.2 HY.out.1 RS.out.1 RS.out.2 SZ.out.2 (by omega) n0 hown' hgrow hblk
            clear hown' hgrow hblk
            go_wp2
            go_roundw
            case rel => exact ⟨k + 1, by omega, fun h => absurd h (by omega), fun j h1 h2 => by
              by_cases e : j = k
              · rw [e]; exact GO.out (by omega)
              · exact HZ.out j h1 (by omega), NX.out.1⟩
            case measure =>
              have := NX.out.2
              show 79 - lenV v' < 79 - lenV (.slice ld k lc)
              rw [this, lenV]; omega
          · rw [show ((j + 1 : Nat) : Int) - 1 = (j : Int) by omega]
            have jI : (0 : Int) ≤ (j : Int) := by omega
            have jn : (j : Int) < (n : Int) := by omega
            have ca := (HR.out.2.cell (p := ⟨ag, ao + j, none⟩) lag).trans (HC.out j (by omega))
            obtain ⟨fj, efj⟩ : ∃ fj, fj = f j := ⟨_, rfl⟩
            have fl := HFL.out j
            rw [← efj] at ca fl
            obtain ⟨nn, enn⟩ : ∃ nn, nn = 256 * r + fj := ⟨_, rfl⟩
            obtain ⟨q, eq⟩ : ∃ q, q = nn / B := ⟨_, rfl⟩
            obtain ⟨r', er⟩ : ∃ r', r' = nn % B := ⟨_, rfl⟩
            have hB3 := HB.out
            have q256 : q < 256 := by
              rw [eq, Nat.div_lt_iff_lt_mul (by omega)]
              have : (r + 1) * 256 ≤ B * 256 := Nat.mul_le_mul_right _ hr
              omega
            have rl : r' < B := by rw [er]; exact Nat.mod_lt _ (by omega)
            have r1 : (256 : Int) * (r : Int) = ((256 * r : Nat) : Int) := by omega
            have r2 : IntKind.i64.wrap ((256 * r : Nat) : Int) = ((256 * r : Nat) : Int) := by rw [IntKind.wrap_i64]; omega
            have r3 : ((256 * r : Nat) : Int) + (fj : Int) = (nn : Int) := by omega
            have nw : IntKind.i64.wrap (nn : Int) = (nn : Int) := by rw [IntKind.wrap_i64]; omega
            have q1 : Int.tdiv (nn : Int) (B : Int) = (q : Int) := by rw [Int.tdiv_eq_ediv_of_nonneg (by omega), eq, Int.natCast_ediv]
            have q2 : IntKind.i64.wrap (q : Int) = (q : Int) := by rw [IntKind.wrap_i64]; omega
            have m1 : Int.tmod (nn : Int) (B : Int) = (r' : Int) := by rw [Int.tmod_eq_emod_of_nonneg (by omega), er, Int.natCast_emod]
            have m2 : IntKind.i64.wrap (r' : Int) = (r' : Int) := by rw [IntKind.wrap_i64]; omega
            have ST : Hid (B * dsum (setD y j q) n + r' * 256 ^ j + dsum f j = dsum f n) := based_num (by omega) (HY.out.2.1 j (by omega)) HY.out.2.2 (by rw [enn, efj]) eq er
            have RX : Hid (RowI (wr.setCell ⟨gq, j, none⟩ (.int .i64 (q : Int))) gq n (setD y j q) ∧ Below gq wo (wr.setCell ⟨gq, j, none⟩ (.int .i64 (q : Int)))) := ⟨HR.out.1.set j q, HR.out.2.setCell (Nat.le_refl _) _⟩
            have cq := (HR.out.1 j (by omega)).1
            have fq := (HR.out.1 j (by omega)).2
            obtain ⟨p, ep⟩ : ∃ p, p = 256 * r := ⟨_, rfl⟩
            rw [← ep] at r1 r2 r3
            clear eq er enn efj fl hB3 ep
            go_wp2
            go_roundw
            case rel => exact ⟨j, r', setD y j q, by omega, rl, rfl, by first | rfl | go_num | (congr 1; omega), fun i => setD_lt HY.out.1 j q i q256, fun i hi => by rw [setD, if_neg (by omega)]; exact HY.out.2.1 i (by omega), ST.out, RX.out.1, RX.out.2⟩
            case measure => simp [intOf]
end Go.Proofs.YtpadpmkfhljiiaaGreat
/- The document's 'told', its Hex and Text. -/
namespace Go.Proofs.YtpadpmkfhljiiaaGreat
open Go.RowKit
theorem Tryz.infoT : (Tryz.prog.info? 5).map (fun i => (i.zero, i.size, i.bytes)) = some (some (.int .u8 0), 1, 1) := by kernel_rfl
theorem rowB_snoc (n : Nat) (f : Nat → Int) : rowB (n + 1) f = rowB n f ++ [.int .u8 (f n)] := by simp [rowB, List.range_succ]
theorem told_step {W0 wr w1 : World} {v v' : Value} {o : Obj} {f : Nat → Int} {k : Nat} {y : Int} (hy : y = f k) (hown : wr.ownsRow W0.heap.size 5 1 v k (rowB k f)) (hB : Below W0.heap.size W0 wr)
    (hown' : w1.ownsRow W0.heap.size 5 1 v' (k + 1) (rowB k f ++ [.int .u8 y])) (hg : (wr.alloc o).grownBy w1 v.ownBlock) :
    w1.ownsRow W0.heap.size 5 1 v' (k + 1) (rowB (k + 1) f) ∧ Below W0.heap.size W0 w1 := by
  rw [rowB_snoc, ← hy]
  exact ⟨hown', Below.grown (hB.alloc hB.size o) hg (by have := hB.size; simp; omega) (fun q h => (hown.lt q h).1)⟩
set_option maxHeartbeats 4000000 in
set_option maxRecDepth 100000 in
theorem told_is (w : World) (v : Value) (n : Nat) (d : Nat → Nat) (hv : RowAt w v n d) (hd : ∀ i, d i < 16) (hn : 0 < n ∧ n ≤ 78) :
    Calls Tryz.prog 120 #[v] w fun e w' => e = .returned (.string (txt (fun i => sgn16 (d (n - 1 - i))) n)) ∧ Below w.heap.size w w' := by
  obtain ⟨i0, hi, hz0, hz1, hz2⟩ := info_parts Tryz.infoT
  obtain ⟨_, _, _, ad, cap, rfl, hc⟩ := hv
  obtain ⟨ag, ao, rfl, hcc⟩ := hc (by omega)
  have lag : ag < w.heap.size := World.block_lt_of_cell? w _ (hcc 0 hn.1)
  have HC : Hid ((∀ i, i < n → w.cell? ⟨ag, ao + i, none⟩ = some (.int .i64 (d i : Int))) ∧ (∀ i, d i < 16) ∧ 0 < n) := ⟨hcc, hd, hn.1⟩
  obtain ⟨F, eF⟩ : ∃ F : Nat → Nat, F = fun i => sgn16 (d (n - 1 - i)) := ⟨_, rfl⟩
  have EF : Hid (∀ i, F i = sgn16 (d (n - 1 - i))) := fun i => by rw [eF]
  rw [← eF]
  have n1 : (n : Int) ≤ 78 := by omega
  clear hc hcc hd hn eF
  go_enter Tryz.func120, Tryz.ntmps120
  go_wp2
  go_loopw [3, 4] (fun s3 s4 wr => ∃ j : Nat, s4 = .int .i64 ((j : Int) - 1) ∧ j ≤ n ∧ wr.ownsRow w.heap.size 5 1 s3 (n - j) (rowB (n - j) (fun i => (F i : Int))) ∧ Below w.heap.size w wr) (fun _ s4 _ => (intOf s4 + 1).toNat)
  case atStart => exact ⟨n, by first | rfl | go_num | (congr 1; omega), by omega, by rw [Nat.sub_self]; exact World.ownsRow_nil _ _ _ _, Below.refl _ _⟩
  case round =>
    obtain ⟨j, rfl, hj, hown, hB⟩ := hrel
    have OW : Hid (wr.ownsRow w.heap.size 5 1 u3 (n - j) (rowB (n - j) (fun i => (F i : Int))) ∧ Below w.heap.size w wr) := ⟨hown, hB⟩
    clear hown hB
    rcases j with _ | j
    · have h := OW.out.1
      rw [Nat.sub_zero] at h
      obtain ⟨g, c, e, CV⟩ : ∃ g c, u3 = .slice (some ⟨g, 0, none⟩) n c ∧ Sem.run Tryz.prog (convert 35 9 (.slice (some ⟨g, 0, none⟩) n c)) wr = .ok (.string (txt F n)) wr := by
        have h0 := h
        obtain ⟨_, h1 | ⟨g, c, cur, h1, _⟩⟩ := h
        · exact absurd h1.2 (by have := HC.out.2.2; omega)
        · refine ⟨g, c, h1, convT wr g 0 n c F fun i hi => ?_⟩
          rw [h1] at h0
          rw [Nat.zero_add, h0.cellAt i (by omega), rowB_at n _ i hi]
      subst e
      clear h
      go_wp2
      go_ret
      exact ⟨rfl, OW.out.2⟩
    · rw [show ((j + 1 : Nat) : Int) - 1 = (j : Int) by omega]
      have jI : (0 : Int) ≤ (j : Int) := by omega
      have jn : (j : Int) < (n : Int) := by omega
      obtain ⟨q, eq⟩ : ∃ q, q = n - (j + 1) := ⟨_, rfl⟩
      rw [← eq] at OW
      have ca := (OW.out.2.cell (p := ⟨ag, ao + j, none⟩) lag).trans (HC.out.1 j (by omega))
      have hl := HC.out.2.1 j
      have fq := EF.out q
      rw [show n - 1 - q = j by omega] at fq
      generalize d j = y at ca hl fq
      have hix := fun W => figs_ix .i64 y hl W
      rw [← fq] at hix
      have SZ : Hid (w.heap.size ≤ wr.heap.size ∧ n - j = q + 1) := ⟨OW.out.2.size, by omega⟩
      have sz1 : w.heap.size ≤ wr.heap.size := SZ.out.1
      have qn : q ≤ 78 := by omega
      generalize efq : F q = x at hix
      have EX : Hid ((x : Int) = (F q : Int)) := by unfold Hid; rw [efq]
      clear fq efq eq hl
      go_wp2_with (at_builtin; refine wpList_append_own _ rfl _ _ 35 rfl w.heap.size 5 i0 (.int .u8 0) 1 1 Tryz.underlying35 hi hz0 hz1 hz2 rfl (by decide) _ _ _ rfl (World.ownsRow.alloc OW.out.1 _) ⟨wr.heap.size, 0, none⟩ 1 1 [.int .u8 (x : Int)] rfl rfl (fun j u hj => (by have hj0 : j = 0 := (by have := (List.getElem?_eq_some_iff.1 hj).1; simpa using this); subst hj0; simp at hj; subst hj; (first | (simp [Addr.add]; done) | (simp [Addr.add]; omega)))) (fun u hu => (by rw [List.mem_singleton.1 hu]; rfl)) (by unfold maxLen; omega) (by omega) (by simp; omega) ?_; intro v' w1 hown' hgrow _)
      have R : Hid _ := told_step (f := fun i => (F i : Int)) (k := q) EX.out OW.out.1 OW.out.2 hown' hgrow
      clear hown' hgrow
      go_wp2
      go_roundw
      case rel => exact ⟨j, by first | rfl | go_num | (congr 1; omega), by omega, by rw [SZ.out.2]; exact R.out.1, R.out.2⟩
      case measure => simp [intOf]
theorem tell_eq {B N k : Nat} : txt (fun i => sgn16 (dgs B N k (k - 1 - i))) k = tell B N k := by
  unfold tell
  refine txt_ext fun i hi => ?_
  rw [dgs, if_pos (by omega)]
theorem dgs_lt16 {B : Nat} (h0 : 0 < B) (h : B ≤ 16) (N k i : Nat) : dgs B N k i < 16 := by
  unfold dgs
  split
  · have := Nat.mod_lt (N / B ^ i) h0; omega
  · omega
theorem big78 : 256 ^ 32 < 10 ^ 78 := by decide
set_option maxHeartbeats 2000000 in
set_option maxRecDepth 100000 in
theorem rtext_is (x : Int) (a0 a1 a2 a3 : Int) (w : World) (ha : IsW x a0 a1 a2 a3) (X : Nat) (hX : V a0 a1 a2 a3 = (X : Int)) :
    Calls Tryz.prog 75 #[.agg #[.int .u64 a0, .int .u64 a1, .int .u64 a2, .int .u64 a3]] w fun e w' => ∃ n, NDig 10 X n ∧ n ≤ 78 ∧ e = .returned (.string (tell 10 X n)) ∧ Below w.heap.size w w' := by
  have K0 : Hid (Bx w [(w.heap.size, a0, a1, a2, a3)] (w.alloc (.cells #[.int .u64 a0, .int .u64 a1, .int .u64 a2, .int .u64 a3] 24))) := (Bx.start w).alloc _ _ _ _
  have OF : Hid (∀ W, Calls Tryz.prog 79 #[.agg #[.int .u64 a0, .int .u64 a1, .int .u64 a2, .int .u64 a3]] W fun e w' => ∃ v, e = .returned v ∧ RowAt w' v 32 (dig X) ∧ Below W.heap.size W w') := fun W => of_is x a0 a1 a2 a3 W ha X hX
  have XL : Hid (X < 10 ^ 78 ∧ dsum (dig X) 32 = X) := ⟨Nat.lt_trans (V_lt ha hX) big78, dig_all X (V_lt ha hX)⟩
  clear ha hX
  go_enter Tryz.func75, Tryz.ntmps75
  go_upto_region 1 with fail
  generalize w.alloc (.cells #[.int .u64 a0, .int .u64 a1, .int .u64 a2, .int .u64 a3] 24) = W0 at K0 ⊢
  obtain ⟨c0, c1, c2, c3, z0, z1, z2, z3⟩ := K0.out.f0 mm0
  go_wp2_with fail
  refine (OF.out _).mono ?_
  rintro e y1 ⟨r1, rfl, hr1, hB⟩
  have J1 : Hid (RowAt y1 r1 32 (dig X) ∧ Below w.heap.size w y1) := ⟨hr1, (K0.out.past hB).bel⟩
  clear hr1 hB c0 c1 c2 c3 z0 z1 z2 z3 K0 OF
  have BA : Hid (Calls Tryz.prog 121 #[r1, .int .i64 10] y1 fun e w' => ∃ x k, e = .returned x ∧ NDig 10 X k ∧ k ≤ 78 ∧ RowAt w' x k (dgs 10 X k) ∧ Below y1.heap.size y1 w') := based_is y1 r1 32 (dig X) J1.out.1 (by omega) 10 X (by omega) XL.out.2 XL.out.1
  go_wp2_with fail
  refine Calls.mono BA.out ?_
  rintro e y2 ⟨r2, k, rfl, hk, hk2, hr2, hB⟩
  have J2 : Hid (NDig 10 X k ∧ k ≤ 78 ∧ RowAt y2 r2 k (dgs 10 X k) ∧ Below w.heap.size w y2) := ⟨hk, hk2, hr2, J1.out.2.trans (hB.mono J1.out.2.size)⟩
  clear hr2 hB hk hk2 J1 BA
  have TO : Hid (Calls Tryz.prog 120 #[r2] y2 fun e w' => e = .returned (.string (tell 10 X k)) ∧ Below y2.heap.size y2 w') := by
    have h := told_is y2 r2 k (dgs 10 X k) J2.out.2.2.1 (dgs_lt16 (by omega) (by omega) X k) ⟨J2.out.1.1, J2.out.2.1⟩
    rw [tell_eq] at h
    exact h
  go_wp2_with fail
  refine Calls.mono TO.out ?_
  rintro e y3 ⟨rfl, hB⟩
  have J3 : Hid (Below w.heap.size w y3) := J2.out.2.2.2.trans (hB.mono J2.out.2.2.2.size)
  clear hB
  go_wp2
  go_ret
  exact ⟨k, J2.out.1, J2.out.2.1, rfl, J3.out⟩
set_option maxHeartbeats 2000000 in
set_option maxRecDepth 100000 in
theorem rhex_is (x : Int) (a0 a1 a2 a3 : Int) (w : World) (ha : IsW x a0 a1 a2 a3) (X : Nat) (hX : V a0 a1 a2 a3 = (X : Int)) :
    Calls Tryz.prog 73 #[.agg #[.int .u64 a0, .int .u64 a1, .int .u64 a2, .int .u64 a3]] w fun e w' => ∃ n, NDig 16 X n ∧ n ≤ 78 ∧ e = .returned (.string (ox ++ tell 16 X n)) ∧ Below w.heap.size w w' := by
  have K0 : Hid (Bx w [(w.heap.size, a0, a1, a2, a3)] (w.alloc (.cells #[.int .u64 a0, .int .u64 a1, .int .u64 a2, .int .u64 a3] 24))) := (Bx.start w).alloc _ _ _ _
  have OF : Hid (∀ W, Calls Tryz.prog 79 #[.agg #[.int .u64 a0, .int .u64 a1, .int .u64 a2, .int .u64 a3]] W fun e w' => ∃ v, e = .returned v ∧ RowAt w' v 32 (dig X) ∧ Below W.heap.size W w') := fun W => of_is x a0 a1 a2 a3 W ha X hX
  have XL : Hid (X < 10 ^ 78 ∧ dsum (dig X) 32 = X) := ⟨Nat.lt_trans (V_lt ha hX) big78, dig_all X (V_lt ha hX)⟩
  clear ha hX
  go_enter Tryz.func73, Tryz.ntmps73
  go_upto_region 1 with fail
  generalize w.alloc (.cells #[.int .u64 a0, .int .u64 a1, .int .u64 a2, .int .u64 a3] 24) = W0 at K0 ⊢
  obtain ⟨c0, c1, c2, c3, z0, z1, z2, z3⟩ := K0.out.f0 mm0
  go_wp2_with fail
  refine (OF.out _).mono ?_
  rintro e y1 ⟨r1, rfl, hr1, hB⟩
  have J1 : Hid (RowAt y1 r1 32 (dig X) ∧ Below w.heap.size w y1) := ⟨hr1, (K0.out.past hB).bel⟩
  clear hr1 hB c0 c1 c2 c3 z0 z1 z2 z3 K0 OF
  have BA : Hid (Calls Tryz.prog 121 #[r1, .int .i64 16] y1 fun e w' => ∃ x k, e = .returned x ∧ NDig 16 X k ∧ k ≤ 78 ∧ RowAt w' x k (dgs 16 X k) ∧ Below y1.heap.size y1 w') := based_is y1 r1 32 (dig X) J1.out.1 (by omega) 16 X (by omega) XL.out.2 XL.out.1
  go_wp2_with fail
  refine Calls.mono BA.out ?_
  rintro e y2 ⟨r2, k, rfl, hk, hk2, hr2, hB⟩
  have J2 : Hid (NDig 16 X k ∧ k ≤ 78 ∧ RowAt y2 r2 k (dgs 16 X k) ∧ Below w.heap.size w y2) := ⟨hk, hk2, hr2, J1.out.2.trans (hB.mono J1.out.2.size)⟩
  clear hr2 hB hk hk2 J1 BA
  have TO : Hid (Calls Tryz.prog 120 #[r2] y2 fun e w' => e = .returned (.string (tell 16 X k)) ∧ Below y2.heap.size y2 w') := by
    have h := told_is y2 r2 k (dgs 16 X k) J2.out.2.2.1 (dgs_lt16 (by omega) (by omega) X k) ⟨J2.out.1.1, J2.out.2.1⟩
    rw [tell_eq] at h
    exact h
  have ht : ¬ 9223372036854775807 < 2 + (tell 16 X k).size := by rw [tell_size]; have := J2.out.2.1; omega
  go_wp2_with fail
  refine Calls.mono TO.out ?_
  rintro e y3 ⟨rfl, hB⟩
  have J3 : Hid (Below w.heap.size w y3) := J2.out.2.2.2.trans (hB.mono J2.out.2.2.2.size)
  clear hB
  go_wp2
  go_ret
  exact ⟨k, J2.out.1, J2.out.2.1, rfl, J3.out⟩
end Go.Proofs.YtpadpmkfhljiiaaGreat
/- The document's Parse. -/
namespace Go.Proofs.YtpadpmkfhljiiaaGreat
open Go.RowKit
set_option maxHeartbeats 1000000 in
theorem rread_none (s : ByteArray) (hs : s.size = 0) (B : Nat) (w : World) :
    Calls Tryz.prog 117 #[.string s, .int .i64 (B : Int)] w fun e w' => ∃ x, e = .returned (.tuple #[x, .bool false]) ∧ Below w.heap.size w w' := by
  have hsz : (s.size : Int) = 0 := by omega
  have S0 : Hid (∀ W, Calls Tryz.prog 108 #[.int .i64 0] W fun e w' => ∃ v, e = .returned v ∧ RowIs w' v 2 0 ∧ Below W.heap.size W w') := small_is 0 (by omega)
  go_enter Tryz.func117, Tryz.ntmps117
  go_wp2_with (go_at_call 108; refine (S0.out _).mono ?_; rintro e v1 ⟨x0, rfl, hr, hb⟩)
  go_ret2
  exact ⟨x0, rfl, hb⟩
def RRes (B : Nat) (t : ByteArray) (w : World) (e : Ending) (w' : World) : Prop := ∃ (x : Value) (ok : Bool), e = .returned (.tuple #[x, .bool ok]) ∧ Below w.heap.size w w' ∧ ((ok = true ∧ (0 < t.size ∧ ∀ i, i < t.size → digv (sg t i) < B) ∧ RowIs w' x 42 (rdn B (sg t) t.size)) ∨ (ok = false ∧ ¬ (0 < t.size ∧ ∀ i, i < t.size → digv (sg t i) < B)))
theorem rread_any (t : ByteArray) (B : Nat) (hB : 1 < B ∧ B ≤ 16) (ht : t.size ≤ 78) (w : World) : Calls Tryz.prog 117 #[.string t, .int .i64 (B : Int)] w (RRes B t w) := by
  rcases Nat.eq_zero_or_pos t.size with h | h
  · refine (rread_none t h B w).mono ?_
    rintro e w' ⟨x, rfl, hb⟩
    exact ⟨x, false, rfl, hb, .inr ⟨rfl, fun k => by omega⟩⟩
  · refine (rread_is t t.size rfl B hB h ht w).mono ?_
    rintro e w' ⟨x, ok, rfl, hb, hh⟩
    refine ⟨x, ok, rfl, hb, ?_⟩
    rcases hh with ⟨h1, h2, h3⟩ | ⟨h1, h2⟩
    · exact .inl ⟨h1, ⟨h, h2⟩, h3⟩
    · exact .inr ⟨h1, fun k => h2 k.2⟩
/-- what is known when the digits are read -/
def TL (s t : ByteArray) (B : Nat) : Prop := (1 < B ∧ B ≤ 16 ∧ t.size ≤ 78) ∧ (Good s ↔ (0 < t.size ∧ ∀ i, i < t.size → digv (sg t i) < B) ∧ rdn B (sg t) t.size < 256 ^ 32) ∧ (rdn (pb s) (sg (pt s)) (pt s).size = rdn B (sg t) t.size) ∧ (10 : Int) = (if 78 < s.size then 2 else 10)
theorem ri_compareS {W : World} {v u : Value} {n m A B : Nat} (h1 : RowIs W v n A) (h2 : RowIs W u m B) :
    Calls Tryz.prog 118 #[v, u] W fun e w' => e = .returned (.int .i64 (cmpv (A : Int) (B : Int))) ∧ w' = W := by
  obtain ⟨k, d, a1, a2, a3⟩ := h1
  obtain ⟨j, c, b1, b2, b3⟩ := h2
  refine (compare_is W v u k j d c a2 b2 (max k j) (Nat.le_refl _)).mono ?_
  rintro e w' ⟨rfl, rfl⟩
  rw [a2.more (max k j) (by omega), b2.more (max k j) (by omega), a3, b3]
  exact ⟨rfl, rfl⟩
theorem pt_size (s : ByteArray) (_ : Pre s) : (s.extract 2 s.size).size = s.size - 2 := by simp [ByteArray.size_extract]
set_option maxHeartbeats 4000000 in
set_option maxRecDepth 100000 in
theorem rparse_is (s : ByteArray) (w : World) : Calls Tryz.prog 71 #[.string s] w fun e w' => ∃ p0 p1 p2 p3 er : Int, e = .returned (.tuple #[.agg #[.int .u64 p0, .int .u64 p1, .int .u64 p2, .int .u64 p3], .int .i64 er]) ∧ Below w.heap.size w w' ∧ PRes s p0 p1 p2 p3 er := by
  have K0 : Hid (Bx w [(w.heap.size, 0, 0, 0, 0)] (w.alloc (.cells #[.int .u64 0, .int .u64 0, .int .u64 0, .int .u64 0] 24))) := (Bx.start w).alloc 0 0 0 0
  by_cases hl : 78 < s.size
  · have hI : (78 : Int) < (s.size : Int) := by omega
    have NG : Hid (¬ Good s ∧ (2 : Int) = (if 78 < s.size then 2 else 10)) := ⟨fun k => by have := k.1; omega, by rw [if_pos hl]⟩
    clear hl
    go_enter Tryz.func71, Tryz.ntmps71
    go_wp2
    exact bodyPost_ret (v := .tuple #[.agg #[.int .u64 0, .int .u64 0, .int .u64 0, .int .u64 0], .int .i64 2]) (by simp [results, Tryz.results71, go_sem]) rfl ⟨0, 0, 0, 0, 2, rfl, by repeat' (first | with_reducible exact Below.refl _ _ | with_reducible exact Below.refl _ _ | with_reducible refine Below.drew ?_ | with_reducible refine bdrewN ?_ _ | with_reducible refine Below.alloc ?_ ?_ _ | with_reducible refine Below.setCell ?_ ?_ _ | omega | (simp; done) | (simp; omega)), .inr ⟨NG.out.1, NG.out.2, rfl, rfl, rfl, rfl⟩⟩
  · have hI : ¬ (78 : Int) < (s.size : Int) := by omega
    have TEN : Hid ((10 : Int) = (if 78 < s.size then 2 else 10)) := by unfold Hid; rw [if_neg hl]
    have hix : ∀ k : Nat, k < s.size → ∀ W : World, Sem.run Tryz.prog (Instr.index 9 (.string s) (.int .i64 (k : Int))) W = .ok (.int .u8 (sg s k : Int)) W := fun k hlt W => by
      obtain ⟨b, hb1, hb2⟩ := sg_at s k hlt
      rw [run_index_string W 9 s .i64 (k : Int) Tryz.underlying9, dif_pos ⟨by omega, by omega⟩]
      have e : s[k]? = some s[k] := by simp [hlt]
      rw [e] at hb1
      have e2 := Option.some.inj hb1
      simp only [Int.toNat_natCast]
      rw [e2, hb2]
    by_cases hp : Pre s
    · have h2 : (2 : Int) ≤ (s.size : Int) := by have := (pre_iff.1 hp).1; omega
      have ix0 : ∀ W : World, Sem.run Tryz.prog (Instr.index 9 (.string s) (.int .i64 0)) W = .ok (.int .u8 48) W := by have h := hix 0 (by have := (pre_iff.1 hp).1; omega); rw [(pre_iff.1 hp).2.1] at h; exact h
      have ix1 : ∀ W : World, Sem.run Tryz.prog (Instr.index 9 (.string s) (.int .i64 1)) W = .ok (.int .u8 120) W := by have h := hix 1 (by have := (pre_iff.1 hp).1; omega); rw [(pre_iff.1 hp).2.2] at h; exact h
      have ept : pt s = s.extract 2 s.size := if_pos hp
      have epb : pb s = 16 := if_pos hp
      have epm : pm s = 64 := if_pos hp
      have esz := pt_size s hp
      have PT : Hid (pt s = s.extract 2 s.size ∧ pb s = 16 ∧ pm s = 64) := ⟨ept, epb, epm⟩
      have LS : Hid (s.size ≤ 78) := by unfold Hid; omega
      have h2s : 2 ≤ s.size := (pre_iff.1 hp).1
      clear hix hp ept epb epm hl
      by_cases h64 : 64 < (s.extract 2 s.size).size
      · have NG : Hid (¬ Good s) := fun k => by have h := k.2.2.1; rw [PT.out.1, PT.out.2.2] at h; omega
        go_enter Tryz.func71, Tryz.ntmps71
        go_upto_region 8 with fail
        generalize s.extract 2 s.size = t at h64 ⊢
        have t64 : (64 : Int) < (t.size : Int) := by omega
        go_wp2
        exact bodyPost_ret (v := .tuple #[.agg #[.int .u64 0, .int .u64 0, .int .u64 0, .int .u64 0], .int .i64 10]) (by simp [results, Tryz.results71, go_sem]) rfl ⟨0, 0, 0, 0, 10, rfl, by repeat' (first | with_reducible exact Below.refl _ _ | with_reducible exact Below.refl _ _ | with_reducible refine Below.drew ?_ | with_reducible refine bdrewN ?_ _ | with_reducible refine Below.alloc ?_ ?_ _ | with_reducible refine Below.setCell ?_ ?_ _ | omega | (simp; done) | (simp; omega)), .inr ⟨NG.out, TEN.out, rfl, rfl, rfl, rfl⟩⟩
      · have TT : Hid (TL s (s.extract 2 s.size) 16) := by
          obtain ⟨p1, p2, p3⟩ := PT.out
          refine ⟨⟨by omega, by omega, by omega⟩, ?_, by rw [p1, p2], TEN.out⟩
          unfold Good Reads
          rw [p1, p2, p3]
          exact ⟨fun ⟨_, a, _, b, c⟩ => ⟨⟨a, b⟩, c⟩, fun ⟨⟨a, b⟩, c⟩ => ⟨LS.out, a, by omega, b, c⟩⟩
        have t64 : ¬ (64 : Int) < ((s.extract 2 s.size).size : Int) := by omega
        have HT : Hid ((s.extract 2 s.size).size = (s.extract 2 s.size).size) := rfl
        clear PT esz h64
        go_enter Tryz.func71, Tryz.ntmps71
        go_upto_region 1 with fail
        generalize w.alloc (.cells #[.int .u64 0, .int .u64 0, .int .u64 0, .int .u64 0] 24) = W0 at K0 ⊢
        go_upto_region 8 with fail
        generalize s.extract 2 s.size = t at TT t64 ⊢
        go_upto_region 10 with fail
        have RD : Hid (∀ W, Calls Tryz.prog 117 #[.string t, .int .i64 16] W (RRes 16 t W)) := fun W => rread_any t 16 ⟨by omega, by omega⟩ TT.out.1.2.2 W
        go_upto_region 11 with (go_at_call 117; refine (RD.out _).mono ?_; rintro e y1 ⟨x1, ok, rfl, hB, hh⟩)
        have J1 : Hid _ := K0.out.past hB
        clear hB K0 RD
        rcases hh with ⟨rfl, hg, hR⟩ | ⟨rfl, hg⟩
        · have RF : Hid (∀ W, Calls Tryz.prog 82 #[] W fun e w' => ∃ x, e = .returned x ∧ RowIs w' x 33 (256 ^ 32) ∧ Below W.heap.size W w') := fun W => ri_full W
          have HR : Hid (RowIs y1 x1 42 (rdn 16 (sg t) (t).size)) := hR
          have HG : Hid (0 < (t).size ∧ ∀ i, i < (t).size → digv (sg t i) < 16) := hg
          obtain ⟨M, eM⟩ : ∃ M, rdn 16 (sg t) (t).size = M := ⟨_, rfl⟩
          rw [eM] at HR
          have EM : Hid (rdn 16 (sg t) (t).size = M) := eM
          clear hg hR eM
          go_wp2_with fail
          refine (RF.out _).mono ?_
          rintro e y2 ⟨x2, rfl, hr2, hB⟩
          have J2 : Hid (Bx w [(w.heap.size, 0, 0, 0, 0)] y2 ∧ RowIs y2 x1 42 M ∧ RowIs y2 x2 33 (256 ^ 32)) := ⟨J1.out.past hB, HR.out.below hB, hr2⟩
          clear hB hr2 J1 HR RF
          have CM : Hid (Calls Tryz.prog 118 #[x1, x2] y2 fun e w' => e = .returned (.int .i64 (cmpv (M : Int) ((256 ^ 32 : Nat) : Int))) ∧ w' = y2) := ri_compareS J2.out.2.1 J2.out.2.2
          by_cases hM : M < 256 ^ 32
          · obtain ⟨cv, ecv, hcv⟩ : ∃ cv : Int, cmpv (M : Int) ((256 ^ 32 : Nat) : Int) = cv ∧ ¬ 0 ≤ cv := ⟨_, rfl, by unfold cmpv; rw [if_pos (by exact_mod_cast hM)]; omega⟩
            rw [ecv] at CM
            obtain ⟨p0, p1, p2, p3, hp⟩ := isW_ex (M : Int)
            have WD : Hid (Calls Tryz.prog 77 #[x1] y2 fun e w' => e = .returned (.agg #[.int .u64 p0, .int .u64 p1, .int .u64 p2, .int .u64 p3]) ∧ Below y2.heap.size y2 w') := ri_word J2.out.2.1 hp
            have GD : Hid (PRes s p0 p1 p2 p3 0) := .inl ⟨TT.out.2.1.2 ⟨HG.out, by rw [EM.out]; exact hM⟩, rfl, by rw [TT.out.2.2.1, EM.out]; exact hp⟩
            clear ecv hp hM
            go_wp2_with fail
            refine Calls.mono CM.out ?_
            rintro e w' ⟨rfl, hw⟩
            have hw2 := hw.symm
            clear hw
            subst hw2
            go_upto_region 13 with fail
            go_wp2_with fail
            refine Calls.mono WD.out ?_
            rintro e y4 ⟨rfl, hB⟩
            have J4 : Hid (Bx w [(w.heap.size, 0, 0, 0, 0)] y4) := J2.out.1.past hB
            clear hB
            obtain ⟨c0, c1, c2, c3, z0, z1, z2, z3⟩ := J4.out.f0 mm0
            go_wp2
            exact bodyPost_ret (v := .tuple #[.agg #[.int .u64 p0, .int .u64 p1, .int .u64 p2, .int .u64 p3], .int .i64 0]) (by simp [results, Tryz.results71, go_sem, c0, c1, c2, c3]) rfl ⟨p0, p1, p2, p3, 0, rfl, below_put J4.out.bel (Nat.le_refl _) _ _ _ _, GD.out⟩
          · obtain ⟨cv, ecv, hcv⟩ : ∃ cv : Int, cmpv (M : Int) ((256 ^ 32 : Nat) : Int) = cv ∧ 0 ≤ cv := ⟨_, rfl, by unfold cmpv; rw [if_neg (by intro h; exact hM (by exact_mod_cast h))]; split <;> omega⟩
            rw [ecv] at CM
            have GD : Hid (PRes s 0 0 0 0 10) := .inr ⟨fun k => hM (by have := (TT.out.2.1.1 k).2; rw [EM.out] at this; exact this), TT.out.2.2.2, rfl, rfl, rfl, rfl⟩
            clear ecv hM
            obtain ⟨c0, c1, c2, c3, z0, z1, z2, z3⟩ := J2.out.1.f0 mm0
            go_wp2_with fail
            refine Calls.mono CM.out ?_
            rintro e w' ⟨rfl, hw⟩
            have hw2 := hw.symm
            clear hw
            subst hw2
            go_wp2
            exact bodyPost_ret (v := .tuple #[.agg #[.int .u64 0, .int .u64 0, .int .u64 0, .int .u64 0], .int .i64 10]) (by simp [results, Tryz.results71, go_sem, c0, c1, c2, c3]) rfl ⟨0, 0, 0, 0, 10, rfl, below_put J2.out.1.bel (Nat.le_refl _) _ _ _ _, GD.out⟩
        · have GD : Hid (PRes s 0 0 0 0 10) := .inr ⟨fun k => hg (TT.out.2.1.1 k).1, TT.out.2.2.2, rfl, rfl, rfl, rfl⟩
          clear hg
          obtain ⟨c0, c1, c2, c3, z0, z1, z2, z3⟩ := J1.out.f0 mm0
          go_wp2
          exact bodyPost_ret (v := .tuple #[.agg #[.int .u64 0, .int .u64 0, .int .u64 0, .int .u64 0], .int .i64 10]) (by simp [results, Tryz.results71, go_sem, c0, c1, c2, c3]) rfl ⟨0, 0, 0, 0, 10, rfl, below_put J1.out.bel (Nat.le_refl _) _ _ _ _, GD.out⟩
    · have ept : pt s = s := if_neg hp
      have epb : pb s = 10 := if_neg hp
      have epm : pm s = 78 := if_neg hp
      have TT : Hid (TL s s 10) := by
        refine ⟨⟨by omega, by omega, by omega⟩, ?_, by rw [ept, epb], TEN.out⟩
        unfold Good Reads
        rw [ept, epb, epm]
        exact ⟨fun ⟨_, a, _, b, c⟩ => ⟨⟨a, b⟩, c⟩, fun ⟨⟨a, b⟩, c⟩ => ⟨by omega, a, by omega, b, c⟩⟩
      have hcase : (s.size : Int) < 2 ∨ ((2 : Int) ≤ (s.size : Int) ∧ ∃ c0 : Nat, (∀ W : World, Sem.run Tryz.prog (Instr.index 9 (.string s) (.int .i64 0)) W = .ok (.int .u8 (c0 : Int)) W) ∧ ¬ (c0 : Int) = 48) ∨ ((2 : Int) ≤ (s.size : Int) ∧ (∀ W : World, Sem.run Tryz.prog (Instr.index 9 (.string s) (.int .i64 0)) W = .ok (.int .u8 48) W) ∧ ∃ c1 : Nat, (∀ W : World, Sem.run Tryz.prog (Instr.index 9 (.string s) (.int .i64 1)) W = .ok (.int .u8 (c1 : Int)) W) ∧ ¬ (c1 : Int) = 120) := by
        by_cases h2 : s.size < 2
        · exact .inl (by omega)
        · by_cases h0 : sg s 0 = 48
          · refine .inr (.inr ⟨by omega, ?_, sg s 1, hix 1 (by omega), fun e => hp (pre_iff.2 ⟨by omega, h0, by omega⟩)⟩)
            have h := hix 0 (by omega)
            rw [h0] at h
            exact h
          · exact .inr (.inl ⟨by omega, sg s 0, hix 0 (by omega), by omega⟩)
      clear hix hp ept epb epm hl
      rcases hcase with h2 | ⟨h2, c0, ix0, n0⟩ | ⟨h2, ix0, c1, ix1, n1⟩
      · go_enter Tryz.func71, Tryz.ntmps71
        go_upto_region 1 with fail
        generalize w.alloc (.cells #[.int .u64 0, .int .u64 0, .int .u64 0, .int .u64 0] 24) = W0 at K0 ⊢
        go_upto_region 10 with fail
        have RD : Hid (∀ W, Calls Tryz.prog 117 #[.string s, .int .i64 10] W (RRes 10 s W)) := fun W => rread_any s 10 ⟨by omega, by omega⟩ TT.out.1.2.2 W
        go_upto_region 11 with (go_at_call 117; refine (RD.out _).mono ?_; rintro e y1 ⟨x1, ok, rfl, hB, hh⟩)
        have J1 : Hid _ := K0.out.past hB
        clear hB K0 RD
        rcases hh with ⟨rfl, hg, hR⟩ | ⟨rfl, hg⟩
        · have RF : Hid (∀ W, Calls Tryz.prog 82 #[] W fun e w' => ∃ x, e = .returned x ∧ RowIs w' x 33 (256 ^ 32) ∧ Below W.heap.size W w') := fun W => ri_full W
          have HR : Hid (RowIs y1 x1 42 (rdn 10 (sg s) (s).size)) := hR
          have HG : Hid (0 < (s).size ∧ ∀ i, i < (s).size → digv (sg s i) < 10) := hg
          obtain ⟨M, eM⟩ : ∃ M, rdn 10 (sg s) (s).size = M := ⟨_, rfl⟩
          rw [eM] at HR
          have EM : Hid (rdn 10 (sg s) (s).size = M) := eM
          clear hg hR eM
          go_wp2_with fail
          refine (RF.out _).mono ?_
          rintro e y2 ⟨x2, rfl, hr2, hB⟩
          have J2 : Hid (Bx w [(w.heap.size, 0, 0, 0, 0)] y2 ∧ RowIs y2 x1 42 M ∧ RowIs y2 x2 33 (256 ^ 32)) := ⟨J1.out.past hB, HR.out.below hB, hr2⟩
          clear hB hr2 J1 HR RF
          have CM : Hid (Calls Tryz.prog 118 #[x1, x2] y2 fun e w' => e = .returned (.int .i64 (cmpv (M : Int) ((256 ^ 32 : Nat) : Int))) ∧ w' = y2) := ri_compareS J2.out.2.1 J2.out.2.2
          by_cases hM : M < 256 ^ 32
          · obtain ⟨cv, ecv, hcv⟩ : ∃ cv : Int, cmpv (M : Int) ((256 ^ 32 : Nat) : Int) = cv ∧ ¬ 0 ≤ cv := ⟨_, rfl, by unfold cmpv; rw [if_pos (by exact_mod_cast hM)]; omega⟩
            rw [ecv] at CM
            obtain ⟨p0, p1, p2, p3, hp⟩ := isW_ex (M : Int)
            have WD : Hid (Calls Tryz.prog 77 #[x1] y2 fun e w' => e = .returned (.agg #[.int .u64 p0, .int .u64 p1, .int .u64 p2, .int .u64 p3]) ∧ Below y2.heap.size y2 w') := ri_word J2.out.2.1 hp
            have GD : Hid (PRes s p0 p1 p2 p3 0) := .inl ⟨TT.out.2.1.2 ⟨HG.out, by rw [EM.out]; exact hM⟩, rfl, by rw [TT.out.2.2.1, EM.out]; exact hp⟩
            clear ecv hp hM
            go_wp2_with fail
            refine Calls.mono CM.out ?_
            rintro e w' ⟨rfl, hw⟩
            have hw2 := hw.symm
            clear hw
            subst hw2
            go_upto_region 13 with fail
            go_wp2_with fail
            refine Calls.mono WD.out ?_
            rintro e y4 ⟨rfl, hB⟩
            have J4 : Hid (Bx w [(w.heap.size, 0, 0, 0, 0)] y4) := J2.out.1.past hB
            clear hB
            obtain ⟨c0, c1, c2, c3, z0, z1, z2, z3⟩ := J4.out.f0 mm0
            go_wp2
            exact bodyPost_ret (v := .tuple #[.agg #[.int .u64 p0, .int .u64 p1, .int .u64 p2, .int .u64 p3], .int .i64 0]) (by simp [results, Tryz.results71, go_sem, c0, c1, c2, c3]) rfl ⟨p0, p1, p2, p3, 0, rfl, below_put J4.out.bel (Nat.le_refl _) _ _ _ _, GD.out⟩
          · obtain ⟨cv, ecv, hcv⟩ : ∃ cv : Int, cmpv (M : Int) ((256 ^ 32 : Nat) : Int) = cv ∧ 0 ≤ cv := ⟨_, rfl, by unfold cmpv; rw [if_neg (by intro h; exact hM (by exact_mod_cast h))]; split <;> omega⟩
            rw [ecv] at CM
            have GD : Hid (PRes s 0 0 0 0 10) := .inr ⟨fun k => hM (by have := (TT.out.2.1.1 k).2; rw [EM.out] at this; exact this), TT.out.2.2.2, rfl, rfl, rfl, rfl⟩
            clear ecv hM
            obtain ⟨c0, c1, c2, c3, z0, z1, z2, z3⟩ := J2.out.1.f0 mm0
            go_wp2_with fail
            refine Calls.mono CM.out ?_
            rintro e w' ⟨rfl, hw⟩
            have hw2 := hw.symm
            clear hw
            subst hw2
            go_wp2
            exact bodyPost_ret (v := .tuple #[.agg #[.int .u64 0, .int .u64 0, .int .u64 0, .int .u64 0], .int .i64 10]) (by simp [results, Tryz.results71, go_sem, c0, c1, c2, c3]) rfl ⟨0, 0, 0, 0, 10, rfl, below_put J2.out.1.bel (Nat.le_refl _) _ _ _ _, GD.out⟩
        · have GD : Hid (PRes s 0 0 0 0 10) := .inr ⟨fun k => hg (TT.out.2.1.1 k).1, TT.out.2.2.2, rfl, rfl, rfl, rfl⟩
          clear hg
          obtain ⟨c0, c1, c2, c3, z0, z1, z2, z3⟩ := J1.out.f0 mm0
          go_wp2
          exact bodyPost_ret (v := .tuple #[.agg #[.int .u64 0, .int .u64 0, .int .u64 0, .int .u64 0], .int .i64 10]) (by simp [results, Tryz.results71, go_sem, c0, c1, c2, c3]) rfl ⟨0, 0, 0, 0, 10, rfl, below_put J1.out.bel (Nat.le_refl _) _ _ _ _, GD.out⟩
      · have n0b : ((c0 : Int) == 48) = false := by simpa using n0
        go_enter Tryz.func71, Tryz.ntmps71
        go_upto_region 1 with fail
        generalize w.alloc (.cells #[.int .u64 0, .int .u64 0, .int .u64 0, .int .u64 0] 24) = W0 at K0 ⊢
        go_upto_region 10 with fail
        have RD : Hid (∀ W, Calls Tryz.prog 117 #[.string s, .int .i64 10] W (RRes 10 s W)) := fun W => rread_any s 10 ⟨by omega, by omega⟩ TT.out.1.2.2 W
        go_upto_region 11 with (go_at_call 117; refine (RD.out _).mono ?_; rintro e y1 ⟨x1, ok, rfl, hB, hh⟩)
        have J1 : Hid _ := K0.out.past hB
        clear hB K0 RD
        rcases hh with ⟨rfl, hg, hR⟩ | ⟨rfl, hg⟩
        · have RF : Hid (∀ W, Calls Tryz.prog 82 #[] W fun e w' => ∃ x, e = .returned x ∧ RowIs w' x 33 (256 ^ 32) ∧ Below W.heap.size W w') := fun W => ri_full W
          have HR : Hid (RowIs y1 x1 42 (rdn 10 (sg s) (s).size)) := hR
          have HG : Hid (0 < (s).size ∧ ∀ i, i < (s).size → digv (sg s i) < 10) := hg
          obtain ⟨M, eM⟩ : ∃ M, rdn 10 (sg s) (s).size = M := ⟨_, rfl⟩
          rw [eM] at HR
          have EM : Hid (rdn 10 (sg s) (s).size = M) := eM
          clear hg hR eM
          go_wp2_with fail
          refine (RF.out _).mono ?_
          rintro e y2 ⟨x2, rfl, hr2, hB⟩
          have J2 : Hid (Bx w [(w.heap.size, 0, 0, 0, 0)] y2 ∧ RowIs y2 x1 42 M ∧ RowIs y2 x2 33 (256 ^ 32)) := ⟨J1.out.past hB, HR.out.below hB, hr2⟩
          clear hB hr2 J1 HR RF
          have CM : Hid (Calls Tryz.prog 118 #[x1, x2] y2 fun e w' => e = .returned (.int .i64 (cmpv (M : Int) ((256 ^ 32 : Nat) : Int))) ∧ w' = y2) := ri_compareS J2.out.2.1 J2.out.2.2
          by_cases hM : M < 256 ^ 32
          · obtain ⟨cv, ecv, hcv⟩ : ∃ cv : Int, cmpv (M : Int) ((256 ^ 32 : Nat) : Int) = cv ∧ ¬ 0 ≤ cv := ⟨_, rfl, by unfold cmpv; rw [if_pos (by exact_mod_cast hM)]; omega⟩
            rw [ecv] at CM
            obtain ⟨p0, p1, p2, p3, hp⟩ := isW_ex (M : Int)
            have WD : Hid (Calls Tryz.prog 77 #[x1] y2 fun e w' => e = .returned (.agg #[.int .u64 p0, .int .u64 p1, .int .u64 p2, .int .u64 p3]) ∧ Below y2.heap.size y2 w') := ri_word J2.out.2.1 hp
            have GD : Hid (PRes s p0 p1 p2 p3 0) := .inl ⟨TT.out.2.1.2 ⟨HG.out, by rw [EM.out]; exact hM⟩, rfl, by rw [TT.out.2.2.1, EM.out]; exact hp⟩
            clear ecv hp hM
            go_wp2_with fail
            refine Calls.mono CM.out ?_
            rintro e w' ⟨rfl, hw⟩
            have hw2 := hw.symm
            clear hw
            subst hw2
            go_upto_region 13 with fail
            go_wp2_with fail
            refine Calls.mono WD.out ?_
            rintro e y4 ⟨rfl, hB⟩
            have J4 : Hid (Bx w [(w.heap.size, 0, 0, 0, 0)] y4) := J2.out.1.past hB
            clear hB
            obtain ⟨c0, c1, c2, c3, z0, z1, z2, z3⟩ := J4.out.f0 mm0
            go_wp2
            exact bodyPost_ret (v := .tuple #[.agg #[.int .u64 p0, .int .u64 p1, .int .u64 p2, .int .u64 p3], .int .i64 0]) (by simp [results, Tryz.results71, go_sem, c0, c1, c2, c3]) rfl ⟨p0, p1, p2, p3, 0, rfl, below_put J4.out.bel (Nat.le_refl _) _ _ _ _, GD.out⟩
          · obtain ⟨cv, ecv, hcv⟩ : ∃ cv : Int, cmpv (M : Int) ((256 ^ 32 : Nat) : Int) = cv ∧ 0 ≤ cv := ⟨_, rfl, by unfold cmpv; rw [if_neg (by intro h; exact hM (by exact_mod_cast h))]; split <;> omega⟩
            rw [ecv] at CM
            have GD : Hid (PRes s 0 0 0 0 10) := .inr ⟨fun k => hM (by have := (TT.out.2.1.1 k).2; rw [EM.out] at this; exact this), TT.out.2.2.2, rfl, rfl, rfl, rfl⟩
            clear ecv hM
            obtain ⟨c0, c1, c2, c3, z0, z1, z2, z3⟩ := J2.out.1.f0 mm0
            go_wp2_with fail
            refine Calls.mono CM.out ?_
            rintro e w' ⟨rfl, hw⟩
            have hw2 := hw.symm
            clear hw
            subst hw2
            go_wp2
            exact bodyPost_ret (v := .tuple #[.agg #[.int .u64 0, .int .u64 0, .int .u64 0, .int .u64 0], .int .i64 10]) (by simp [results, Tryz.results71, go_sem, c0, c1, c2, c3]) rfl ⟨0, 0, 0, 0, 10, rfl, below_put J2.out.1.bel (Nat.le_refl _) _ _ _ _, GD.out⟩
        · have GD : Hid (PRes s 0 0 0 0 10) := .inr ⟨fun k => hg (TT.out.2.1.1 k).1, TT.out.2.2.2, rfl, rfl, rfl, rfl⟩
          clear hg
          obtain ⟨c0, c1, c2, c3, z0, z1, z2, z3⟩ := J1.out.f0 mm0
          go_wp2
          exact bodyPost_ret (v := .tuple #[.agg #[.int .u64 0, .int .u64 0, .int .u64 0, .int .u64 0], .int .i64 10]) (by simp [results, Tryz.results71, go_sem, c0, c1, c2, c3]) rfl ⟨0, 0, 0, 0, 10, rfl, below_put J1.out.bel (Nat.le_refl _) _ _ _ _, GD.out⟩
      · have n1b : ((c1 : Int) == 120) = false := by simpa using n1
        go_enter Tryz.func71, Tryz.ntmps71
        go_upto_region 1 with fail
        generalize w.alloc (.cells #[.int .u64 0, .int .u64 0, .int .u64 0, .int .u64 0] 24) = W0 at K0 ⊢
        go_upto_region 10 with fail
        have RD : Hid (∀ W, Calls Tryz.prog 117 #[.string s, .int .i64 10] W (RRes 10 s W)) := fun W => rread_any s 10 ⟨by omega, by omega⟩ TT.out.1.2.2 W
        go_upto_region 11 with (go_at_call 117; refine (RD.out _).mono ?_; rintro e y1 ⟨x1, ok, rfl, hB, hh⟩)
        have J1 : Hid _ := K0.out.past hB
        clear hB K0 RD
        rcases hh with ⟨rfl, hg, hR⟩ | ⟨rfl, hg⟩
        · have RF : Hid (∀ W, Calls Tryz.prog 82 #[] W fun e w' => ∃ x, e = .returned x ∧ RowIs w' x 33 (256 ^ 32) ∧ Below W.heap.size W w') := fun W => ri_full W
          have HR : Hid (RowIs y1 x1 42 (rdn 10 (sg s) (s).size)) := hR
          have HG : Hid (0 < (s).size ∧ ∀ i, i < (s).size → digv (sg s i) < 10) := hg
          obtain ⟨M, eM⟩ : ∃ M, rdn 10 (sg s) (s).size = M := ⟨_, rfl⟩
          rw [eM] at HR
          have EM : Hid (rdn 10 (sg s) (s).size = M) := eM
          clear hg hR eM
          go_wp2_with fail
          refine (RF.out _).mono ?_
          rintro e y2 ⟨x2, rfl, hr2, hB⟩
          have J2 : Hid (Bx w [(w.heap.size, 0, 0, 0, 0)] y2 ∧ RowIs y2 x1 42 M ∧ RowIs y2 x2 33 (256 ^ 32)) := ⟨J1.out.past hB, HR.out.below hB, hr2⟩
          clear hB hr2 J1 HR RF
          have CM : Hid (Calls Tryz.prog 118 #[x1, x2] y2 fun e w' => e = .returned (.int .i64 (cmpv (M : Int) ((256 ^ 32 : Nat) : Int))) ∧ w' = y2) := ri_compareS J2.out.2.1 J2.out.2.2
          by_cases hM : M < 256 ^ 32
          · obtain ⟨cv, ecv, hcv⟩ : ∃ cv : Int, cmpv (M : Int) ((256 ^ 32 : Nat) : Int) = cv ∧ ¬ 0 ≤ cv := ⟨_, rfl, by unfold cmpv; rw [if_pos (by exact_mod_cast hM)]; omega⟩
            rw [ecv] at CM
            obtain ⟨p0, p1, p2, p3, hp⟩ := isW_ex (M : Int)
            have WD : Hid (Calls Tryz.prog 77 #[x1] y2 fun e w' => e = .returned (.agg #[.int .u64 p0, .int .u64 p1, .int .u64 p2, .int .u64 p3]) ∧ Below y2.heap.size y2 w') := ri_word J2.out.2.1 hp
            have GD : Hid (PRes s p0 p1 p2 p3 0) := .inl ⟨TT.out.2.1.2 ⟨HG.out, by rw [EM.out]; exact hM⟩, rfl, by rw [TT.out.2.2.1, EM.out]; exact hp⟩
            clear ecv hp hM
            go_wp2_with fail
            refine Calls.mono CM.out ?_
            rintro e w' ⟨rfl, hw⟩
            have hw2 := hw.symm
            clear hw
            subst hw2
            go_upto_region 13 with fail
            go_wp2_with fail
            refine Calls.mono WD.out ?_
            rintro e y4 ⟨rfl, hB⟩
            have J4 : Hid (Bx w [(w.heap.size, 0, 0, 0, 0)] y4) := J2.out.1.past hB
            clear hB
            obtain ⟨c0, c1, c2, c3, z0, z1, z2, z3⟩ := J4.out.f0 mm0
            go_wp2
            exact bodyPost_ret (v := .tuple #[.agg #[.int .u64 p0, .int .u64 p1, .int .u64 p2, .int .u64 p3], .int .i64 0]) (by simp [results, Tryz.results71, go_sem, c0, c1, c2, c3]) rfl ⟨p0, p1, p2, p3, 0, rfl, below_put J4.out.bel (Nat.le_refl _) _ _ _ _, GD.out⟩
          · obtain ⟨cv, ecv, hcv⟩ : ∃ cv : Int, cmpv (M : Int) ((256 ^ 32 : Nat) : Int) = cv ∧ 0 ≤ cv := ⟨_, rfl, by unfold cmpv; rw [if_neg (by intro h; exact hM (by exact_mod_cast h))]; split <;> omega⟩
            rw [ecv] at CM
            have GD : Hid (PRes s 0 0 0 0 10) := .inr ⟨fun k => hM (by have := (TT.out.2.1.1 k).2; rw [EM.out] at this; exact this), TT.out.2.2.2, rfl, rfl, rfl, rfl⟩
            clear ecv hM
            obtain ⟨c0, c1, c2, c3, z0, z1, z2, z3⟩ := J2.out.1.f0 mm0
            go_wp2_with fail
            refine Calls.mono CM.out ?_
            rintro e w' ⟨rfl, hw⟩
            have hw2 := hw.symm
            clear hw
            subst hw2
            go_wp2
            exact bodyPost_ret (v := .tuple #[.agg #[.int .u64 0, .int .u64 0, .int .u64 0, .int .u64 0], .int .i64 10]) (by simp [results, Tryz.results71, go_sem, c0, c1, c2, c3]) rfl ⟨0, 0, 0, 0, 10, rfl, below_put J2.out.1.bel (Nat.le_refl _) _ _ _ _, GD.out⟩
        · have GD : Hid (PRes s 0 0 0 0 10) := .inr ⟨fun k => hg (TT.out.2.1.1 k).1, TT.out.2.2.2, rfl, rfl, rfl, rfl⟩
          clear hg
          obtain ⟨c0, c1, c2, c3, z0, z1, z2, z3⟩ := J1.out.f0 mm0
          go_wp2
          exact bodyPost_ret (v := .tuple #[.agg #[.int .u64 0, .int .u64 0, .int .u64 0, .int .u64 0], .int .i64 10]) (by simp [results, Tryz.results71, go_sem, c0, c1, c2, c3]) rfl ⟨0, 0, 0, 0, 10, rfl, below_put J1.out.bel (Nat.le_refl _) _ _ _ _, GD.out⟩
end Go.Proofs.YtpadpmkfhljiiaaGreat
/- WordTexts: for every word and every text the law returns true and turns nothing that was there. -/
namespace Go.Proofs.YtpadpmkfhljiiaaGreat
open Go.RowKit
set_option maxHeartbeats 4000000 in
set_option maxRecDepth 100000 in
theorem texts_walk (x : Int) (a0 a1 a2 a3 : Int) (s : ByteArray) (w : World) (ha : IsW x a0 a1 a2 a3) : Calls Tryz.prog 9 #[.agg #[.int .u64 a0, .int .u64 a1, .int .u64 a2, .int .u64 a3], .string s] w fun e w' => e = .returned (.bool true) ∧ Below w.heap.size w w' := by
  obtain ⟨p0, p1, p2, p3, er, hP⟩ := pres_ex s
  obtain ⟨X, hX, _, hlt⟩ := mod_nat ha
  obtain ⟨n, hn, _⟩ := ndig_word 10 X (by omega) (Nat.lt_trans hlt big78)
  obtain ⟨m, hm, _⟩ := ndig_word 16 X (by omega) (Nat.lt_trans hlt big78)
  have HPW : Hid (∀ w : World, Calls Tryz.prog 70 #[.string s] w fun e w' => e = .returned (.tuple #[.agg #[.int .u64 p0, .int .u64 p1, .int .u64 p2, .int .u64 p3], .int .i64 er]) ∧ Below w.heap.size w w') := fun w => parse_fix s p0 p1 p2 p3 er hP w
  have HPR : Hid (∀ w : World, Calls Tryz.prog 71 #[.string s] w fun e w' => e = .returned (.tuple #[.agg #[.int .u64 p0, .int .u64 p1, .int .u64 p2, .int .u64 p3], .int .i64 er]) ∧ Below w.heap.size w w') := fun w => by
    refine (rparse_is s w).mono ?_
    rintro e w' ⟨q0, q1, q2, q3, f, rfl, hb, hq⟩
    obtain ⟨rfl, rfl, rfl, rfl, rfl⟩ := pres_uniq hP hq
    exact ⟨rfl, hb⟩
  have HHW : Hid (∀ w : World, Calls Tryz.prog 72 #[.agg #[.int .u64 a0, .int .u64 a1, .int .u64 a2, .int .u64 a3]] w fun e w' => e = .returned (.string (ox ++ tell 16 X m)) ∧ Below w.heap.size w w') := fun w => hex_fix ha hX hm w
  have HHR : Hid (∀ w : World, Calls Tryz.prog 73 #[.agg #[.int .u64 a0, .int .u64 a1, .int .u64 a2, .int .u64 a3]] w fun e w' => e = .returned (.string (ox ++ tell 16 X m)) ∧ Below w.heap.size w w') := fun w => by
    refine (rhex_is x a0 a1 a2 a3 w ha X hX).mono ?_
    rintro e w' ⟨k, hk, _, rfl, hb⟩
    rw [hk.uniq hm]
    exact ⟨rfl, hb⟩
  have HTW : Hid (∀ w : World, Calls Tryz.prog 74 #[.agg #[.int .u64 a0, .int .u64 a1, .int .u64 a2, .int .u64 a3]] w fun e w' => e = .returned (.string (tell 10 X n)) ∧ Below w.heap.size w w') := fun w => text_fix ha hX hn w
  have HTR : Hid (∀ w : World, Calls Tryz.prog 75 #[.agg #[.int .u64 a0, .int .u64 a1, .int .u64 a2, .int .u64 a3]] w fun e w' => e = .returned (.string (tell 10 X n)) ∧ Below w.heap.size w w') := fun w => by
    refine (rtext_is x a0 a1 a2 a3 w ha X hX).mono ?_
    rintro e w' ⟨k, hk, _, rfl, hb⟩
    rw [hk.uniq hn]
    exact ⟨rfl, hb⟩
  generalize ox ++ tell 16 X m = hx at HHW HHR
  generalize tell 10 X n = tx at HTW HTR
  have eqs := eqw_same
  clear hP hX hlt hn hm ha
  go_enter Tryz.func9, Tryz.ntmps9
  go_upto_region 1 with fail
  have X0 : Hid (Bx w [(w.heap.size, a0, a1, a2, a3)] (w.alloc (.cells #[.int .u64 a0, .int .u64 a1, .int .u64 a2, .int .u64 a3] 24))) := (Bx.start w).alloc _ _ _ _
  generalize w.alloc (.cells #[.int .u64 a0, .int .u64 a1, .int .u64 a2, .int .u64 a3] 24) = v0 at X0 ⊢
  go_upto_region 2 with (go_at_call 70; refine (HPW.out _).mono ?_; rintro e y1 ⟨rfl, hB⟩; (have X1 : Hid _ := X0.out.past hB); clear hB X0)
  have X2 : Hid (Bx w [(y1.heap.size, p0, p1, p2, p3), (w.heap.size, a0, a1, a2, a3)] (y1.alloc (.cells #[.int .u64 p0, .int .u64 p1, .int .u64 p2, .int .u64 p3] 24))) := X1.out.alloc _ _ _ _
  generalize y1.alloc (.cells #[.int .u64 p0, .int .u64 p1, .int .u64 p2, .int .u64 p3] 24) = v1 at X2 ⊢
  generalize y1.heap.size = q1 at X2 ⊢
  clear X1
  go_upto_region 3 with (go_at_call 71; refine (HPR.out _).mono ?_; rintro e y2 ⟨rfl, hB⟩; (have X3 : Hid _ := X2.out.past hB); clear hB X2)
  have X4 : Hid (Bx w [(y2.heap.size, p0, p1, p2, p3), (q1, p0, p1, p2, p3), (w.heap.size, a0, a1, a2, a3)] (y2.alloc (.cells #[.int .u64 p0, .int .u64 p1, .int .u64 p2, .int .u64 p3] 24))) := X3.out.alloc _ _ _ _
  generalize y2.alloc (.cells #[.int .u64 p0, .int .u64 p1, .int .u64 p2, .int .u64 p3] 24) = v2 at X4 ⊢
  generalize y2.heap.size = q2 at X4 ⊢
  clear X3
  refine wp_region_held_drew (S := fun w' => Bx w [(q2, p0, p1, p2, p3), (q1, p0, p1, p2, p3), (w.heap.size, a0, a1, a2, a3)] w') (by kernel_rfl) X4.out.drew (fun hF => ?_)
  generalize v2.drew = z0 at hF ⊢
  clear X4
  refine wpAnyH_take (i := 0) (v := .agg #[.int .u64 p0, .int .u64 p1, .int .u64 p2, .int .u64 p3]) op0 (by kernel_rfl) (by kernel_rfl) (by kernel_rfl) (fun _ _ _ h => h) (Or.inl ⟨by rfl, fun W hS => ?_⟩) hF ?_
  · obtain ⟨c0, c1, c2, c3, _⟩ := hS.f0 mm1
    go_simp
  simp only [Act.put, List.setIfInBounds_toArray, List.set_cons_zero, List.set_cons_succ]
  refine wpAnyH_take (i := 1) (v := .agg #[.int .u64 p0, .int .u64 p1, .int .u64 p2, .int .u64 p3]) op1 (by kernel_rfl) (by kernel_rfl) (by kernel_rfl) (fun _ _ _ h => h) (Or.inl ⟨by rfl, fun W hS => ?_⟩) hF ?_
  · obtain ⟨c0, c1, c2, c3, _⟩ := hS.f0 mm0
    go_simp
  simp only [Act.put, List.setIfInBounds_toArray, List.set_cons_zero, List.set_cons_succ]
  refine wpAnyH_take (i := 2) (v := .bool true) op2 (by kernel_rfl) (by kernel_rfl) (by kernel_rfl) (fun _ _ _ h => h) (Or.inl ⟨by rfl, fun W hS => ?_⟩) hF ?_
  · go_simp
  simp only [Act.put, List.setIfInBounds_toArray, List.set_cons_zero, List.set_cons_succ]
  refine wpAnyH_take (i := 3) (v := .bool true) op3 (by kernel_rfl) (by kernel_rfl) (by kernel_rfl) (fun _ _ _ h => h) (Or.inl ⟨by rfl, fun W hS => ?_⟩) hF ?_
  · go_simp
  simp only [Act.put, List.setIfInBounds_toArray, List.set_cons_zero, List.set_cons_succ]
  refine wpAnyH_take (i := 4) (v := .int .i64 er) op4 (by kernel_rfl) (by kernel_rfl) (by kernel_rfl) (fun _ _ _ h => h) (Or.inl ⟨by rfl, fun W hS => ?_⟩) hF ?_
  · go_simp
  simp only [Act.put, List.setIfInBounds_toArray, List.set_cons_zero, List.set_cons_succ]
  refine wpAnyH_take (i := 5) (v := .int .i64 er) op5 (by kernel_rfl) (by kernel_rfl) (by kernel_rfl) (fun _ _ _ h => h) (Or.inl ⟨by rfl, fun W hS => ?_⟩) hF ?_
  · go_simp
  simp only [Act.put, List.setIfInBounds_toArray, List.set_cons_zero, List.set_cons_succ]
  refine wpAnyH_take (i := 6) (v := .bool true) op6 (by kernel_rfl) (by kernel_rfl) (by kernel_rfl) (fun _ _ _ h => h) (Or.inl ⟨by rfl, fun W hS => ?_⟩) hF ?_
  · go_simp
  simp only [Act.put, List.setIfInBounds_toArray, List.set_cons_zero, List.set_cons_succ]
  refine wpAnyH_take (i := 7) (v := .bool true) op7 (by kernel_rfl) (by kernel_rfl) (by kernel_rfl) (fun _ _ _ h => h) (Or.inl ⟨by rfl, fun W hS => ?_⟩) hF ?_
  · go_simp
  simp only [Act.put, List.setIfInBounds_toArray, List.set_cons_zero, List.set_cons_succ]
  refine wpAnyH_take (i := 8) (v := .bool true) op8 (by kernel_rfl) (by kernel_rfl) (by kernel_rfl) (fun _ _ _ h => h) (Or.inl ⟨by rfl, fun W hS => ?_⟩) hF ?_
  · go_simp
  simp only [Act.put, List.setIfInBounds_toArray, List.set_cons_zero, List.set_cons_succ]
  refine wpAnyH_take (i := 9) (v := .agg #[.int .u64 a0, .int .u64 a1, .int .u64 a2, .int .u64 a3]) op9 (by kernel_rfl) (by kernel_rfl) (by kernel_rfl) (fun _ _ _ h => h) (Or.inl ⟨by rfl, fun W hS => ?_⟩) hF ?_
  · obtain ⟨c0, c1, c2, c3, _⟩ := hS.f0 mm2
    go_simp
  simp only [Act.put, List.setIfInBounds_toArray, List.set_cons_zero, List.set_cons_succ]
  refine wpAnyH_take (i := 11) (v := .agg #[.int .u64 a0, .int .u64 a1, .int .u64 a2, .int .u64 a3]) op11 (by kernel_rfl) (by kernel_rfl) (by kernel_rfl) (fun _ _ _ h => h) (Or.inl ⟨by rfl, fun W hS => ?_⟩) hF ?_
  · obtain ⟨c0, c1, c2, c3, _⟩ := hS.f0 mm2
    go_simp
  simp only [Act.put, List.setIfInBounds_toArray, List.set_cons_zero, List.set_cons_succ]
  refine wpAnyH_ready (rs := [10]) (by kernel_rfl) (by simp) ?_
  refine AllReadyH.cons op10 (fun K hK => ?_) AllReadyH.nil
  rw [if_pos (by rfl)]
  go_simp
  refine (HHW.out _).mono ?_
  rintro e z1 ⟨rfl, hB⟩
  have hF1 : Bx w [(q2, p0, p1, p2, p3), (q1, p0, p1, p2, p3), (w.heap.size, a0, a1, a2, a3)] z1 := hF.past hB
  clear hB hF
  (try go_wp2_with fail)
  refine hK.out _ _ hF1 (fun _ => ?_)
  clear hK K
  (try simp only [Act.put, List.setIfInBounds_toArray, List.set_cons_zero, List.set_cons_succ])
  refine wpAnyH_ready (rs := [12]) (by kernel_rfl) (by simp) ?_
  refine AllReadyH.cons op12 (fun K hK => ?_) AllReadyH.nil
  rw [if_pos (by rfl)]
  go_simp
  refine (HHR.out _).mono ?_
  rintro e z2 ⟨rfl, hB⟩
  have hF2 : Bx w [(q2, p0, p1, p2, p3), (q1, p0, p1, p2, p3), (w.heap.size, a0, a1, a2, a3)] z2 := hF1.past hB
  clear hB hF1
  (try go_wp2_with fail)
  refine hK.out _ _ hF2 (fun _ => ?_)
  clear hK K
  (try simp only [Act.put, List.setIfInBounds_toArray, List.set_cons_zero, List.set_cons_succ])
  refine wpAnyH_take (i := 13) (v := .bool true) op13 (by kernel_rfl) (by kernel_rfl) (by kernel_rfl) (fun _ _ _ h => h) (Or.inl ⟨by rfl, fun W hS => ?_⟩) hF2 ?_
  · go_simp
  simp only [Act.put, List.setIfInBounds_toArray, List.set_cons_zero, List.set_cons_succ]
  refine wpAnyH_take (i := 14) (v := .bool true) op14 (by kernel_rfl) (by kernel_rfl) (by kernel_rfl) (fun _ _ _ h => h) (Or.inl ⟨by rfl, fun W hS => ?_⟩) hF2 ?_
  · go_simp
  simp only [Act.put, List.setIfInBounds_toArray, List.set_cons_zero, List.set_cons_succ]
  refine wpAnyH_take (i := 15) (v := .bool true) op15 (by kernel_rfl) (by kernel_rfl) (by kernel_rfl) (fun _ _ _ h => h) (Or.inl ⟨by rfl, fun W hS => ?_⟩) hF2 ?_
  · go_simp
  simp only [Act.put, List.setIfInBounds_toArray, List.set_cons_zero, List.set_cons_succ]
  refine wpAnyH_take (i := 16) (v := .agg #[.int .u64 a0, .int .u64 a1, .int .u64 a2, .int .u64 a3]) op16 (by kernel_rfl) (by kernel_rfl) (by kernel_rfl) (fun _ _ _ h => h) (Or.inl ⟨by rfl, fun W hS => ?_⟩) hF2 ?_
  · obtain ⟨c0, c1, c2, c3, _⟩ := hS.f0 mm2
    go_simp
  simp only [Act.put, List.setIfInBounds_toArray, List.set_cons_zero, List.set_cons_succ]
  refine wpAnyH_take (i := 18) (v := .agg #[.int .u64 a0, .int .u64 a1, .int .u64 a2, .int .u64 a3]) op18 (by kernel_rfl) (by kernel_rfl) (by kernel_rfl) (fun _ _ _ h => h) (Or.inl ⟨by rfl, fun W hS => ?_⟩) hF2 ?_
  · obtain ⟨c0, c1, c2, c3, _⟩ := hS.f0 mm2
    go_simp
  simp only [Act.put, List.setIfInBounds_toArray, List.set_cons_zero, List.set_cons_succ]
  refine wpAnyH_ready (rs := [17]) (by kernel_rfl) (by simp) ?_
  refine AllReadyH.cons op17 (fun K hK => ?_) AllReadyH.nil
  rw [if_pos (by rfl)]
  go_simp
  refine (HTW.out _).mono ?_
  rintro e z3 ⟨rfl, hB⟩
  have hF3 : Bx w [(q2, p0, p1, p2, p3), (q1, p0, p1, p2, p3), (w.heap.size, a0, a1, a2, a3)] z3 := hF2.past hB
  clear hB hF2
  (try go_wp2_with fail)
  refine hK.out _ _ hF3 (fun _ => ?_)
  clear hK K
  (try simp only [Act.put, List.setIfInBounds_toArray, List.set_cons_zero, List.set_cons_succ])
  refine wpAnyH_ready (rs := [19]) (by kernel_rfl) (by simp) ?_
  refine AllReadyH.cons op19 (fun K hK => ?_) AllReadyH.nil
  rw [if_pos (by rfl)]
  go_simp
  refine (HTR.out _).mono ?_
  rintro e z4 ⟨rfl, hB⟩
  have hF4 : Bx w [(q2, p0, p1, p2, p3), (q1, p0, p1, p2, p3), (w.heap.size, a0, a1, a2, a3)] z4 := hF3.past hB
  clear hB hF3
  (try go_wp2_with fail)
  refine hK.out _ _ hF4 (fun _ => ?_)
  clear hK K
  (try simp only [Act.put, List.setIfInBounds_toArray, List.set_cons_zero, List.set_cons_succ])
  refine wpAnyH_take (i := 20) (v := .bool true) op20 (by kernel_rfl) (by kernel_rfl) (by kernel_rfl) (fun _ _ _ h => h) (Or.inl ⟨by rfl, fun W hS => ?_⟩) hF4 ?_
  · go_simp
  simp only [Act.put, List.setIfInBounds_toArray, List.set_cons_zero, List.set_cons_succ]
  refine wpAnyH_take (i := 21) (v := .bool true) op21 (by kernel_rfl) (by kernel_rfl) (by kernel_rfl) (fun _ _ _ h => h) (Or.inl ⟨by rfl, fun W hS => ?_⟩) hF4 ?_
  · go_simp
  simp only [Act.put, List.setIfInBounds_toArray, List.set_cons_zero, List.set_cons_succ]
  refine wpAnyH_take (i := 22) (v := .bool true) op22 (by kernel_rfl) (by kernel_rfl) (by kernel_rfl) (fun _ _ _ h => h) (Or.inl ⟨by rfl, fun W hS => ?_⟩) hF4 ?_
  · go_simp
  simp only [Act.put, List.setIfInBounds_toArray, List.set_cons_zero, List.set_cons_succ]
  refine wpAnyH_ready (rs := [23]) (by kernel_rfl) (by simp) ?_
  refine AllReadyH.cons op23 (fun K hK => ?_) AllReadyH.nil
  rw [if_pos (by rfl)]
  go_simp
  refine (awake_any _).mono ?_
  rintro e z5 ⟨rfl, hB⟩
  have hF5 : Bx w [(q2, p0, p1, p2, p3), (q1, p0, p1, p2, p3), (w.heap.size, a0, a1, a2, a3)] z5 := hF4.past hB
  clear hB hF4
  (try go_wp2_with fail)
  refine hK.out _ _ hF5 (fun _ => ?_)
  clear hK K
  (try simp only [Act.put, List.setIfInBounds_toArray, List.set_cons_zero, List.set_cons_succ])
  refine wpAnyH_take (i := 24) (v := .bool true) op24 (by kernel_rfl) (by kernel_rfl) (by kernel_rfl) (fun _ _ _ h => h) (Or.inl ⟨by rfl, fun W hS => ?_⟩) hF5 ?_
  · go_simp
  simp only [Act.put, List.setIfInBounds_toArray, List.set_cons_zero, List.set_cons_succ]
  refine wpAnyH_take (i := 25) (v := .bool true) op25 (by kernel_rfl) (by kernel_rfl) (by kernel_rfl) (fun _ _ _ h => h) (Or.inl ⟨by rfl, fun W hS => ?_⟩) hF5 ?_
  · go_simp
  simp only [Act.put, List.setIfInBounds_toArray, List.set_cons_zero, List.set_cons_succ]
  refine wpAnyH_done (by kernel_rfl) ?_ _
  have X5 : Hid (Bx w [(q2, p0, p1, p2, p3), (q1, p0, p1, p2, p3), (w.heap.size, a0, a1, a2, a3)] z5) := hF5
  clear hF5
  go_wp2
  go_ret
  exact ⟨rfl, X5.out.bel⟩
end Go.Proofs.YtpadpmkfhljiiaaGreat
