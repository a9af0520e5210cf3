/- Bytes in a list: a list that reads so; a row of one's own; the law's 'laid' and 'stands'. -/
import Derived.Test.YtlemnjhdnciddaaQa
import Derived.Test.YtlemnjhdnciddaaUl
import Derived.Test.YtlemnjhdnciddaaUo
namespace Go.Proofs.Ytlemnjhdnciddaa
open Go.RowKit
theorem Try.info8 : (Try.prog.info? 5).map (fun i => (i.zero, i.size, i.bytes)) = some (some (.int .u8 0), 1, 1) := by kernel_rfl
theorem info_partsB {P : Program} {t : TypeId} {z : Value} {s b : Nat} (h : (P.info? t).map (fun i => (i.zero, i.size, i.bytes)) = some (some z, s, b)) : ∃ i, P.info? t = some i ∧ i.zero = some z ∧ i.size = s ∧ i.bytes = b := by
  cases hi : P.info? t with
  | none => rw [hi] at h; cases h
  | some i => rw [hi] at h; simp at h; exact ⟨i, rfl, h.1, h.2.1, h.2.2⟩
def bD (u : Nat → Nat) (n : Nat) : List Value := (List.range n).map fun i => .int .u8 (u i : Int)
theorem bD_snoc (u : Nat → Nat) (n : Nat) : bD u (n + 1) = bD u n ++ [.int .u8 (u n : Int)] := by simp [bD, List.range_succ]
theorem bD_at (u : Nat → Nat) (n i : Nat) (h : i < n) : (bD u n)[i]? = some (.int .u8 (u i : Int)) := by simp [bD, h]
theorem bD_len (u : Nat → Nat) (n : Nat) : (bD u n).length = n := by simp [bD]
theorem bD_ext {u v : Nat → Nat} {n : Nat} (h : ∀ i, i < n → u i = v i) : bD u n = bD v n := by
  unfold bD; apply List.map_congr_left; intro i hi; rw [h i (List.mem_range.1 hi)]
/-- these cells hold these bytes -/
def ByC (W : World) (g a n : Nat) (u : Nat → Nat) : Prop := ∀ i, i < n → W.cell? ⟨g, a + i, none⟩ = some (.int .u8 (u i : Int))
/-- v is a list of these n bytes -/
def By (W : World) (v : Value) (n : Nat) (u : Nat → Nat) : Prop := ∃ ad cap, v = .slice ad n cap ∧ n ≤ cap ∧ n ≤ 1152921504606846976 ∧ (0 < n → ∃ g a, ad = some ⟨g, a, none⟩ ∧ ByC W g a n u)
theorem ByC.past {W W' : World} {g a n : Nat} {u : Nat → Nat} (h : ByC W g a n u) (k : Below W.heap.size W W') : ByC W' g a n u := fun i hi => (k.cell (p := ⟨g, a + i, none⟩) (World.block_lt_of_cell? W _ (h i hi))).trans (h i hi)
theorem By.past {W W' : World} {v : Value} {n : Nat} {u : Nat → Nat} (h : By W v n u) (k : Below W.heap.size W W') : By W' v n u := by
  obtain ⟨ad, cap, rfl, h0, h1, h2⟩ := h
  exact ⟨ad, cap, rfl, h0, h1, fun hn => by obtain ⟨g, a, e, h3⟩ := h2 hn; exact ⟨g, a, e, h3.past k⟩⟩
theorem append_one {ops : Array Oper} {rest : List Oper} {o : Oper} {a : Act} {w : World} {Q : Exit → Act → World → Prop} (hgd : o.guard = none) (s x : Operand)
    (ho : o.op = .call { callee := .builtin .append, args := #[s, x], argTypes := #[31, 31] }) (base : Nat) (v : Value) (n : Nat) (u : Nat → Nat) (hs : a.eval s = v)
    (y : Int) (hy : y = (u n : Int)) (hown : w.ownsRow base 5 1 v n (bD u n)) (hx : a.eval x = .slice (some ⟨w.heap.size, 0, none⟩) 1 1) (hlen : n + 1 ≤ 1000000000) (hbase : base ≤ w.heap.size)
    (h : ∀ v' w', w'.ownsRow base 5 1 v' (n + 1) (bD u (n + 1)) → Below base w w' → wpList Try.prog ops Q rest (a.put o.dst v') w') : wpList Try.prog ops Q (o :: rest) a (w.alloc (.cells #[.int .u8 y] 5)) := by
  obtain ⟨i0, hi, hz0, hz1, hz2⟩ := info_partsB Try.info8
  refine wpList_append_own _ hgd s x 31 ho base 5 i0 (.int .u8 0) 1 1 Try.underlying31 hi hz0 hz1 hz2 rfl (by decide) v n (bD u n) hs (World.ownsRow.alloc hown _) ⟨w.heap.size, 0, none⟩ 1 1 [.int .u8 y] hx rfl (fun j u hj => by
    have : j = 0 := by have := (List.getElem?_eq_some_iff.1 hj).1; simpa using this
    subst this
    simp at hj
    subst hj
    simp [Addr.add]) (fun u hu => by rw [List.mem_singleton.1 hu]; rfl) (by unfold maxLen; omega) (by omega) (by simp; omega) (fun v' w' q1 q2 _ => h v' w' (by rw [bD_snoc, ← hy]; exact q1) (Below.grown ((Below.refl base w).alloc hbase _) q2 (by simp; omega) (fun q h => (hown.lt q h).1)))
/-- what is laid: the bytes, and room behind them with marks -/
def lay (u : Nat → Nat) (K i : Nat) : Nat := if i < K then u i else 201 + (i - K) % 5
theorem lay_lo {u : Nat → Nat} {K i : Nat} (h : i < K) : lay u K i = u i := if_pos h
theorem lay_hi (u : Nat → Nat) (K j : Nat) : lay u K (K + j) = 201 + j % 5 := by unfold lay; rw [if_neg (by omega), show K + j - K = j by omega]
theorem owns_slice {W : World} {B n : Nat} {v : Value} {xs : List Value} (hn : 0 < n) (h : W.ownsRow B 5 1 v n xs) : ∃ g c, v = .slice (some ⟨g, 0, none⟩) n c ∧ B ≤ g ∧ n ≤ c := by
  have h' := h
  obtain ⟨_, ⟨rfl, rfl⟩ | ⟨g, c, cur, rfl, hb, hh, hq, _⟩⟩ := h'
  · omega
  · exact ⟨g, c, rfl, hb, by omega⟩
theorem slice_toC (ad : Option Addr) (n cap q : Nat) (hq : q ≤ cap) (W : World) : Sem.run Try.prog (Instr.slice 31 (.slice ad n cap) none (some (.int .i64 (q : Int))) none) W = .ok (.slice ad q cap) W := by
  have e : (if cap = 0 then ad else ad.map (·.add (0 * 1))) = ad := by
    split
    · rfl
    · cases ad with
      | none => rfl
      | some a => obtain ⟨b, o, s⟩ := a; simp [Addr.add]
  simp [Instr.slice, Instr.sliceBounds, run_underlying Try.underlying31, run_sliceBound W .i64 (q : Int) cap _ (by omega) (by omega)]
  simpa using e
theorem owns_any {W : World} {B n : Nat} {v : Value} {xs : List Value} (h : W.ownsRow B 5 1 v n xs) : ∃ ad c, v = .slice ad n c := by
  have h' := h
  obtain ⟨_, ⟨rfl, rfl⟩ | ⟨g, c, cur, rfl, hb, hh, hq, _⟩⟩ := h'
  · exact ⟨_, _, rfl⟩
  · exact ⟨_, _, rfl⟩
/-- what 'laid' leaves -/
def Laid (w w' : World) (u : Nat → Nat) (K : Nat) (e : Ending) : Prop := ∃ g c, e = .returned (.slice (some ⟨g, 0, none⟩) K c) ∧ K + 75 ≤ c ∧ w'.ownsRow w.heap.size 5 1 (.slice (some ⟨g, 0, none⟩) (K + 75) c) (K + 75) (bD (lay u K) (K + 75)) ∧ w.heap.size ≤ g ∧ Below w.heap.size w w'
set_option maxHeartbeats 2000000 in
set_option maxRecDepth 100000 in
theorem laid_is (w : World) (v : Value) (n K : Nat) (u : Nat → Nat) (h : By w v n u) (hK : K = min n 70000) : Calls Try.prog 15 #[v] w fun e w' => Laid w w' u K e := by
  obtain ⟨ad, cap, rfl, hc0, hc1, hh⟩ := h
  have HH : Hid (0 < n → ∃ g a, ad = some ⟨g, a, none⟩ ∧ ByC w g a n u) := hh
  have HK : Hid (K = min n 70000) := hK
  have nI : (n : Int) ≤ 1152921504606846976 := by omega
  have K7 : Hid (K ≤ 70000) := by unfold Hid; omega
  clear hh hK hc0 hc1
  go_enter Try.func15, Try.ntmps15
  go_wp2
  go_loopw [3, 4] (fun s3 s4 wr => ∃ k : Nat, s4 = .int .i64 (k : Int) ∧ k ≤ K ∧ wr.ownsRow w.heap.size 5 1 s3 k (bD (lay u K) k) ∧ Below w.heap.size w wr) (fun _ s4 _ => K - (intOf s4).toNat)
  case atStart => exact ⟨0, rfl, by omega, World.ownsRow_nil _ _ _ _, Below.refl _ _⟩
  case round =>
    obtain ⟨k, rfl, hk, hO, hB⟩ := hrel
    have HO : Hid _ := hO
    have HB : Hid (Below w.heap.size w wr) := hB
    have hs := hB.size
    have kI : (k : Int) ≤ 70000 := by have := K7.out; omega
    clear hO hB
    by_cases e : k = K
    · subst e
      have hcond : ¬ ((k : Int) < (n : Int) ∧ (k : Int) < 70000) := by have := HK.out; omega
      obtain ⟨ad3, c3, e3⟩ := owns_any HO.out
      subst e3
      by_cases c1 : (k : Int) < (n : Int)
      · have c2 : ¬ ((k : Int) < 70000) := fun h => hcond ⟨c1, h⟩
        clear hcond HK HH
        go_upto_region 7 with fail
        go_wp2
        go_loopw [3, 6] (fun s3 s6 wq => ∃ j : Nat, s6 = .int .i64 (j : Int) ∧ j ≤ 75 ∧ wq.ownsRow w.heap.size 5 1 s3 (k + j) (bD (lay u k) (k + j)) ∧ Below w.heap.size w wq) (fun _ s6 _ => 75 - (intOf s6).toNat)
        case atStart => exact ⟨0, rfl, by omega, HO.out, HB.out⟩
        case round =>
          obtain ⟨j, rfl, hj, hO, hB⟩ := hrel
          have HO2 : Hid _ := hO
          have HB2 : Hid (Below w.heap.size w wr) := hB
          have hs2 := hB.size
          have jI : (j : Int) ≤ 75 := by omega
          clear hO hB
          by_cases e2 : j = 75
          · subst e2
            obtain ⟨g, c, e4, hg, hc⟩ := owns_slice (by omega) HO2.out
            subst e4
            have hsl := slice_toC (some ⟨g, 0, none⟩) (k + 75) c k (by omega)
            have HF : Hid (k + 75 ≤ c ∧ wr.ownsRow w.heap.size 5 1 (.slice (some ⟨g, 0, none⟩) (k + 75) c) (k + 75) (bD (lay u k) (k + 75)) ∧ w.heap.size ≤ g ∧ Below w.heap.size w wr) := ⟨hc, HO2.out, hg, HB2.out⟩
            clear hg hc HO2 HB2
            go_wp2
            go_ret
            exact ⟨g, c, rfl, HF.out⟩
          · have j75 : (j : Int) < 75 := by omega
            obtain ⟨q, hq⟩ : ∃ q : Nat, q = j % 5 := ⟨_, rfl⟩
            have t2 : Int.tmod (j : Int) 5 = (q : Int) := by rw [Int.tmod_eq_emod_of_nonneg (by omega)]; omega
            have t2' : (j : Int) % 5 = (q : Int) := by omega
            have q5 : (q : Int) < 5 := by omega
            obtain ⟨y, hy⟩ : ∃ y : Int, (201 : Int) + (q : Int) = y := ⟨_, rfl⟩
            have wy : IntKind.i64.wrap y = y := by rw [IntKind.wrap_i64]; omega
            have wy8 : IntKind.u8.wrap y = y := by rw [IntKind.wrap_u8]; omega
            have wq2 : IntKind.i64.wrap (q : Int) = (q : Int) := by rw [IntKind.wrap_i64]; omega
            have EY : Hid (y = (lay u k (k + j) : Int)) := by unfold Hid; rw [lay_hi]; omega
            clear hq
            go_wp2_with (at_builtin; refine append_one rfl _ _ rfl w.heap.size u3 (k + j) (lay u k) rfl y EY.out HO2.out rfl (by have := K7.out; omega) hs2 ?_; intro v' w' hO3 hB3)
            have HR : Hid (w'.ownsRow w.heap.size 5 1 v' (k + (j + 1)) (bD (lay u k) (k + (j + 1))) ∧ Below w.heap.size w w') := ⟨hO3, HB2.out.trans hB3⟩
            clear hO3 hB3
            go_roundw
            case rel => exact ⟨j + 1, by first | rfl | go_num, by omega, HR.out⟩
            case measure => simp [intOf]; omega
      · clear hcond HK HH
        go_upto_region 7 with fail
        go_wp2
        go_loopw [3, 6] (fun s3 s6 wq => ∃ j : Nat, s6 = .int .i64 (j : Int) ∧ j ≤ 75 ∧ wq.ownsRow w.heap.size 5 1 s3 (k + j) (bD (lay u k) (k + j)) ∧ Below w.heap.size w wq) (fun _ s6 _ => 75 - (intOf s6).toNat)
        case atStart => exact ⟨0, rfl, by omega, HO.out, HB.out⟩
        case round =>
          obtain ⟨j, rfl, hj, hO, hB⟩ := hrel
          have HO2 : Hid _ := hO
          have HB2 : Hid (Below w.heap.size w wr) := hB
          have hs2 := hB.size
          have jI : (j : Int) ≤ 75 := by omega
          clear hO hB
          by_cases e2 : j = 75
          · subst e2
            obtain ⟨g, c, e4, hg, hc⟩ := owns_slice (by omega) HO2.out
            subst e4
            have hsl := slice_toC (some ⟨g, 0, none⟩) (k + 75) c k (by omega)
            have HF : Hid (k + 75 ≤ c ∧ wr.ownsRow w.heap.size 5 1 (.slice (some ⟨g, 0, none⟩) (k + 75) c) (k + 75) (bD (lay u k) (k + 75)) ∧ w.heap.size ≤ g ∧ Below w.heap.size w wr) := ⟨hc, HO2.out, hg, HB2.out⟩
            clear hg hc HO2 HB2
            go_wp2
            go_ret
            exact ⟨g, c, rfl, HF.out⟩
          · have j75 : (j : Int) < 75 := by omega
            obtain ⟨q, hq⟩ : ∃ q : Nat, q = j % 5 := ⟨_, rfl⟩
            have t2 : Int.tmod (j : Int) 5 = (q : Int) := by rw [Int.tmod_eq_emod_of_nonneg (by omega)]; omega
            have t2' : (j : Int) % 5 = (q : Int) := by omega
            have q5 : (q : Int) < 5 := by omega
            obtain ⟨y, hy⟩ : ∃ y : Int, (201 : Int) + (q : Int) = y := ⟨_, rfl⟩
            have wy : IntKind.i64.wrap y = y := by rw [IntKind.wrap_i64]; omega
            have wy8 : IntKind.u8.wrap y = y := by rw [IntKind.wrap_u8]; omega
            have wq2 : IntKind.i64.wrap (q : Int) = (q : Int) := by rw [IntKind.wrap_i64]; omega
            have EY : Hid (y = (lay u k (k + j) : Int)) := by unfold Hid; rw [lay_hi]; omega
            clear hq
            go_wp2_with (at_builtin; refine append_one rfl _ _ rfl w.heap.size u3 (k + j) (lay u k) rfl y EY.out HO2.out rfl (by have := K7.out; omega) hs2 ?_; intro v' w' hO3 hB3)
            have HR : Hid (w'.ownsRow w.heap.size 5 1 v' (k + (j + 1)) (bD (lay u k) (k + (j + 1))) ∧ Below w.heap.size w w') := ⟨hO3, HB2.out.trans hB3⟩
            clear hO3 hB3
            go_roundw
            case rel => exact ⟨j + 1, by first | rfl | go_num, by omega, HR.out⟩
            case measure => simp [intOf]; omega
    · have kn : k < n := by have := HK.out; omega
      obtain ⟨g, a, rfl, hc⟩ := HH.out (by omega)
      have c := (HB.out.cell (p := ⟨g, a + k, none⟩) (World.block_lt_of_cell? w _ (hc k kn))).trans (hc k kn)
      have knI : (k : Int) < (n : Int) := by omega
      have k70 : (k : Int) < 70000 := by have := K7.out; omega
      have EY : Hid ((u k : Int) = (lay u K k : Int)) := by unfold Hid; rw [lay_lo (by omega)]
      generalize (u k : Int) = y at c EY
      clear hc
      go_wp2_with (at_builtin; refine append_one rfl _ _ rfl w.heap.size u3 k (lay u K) rfl y EY.out HO.out rfl (by have := K7.out; omega) hs ?_; intro v' w' hO2 hB2)
      have HR : Hid (w'.ownsRow w.heap.size 5 1 v' (k + 1) (bD (lay u K) (k + 1)) ∧ Below w.heap.size w w') := ⟨hO2, HB.out.trans hB2⟩
      clear hO2 hB2
      go_roundw
      case rel => exact ⟨k + 1, by first | rfl | go_num, by omega, HR.out⟩
      case measure => simp [intOf]; omega
end Go.Proofs.Ytlemnjhdnciddaa
