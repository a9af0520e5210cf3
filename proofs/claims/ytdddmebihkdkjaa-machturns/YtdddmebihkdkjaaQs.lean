/- A stack that is filled, and the list of what was pushed. -/
import Derived.Test.YtdddmebihkdkjaaQp
namespace Go.Proofs.Ytdddmebihkdkjaa
open Go.RowKit
def lead (x : Ring) : Ring := fun i => if i = 0 then ⟨3, 0, 0, 0⟩ else if i = 1 then ⟨2, 0, 0, 0⟩ else if i = 2 then ⟨1, 0, 0, 0⟩ else x (i - 3)
theorem WordsIn.news {W : World} {g k : Nat} {z : Ring} (h : WordsIn W g 0 k z) (j : Nat) (u : Value) (hj : (rowW z k)[j]? = some u) : W.cell? ((⟨g, 0, none⟩ : Addr).add j) = some u := by
  obtain ⟨h1, h2⟩ := rowW_cell z k j u hj
  rw [Addr.add_mid, h2]; exact (h.cell j h1).1
/-- k words on an empty list of one's own -/
theorem wpList_append_first {w : World} {ops : Array Oper} {rest : List Oper} {o : Oper} {a : Act} {Q : Exit → Act → World → Prop} (hgd : o.guard = none) (s x : Operand)
    (ho : o.op = .call { callee := .builtin .append, args := #[s, x], argTypes := #[52, 52] })
    (base : Nat) (v : Value) (hs : a.eval s = v) (hown : w.ownsRow base 30 4 v 0 []) (g k c : Nat) (hx : a.eval x = .slice (some ⟨g, 0, none⟩) k c) (z : Ring) (hw : WordsIn w g 0 k z) (hk : k ≤ 1048576) (hbase : base ≤ w.heap.size)
    (h : ∀ v' w', w'.ownsRow base 30 4 v' k (rowW z k) → w.grownBy w' v.ownBlock → wpList Try.prog ops Q rest (a.put o.dst v') w') : wpList Try.prog ops Q (o :: rest) a w := by
  obtain ⟨i0, hi, hz0, hz1, hz2⟩ := info_parts Try.infoW
  refine wpList_plain hgd fun K hK => ?_
  refine wp_append_own w s x 52 ho base 30 i0 _ 4 32 Try.underlying52 hi hz0 hz1 hz2 rfl (by decide) v 0 [] hs hown ⟨g, 0, none⟩ k c (rowW z k) hx (rowW_len z k) hw.news (rowW_one z k) (by unfold maxLen; omega) (by omega) hbase fun v' w' h1 h2 _ => hK _ _ (h v' w' ?_ h2)
  simpa using h1
theorem three_new (w : World) (t : TypeId) (x : Ring) : WordsIn (w.alloc (.cells #[.int .u64 3, .int .u64 0, .int .u64 0, .int .u64 0, .int .u64 2, .int .u64 0, .int .u64 0, .int .u64 0, .int .u64 1, .int .u64 0, .int .u64 0, .int .u64 0] t)) w.heap.size 0 3 (lead x) := fun i hi => by
  obtain rfl | rfl | rfl : i = 0 ∨ i = 1 ∨ i = 2 := by omega
  all_goals (constructor <;> simp [World.cell?_alloc_at, World.frozen?_alloc_at, lead])
/-- what a filled stack is -/
def Filled (w w' : World) (v : Value) (m : Nat) (y : Ring) (b : Nat) : Prop := ∃ B f, LF w w' b B v f (m : Int) m y ∧ ∀ i, i < m → f i = y i
set_option maxHeartbeats 4000000 in
set_option maxRecDepth 100000 in
theorem filled_is (w : World) (v : Value) (n : Nat) (x : Ring) (hv : WL w v n x) (hn : n ≤ 4398046511104) : Calls Try.prog 32 #[v] w fun e w' => ∃ b v', e = .returned (.tuple #[.pointer (some ⟨b, 0, none⟩), v']) ∧ Filled w w' v' (min (n + 3) 1024) (lead x) b := by
  obtain ⟨ad, cap, rfl, hv⟩ := hv
  have HV : Hid (0 < n → ∃ g a, ad = some ⟨g, a, none⟩ ∧ ∀ i, i < n → Rd w g (a + i * 4) (x i)) := hv
  have nI : (n : Int) ≤ 4398046511104 := by omega
  obtain ⟨y, ey⟩ : ∃ y, y = lead x := ⟨_, rfl⟩
  have YX : Hid (∀ i, y (i + 3) = x i) := fun i => by rw [ey]; unfold lead; rw [if_neg (by omega), if_neg (by omega), if_neg (by omega), show i + 3 - 3 = i by omega]
  have Y3 : Hid (∀ (W : World) (t : TypeId), WordsIn (W.alloc (.cells #[.int .u64 3, .int .u64 0, .int .u64 0, .int .u64 0, .int .u64 2, .int .u64 0, .int .u64 0, .int .u64 0, .int .u64 1, .int .u64 0, .int .u64 0, .int .u64 0] t)) W.heap.size 0 3 y) := fun W t => by rw [ey]; exact three_new W t x
  rw [← ey]
  clear hv ey
  go_enter Try.func32, Try.ntmps32
  go_upto_region 5 with (go_at_call 25; refine (newStack_is _).mono ?_; rintro e v1 ⟨rfl, hN⟩; (have L0 : Hid (LF w v1 w.heap.size v1.heap.size (.slice none 0 0) ring0 0 0 y) := LF.nil hN.st (Nat.le_refl _) hN.bel y); clear hN)
  generalize hb0 : w.heap.size = b at L0 ⊢
  replace hb0 : Hid (w.heap.size = b) := hb0
  generalize hB0 : v1.heap.size = B at L0
  have HB0 : Hid (v1.heap.size = B) := hB0
  clear hB0
  go_upto_region 6 with (at_builtin; refine wpList_append_first rfl _ _ rfl B (.slice none 0 0) rfl (World.ownsRow.alloc L0.out.ow _) v1.heap.size 3 3 rfl y (Y3.out v1 _) (by omega) (by (have := HB0.out; simp; omega)) ?_; intro v' v3 h1 h2; (have k : Below B v1 v3 := grown_below (Below.refl B v1) L0.out.hB L0.out.ow _ h2); (have L1 : Hid (LF w v3 b B v' ring0 0 3 y) := ⟨L0.out.st.below k L0.out.hb, h1, L0.out.hb, Nat.le_trans L0.out.hB k.size, L0.out.ge, L0.out.bel.trans (k.mono (by (have := L0.out.hb; have := L0.out.ge; omega)))⟩); clear h1 h2 k L0)
  obtain ⟨aq, cq, rfl, _⟩ := owns_words L1.out.ow
  go_wp2
  go_loopw [5, 6] (fun s5 si wr => ∃ (k : Nat), k ≤ n ∧ k ≤ 1021 ∧ si = .int .i64 (k : Int) ∧ LF w wr b B s5 ring0 0 (k + 3) y) (fun _ si _ => 1021 - (intOf si).toNat)
  case atStart => exact ⟨0, by omega, by omega, rfl, L1.out⟩
  case round =>
    obtain ⟨k, hk, hk2, rfl, hL⟩ := hrel
    have L2 : Hid (LF w wr b B u5 ring0 0 (k + 3) y) := hL
    obtain ⟨ao, co, rfl, how⟩ := owns_words hL.ow
    clear hL L1
    by_cases hkn : k < n ∧ k < 1021
    · obtain ⟨hkn, hkt⟩ := hkn
      have kI : (k : Int) < (n : Int) := by omega
      have ktI : ((k + 3 : Nat) : Int) < 1024 := by omega
      obtain ⟨g, a, rfl, hR⟩ := HV.out (by omega)
      have hr : Rd wr g (a + k * 4) (x k) := (hR k hkn).below L2.out.bel (hR k hkn).lt
      obtain ⟨z, ez⟩ : ∃ z, x k = z := ⟨_, rfl⟩
      rw [ez] at hr
      have RX : Hid (rowW (rput y (k + 3) z) (k + 3 + 1) = rowW y (k + 3 + 1)) := rowW_ext _ fun i hi => by
        unfold rput; split
        · rename_i e; rw [e, YX.out, ez]
        · rfl
      obtain ⟨r0, r1, r2, r3⟩ := hr
      clear hR ez how
      go_wp2_with (at_builtin; refine wpList_append_word rfl _ _ rfl B (.slice ao (k + 3) co) (k + 3) y rfl (World.ownsRow.alloc L2.out.ow _) wr.heap.size 1 rfl z (Wd.new wr _ z) (by omega) (by (have := L2.out.hB; simp; omega)) ?_; intro v' v4 h1 h2; (have L3 : Hid (LF w v4 b B v' ring0 0 (k + 3 + 1) y) := L2.out.app _ (by rw [← RX.out]; exact h1) h2); clear h1 h2 L2)
      go_roundw
      case rel => exact ⟨k + 1, by omega, by omega, by simp, by rw [show k + 1 + 3 = k + 3 + 1 by omega]; exact L3.out⟩
      case measure => simp [intOf]; omega
    · obtain ⟨m, em⟩ : ∃ m, k + 3 = m := ⟨_, rfl⟩
      have EM : Hid (m = min (n + 3) 1024) := by unfold Hid; omega
      have FIN : Hid (∀ W v0 f, LF w W b B v0 f (m : Int) m y → (∀ i, i < m → f i = y i) → Filled w W v0 (min (n + 3) 1024) y b) := fun W v0 f h1 h2 => by rw [← EM.out]; exact ⟨B, f, h1, h2⟩
      have hm3 : 3 ≤ m := by omega
      have hm24 : m ≤ 1024 := by omega
      have mI : (m : Int) ≤ 1024 := by omega
      clear how
      by_cases hkn2 : k < n
      · have kI : (k : Int) < (n : Int) := by omega
        have ktI : ¬ ((m : Int) < 1024) := by omega
        rw [em] at L2 ⊢
        clear em
        go_wp2
        go_loopw [7] (fun si wr => ∃ (j : Nat) (f : Ring), j ≤ m ∧ si = .int .i64 (j : Int) ∧ (∀ i, i < j → f i = y i) ∧ LF w wr b B (.slice ao m co) f (j : Int) m y) (fun si _ => m - (intOf si).toNat)
        case atStart => exact ⟨0, ring0, by omega, rfl, fun i hi => absurd hi (by omega), L2.out⟩
        case round =>
          obtain ⟨j, f, hj, rfl, hf, hL⟩ := hrel
          have L3 : Hid (LF w wr b B (.slice ao m co) f (j : Int) m y) := hL
          have HF : Hid (∀ i, i < j → f i = y i) := hf
          clear hL hf L2
          by_cases hjm : j < m
          · have jI : (j : Int) < (m : Int) := by omega
            obtain ⟨ao', co', eo, how'⟩ := owns_words L3.out.ow
            injection eo with eo1 _ eo2
            subst eo1 eo2
            obtain ⟨g', rfl, _, hwi⟩ := how' (by omega)
            obtain ⟨z, ez⟩ : ∃ z, y j = z := ⟨_, rfl⟩
            have hr := (hwi j hjm).rd
            rw [ez, Nat.zero_add] at hr
            obtain ⟨r0, r1, r2, r3⟩ := hr
            have PS : Hid (Calls Try.prog 26 #[.pointer (some ⟨b, 0, none⟩), z.v] wr fun e w' => e = .returned (.int .i64 0) ∧ Stk w' b 0 4096 (rput f j z) ((j + 1 : Nat) : Int) ∧ Only b wr w') := by
              have h := push_is wr b f (j : Int) L3.out.st z
              rw [show oPush f (j : Int) z = ⟨0, rput f j z, ((j + 1 : Nat) : Int)⟩ by unfold oPush; rw [if_neg (by omega), pl_nat j (by omega), wrap64_nat j (by omega)]] at h
              exact h
            have FX : Hid (∀ i, i < j + 1 → rput f j z i = y i) := fun i hi => by
              unfold rput; split
              · rename_i e; rw [e, ez]
              · exact HF.out i (by omega)
            clear ez hwi how'
            go_wp2_with (go_at_call 26; refine (PS.out).mono ?_; rintro e v4 ⟨rfl, h1, h2⟩; (have L4 : Hid (LF w v4 b B (.slice (some ⟨g', 0, none⟩) m co) (rput f j z) ((j + 1 : Nat) : Int) m y) := L3.out.call h1 h2); clear h1 h2 PS L3)
            go_roundw
            case rel => exact ⟨j + 1, rput f j z, by omega, by simp, FX.out, L4.out⟩
            case measure => simp [intOf]; omega
          · obtain rfl : j = m := by omega
            go_wp2
            refine bodyPost_ret (v := .tuple #[.pointer (some ⟨b, 0, none⟩), .slice ao j co]) ?_ rfl ⟨b, _, rfl, FIN.out _ _ f L3.out HF.out⟩
            simp [results, Try.results32, go_sem]
      · have kI : ¬ ((k : Int) < (n : Int)) := by omega
        rw [em] at L2 ⊢
        clear em
        go_wp2
        go_loopw [7] (fun si wr => ∃ (j : Nat) (f : Ring), j ≤ m ∧ si = .int .i64 (j : Int) ∧ (∀ i, i < j → f i = y i) ∧ LF w wr b B (.slice ao m co) f (j : Int) m y) (fun si _ => m - (intOf si).toNat)
        case atStart => exact ⟨0, ring0, by omega, rfl, fun i hi => absurd hi (by omega), L2.out⟩
        case round =>
          obtain ⟨j, f, hj, rfl, hf, hL⟩ := hrel
          have L3 : Hid (LF w wr b B (.slice ao m co) f (j : Int) m y) := hL
          have HF : Hid (∀ i, i < j → f i = y i) := hf
          clear hL hf L2
          by_cases hjm : j < m
          · have jI : (j : Int) < (m : Int) := by omega
            obtain ⟨ao', co', eo, how'⟩ := owns_words L3.out.ow
            injection eo with eo1 _ eo2
            subst eo1 eo2
            obtain ⟨g', rfl, _, hwi⟩ := how' (by omega)
            obtain ⟨z, ez⟩ : ∃ z, y j = z := ⟨_, rfl⟩
            have hr := (hwi j hjm).rd
            rw [ez, Nat.zero_add] at hr
            obtain ⟨r0, r1, r2, r3⟩ := hr
            have PS : Hid (Calls Try.prog 26 #[.pointer (some ⟨b, 0, none⟩), z.v] wr fun e w' => e = .returned (.int .i64 0) ∧ Stk w' b 0 4096 (rput f j z) ((j + 1 : Nat) : Int) ∧ Only b wr w') := by
              have h := push_is wr b f (j : Int) L3.out.st z
              rw [show oPush f (j : Int) z = ⟨0, rput f j z, ((j + 1 : Nat) : Int)⟩ by unfold oPush; rw [if_neg (by omega), pl_nat j (by omega), wrap64_nat j (by omega)]] at h
              exact h
            have FX : Hid (∀ i, i < j + 1 → rput f j z i = y i) := fun i hi => by
              unfold rput; split
              · rename_i e; rw [e, ez]
              · exact HF.out i (by omega)
            clear ez hwi how'
            go_wp2_with (go_at_call 26; refine (PS.out).mono ?_; rintro e v4 ⟨rfl, h1, h2⟩; (have L4 : Hid (LF w v4 b B (.slice (some ⟨g', 0, none⟩) m co) (rput f j z) ((j + 1 : Nat) : Int) m y) := L3.out.call h1 h2); clear h1 h2 PS L3)
            go_roundw
            case rel => exact ⟨j + 1, rput f j z, by omega, by simp, FX.out, L4.out⟩
            case measure => simp [intOf]; omega
          · obtain rfl : j = m := by omega
            go_wp2
            refine bodyPost_ret (v := .tuple #[.pointer (some ⟨b, 0, none⟩), .slice ao j co]) ?_ rfl ⟨b, _, rfl, FIN.out _ _ f L3.out HF.out⟩
            simp [results, Try.results32, go_sem]
end Go.Proofs.Ytdddmebihkdkjaa
