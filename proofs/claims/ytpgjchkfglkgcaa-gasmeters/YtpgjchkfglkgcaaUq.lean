/- Meters of both kinds. -/
import Derived.Test.YtpgjchkfglkgcaaQa
import Derived.Test.YtpgjchkfglkgcaaUl
namespace Go.Proofs.Ytpgjchkfglkgcaa
open Go.RowKit
/-- block b is a meter with so much -/
structure Met (W : World) (b : Nat) (n : Int) : Prop where
  c : W.cell? ⟨b, 0, none⟩ = some (.int .u64 n)
  f : W.frozen? ⟨b, 0, none⟩ = false
  lo : 0 ≤ n
  hi : n ≤ 18446744073709551615
theorem Met.lt {W : World} {b : Nat} {n : Int} (h : Met W b n) : b < W.heap.size := World.block_lt_of_cell? W _ h.c
theorem Met.past {W W' : World} {b : Nat} {n : Int} (h : Met W b n) (k : Below W.heap.size W W') : Met W' b n := ⟨(k.cell (p := ⟨b, 0, none⟩) h.lt).trans h.c, (k.frozen (p := ⟨b, 0, none⟩) h.lt).trans h.f, h.lo, h.hi⟩
theorem Met.only {W W' : World} {b c : Nat} {n : Int} (h : Met W b n) (k : Only c W W') (hb : b ≠ c) : Met W' b n := ⟨(k.cell (p := ⟨b, 0, none⟩) h.lt hb).trans h.c, (k.frozen (p := ⟨b, 0, none⟩) h.lt hb).trans h.f, h.lo, h.hi⟩
theorem Met.set {W : World} {b : Nat} {n : Int} (h : Met W b n) (m : Int) (m0 : 0 ≤ m) (m1 : m ≤ 18446744073709551615) : Met (W.setCell ⟨b, 0, none⟩ (.int .u64 m)) b m := ⟨World.cell?_setCell_same _ _ _ h.c, by rw [World.frozen?_setCell]; exact h.f, m0, m1⟩
theorem Met.new (w : World) (t : TypeId) (n : Int) (n0 : 0 ≤ n) (n1 : n ≤ 18446744073709551615) : Met (w.alloc (.cells #[.int .u64 n] t)) w.heap.size n := ⟨by simp [World.cell?_alloc_at], by simp [World.frozen?_alloc_at], n0, n1⟩
/-- what is left behind Pay, behind Gain -/
def pyL (m n : Int) : Int := if n ≤ m then m - n else m
def pyB (m n : Int) : Bool := decide (n ≤ m)
def gnL (m n : Int) : Int := if m + n ≤ 18446744073709551615 then m + n else m
def gnB (m n : Int) : Bool := decide (m + n ≤ 18446744073709551615)
/-- a new meter: where it lies -/
def NewMet (w w' : World) (n : Int) (e : Ending) : Prop := e = .returned (.pointer (some ⟨w.heap.size, 0, none⟩)) ∧ Met w' w.heap.size n ∧ Below w.heap.size w w'
theorem newMeter_is (w : World) (n : Int) (n0 : 0 ≤ n) (n1 : n ≤ 18446744073709551615) : Calls Try.prog 34 #[.int .u64 n] w fun e w' => NewMet w w' n e := by
  have HN : Hid (Met (w.alloc (.cells #[.int .u64 n] 59)) w.heap.size n ∧ Below w.heap.size w (w.alloc (.cells #[.int .u64 n] 59))) := ⟨Met.new w 59 n n0 n1, (Below.refl _ _).alloc (Nat.le_refl _) _⟩
  go_enter Try.func34, Try.ntmps34
  go_wp2
  go_ret
  exact ⟨rfl, HN.out⟩
theorem left_is (w : World) (b : Nat) (m : Int) (h : Met w b m) : Calls Try.prog 40 #[.pointer (some ⟨b, 0, none⟩)] w fun e w' => e = .returned (.int .u64 m) ∧ w' = w := by
  have c := h.c
  go_enter Try.func40, Try.ntmps40
  go_wp2
  go_ret
  exact ⟨rfl, rfl⟩
theorem pay_is (w : World) (b : Nat) (m n : Int) (h : Met w b m) (n0 : 0 ≤ n) : Calls Try.prog 36 #[.pointer (some ⟨b, 0, none⟩), .int .u64 n] w fun e w' => e = .returned (.bool (pyB m n)) ∧ Met w' b (pyL m n) ∧ Only b w w' := by
  have HM : Hid (Met w b m) := h
  obtain ⟨c, f, m0, m1⟩ := h
  by_cases h1 : n ≤ m
  · have e1 : pyB m n = true := by simp [pyB, h1]
    have e2 : pyL m n = m - n := by simp [pyL, h1]
    rw [e1, e2]
    clear e1 e2
    have h2 : ¬ m < n := by omega
    have HS : Hid (Met (w.setCell ⟨b, 0, none⟩ (.int .u64 (m - n))) b (m - n) ∧ Only b w (w.setCell ⟨b, 0, none⟩ (.int .u64 (m - n)))) := ⟨HM.out.set _ (by omega) (by omega), (Only.refl _ _).set _ _⟩
    go_enter Try.func36, Try.ntmps36
    go_wp2
    go_ret
    exact ⟨rfl, HS.out⟩
  · have e1 : pyB m n = false := by simp [pyB, h1]
    have e2 : pyL m n = m := by simp [pyL, h1]
    rw [e1, e2]
    clear e1 e2
    have h2 : m < n := by omega
    go_enter Try.func36, Try.ntmps36
    go_wp2
    go_ret
    exact ⟨rfl, HM.out, Only.refl _ _⟩
theorem gain_is (w : World) (b : Nat) (m n : Int) (h : Met w b m) (n0 : 0 ≤ n) : Calls Try.prog 38 #[.pointer (some ⟨b, 0, none⟩), .int .u64 n] w fun e w' => e = .returned (.bool (gnB m n)) ∧ Met w' b (gnL m n) ∧ Only b w w' := by
  have HM : Hid (Met w b m) := h
  obtain ⟨c, f, m0, m1⟩ := h
  by_cases h1 : m + n ≤ 18446744073709551615
  · have e1 : gnB m n = true := by simp [gnB, h1]
    have e2 : gnL m n = m + n := by simp [gnL, h1]
    rw [e1, e2]
    clear e1 e2
    have h2 : ¬ 18446744073709551615 - m < n := by omega
    have HS : Hid (Met (w.setCell ⟨b, 0, none⟩ (.int .u64 (m + n))) b (m + n) ∧ Only b w (w.setCell ⟨b, 0, none⟩ (.int .u64 (m + n)))) := ⟨HM.out.set _ (by omega) (by omega), (Only.refl _ _).set _ _⟩
    go_enter Try.func38, Try.ntmps38
    go_wp2
    go_ret
    exact ⟨rfl, HS.out⟩
  · have e1 : gnB m n = false := by simp [gnB, h1]
    have e2 : gnL m n = m := by simp [gnL, h1]
    rw [e1, e2]
    clear e1 e2
    have h2 : 18446744073709551615 - m < n := by omega
    go_enter Try.func38, Try.ntmps38
    go_wp2
    go_ret
    exact ⟨rfl, HM.out, Only.refl _ _⟩
theorem newMeterR_is (w : World) (n : Int) (n0 : 0 ≤ n) (n1 : n ≤ 18446744073709551615) : Calls Try.prog 35 #[.int .u64 n] w fun e w' => NewMet w w' n e := by
  have HN : Hid (Met (w.alloc (.cells #[.int .u64 n] 61)) w.heap.size n ∧ Below w.heap.size w (w.alloc (.cells #[.int .u64 n] 61))) := ⟨Met.new w 61 n n0 n1, (Below.refl _ _).alloc (Nat.le_refl _) _⟩
  go_enter Try.func35, Try.ntmps35
  go_wp2
  go_ret
  exact ⟨rfl, HN.out⟩
theorem leftR_is (w : World) (b : Nat) (m : Int) (h : Met w b m) : Calls Try.prog 41 #[.pointer (some ⟨b, 0, none⟩)] w fun e w' => e = .returned (.int .u64 m) ∧ w' = w := by
  have c := h.c
  go_enter Try.func41, Try.ntmps41
  go_wp2
  go_ret
  exact ⟨rfl, rfl⟩
theorem payR_is (w : World) (b : Nat) (m n : Int) (h : Met w b m) (n0 : 0 ≤ n) : Calls Try.prog 37 #[.pointer (some ⟨b, 0, none⟩), .int .u64 n] w fun e w' => e = .returned (.bool (pyB m n)) ∧ Met w' b (pyL m n) ∧ Only b w w' := by
  have HM : Hid (Met w b m) := h
  obtain ⟨c, f, m0, m1⟩ := h
  by_cases h1 : n ≤ m
  · have e1 : pyB m n = true := by simp [pyB, h1]
    have e2 : pyL m n = m - n := by simp [pyL, h1]
    rw [e1, e2]
    clear e1 e2
    have h2 : ¬ m < n := by omega
    have HS : Hid (Met (w.setCell ⟨b, 0, none⟩ (.int .u64 (m - n))) b (m - n) ∧ Only b w (w.setCell ⟨b, 0, none⟩ (.int .u64 (m - n)))) := ⟨HM.out.set _ (by omega) (by omega), (Only.refl _ _).set _ _⟩
    go_enter Try.func37, Try.ntmps37
    go_wp2
    go_ret
    exact ⟨rfl, HS.out⟩
  · have e1 : pyB m n = false := by simp [pyB, h1]
    have e2 : pyL m n = m := by simp [pyL, h1]
    rw [e1, e2]
    clear e1 e2
    have h2 : m < n := by omega
    go_enter Try.func37, Try.ntmps37
    go_wp2
    go_ret
    exact ⟨rfl, HM.out, Only.refl _ _⟩
theorem gainR_is (w : World) (b : Nat) (m n : Int) (h : Met w b m) (n0 : 0 ≤ n) : Calls Try.prog 39 #[.pointer (some ⟨b, 0, none⟩), .int .u64 n] w fun e w' => e = .returned (.bool (gnB m n)) ∧ Met w' b (gnL m n) ∧ Only b w w' := by
  have HM : Hid (Met w b m) := h
  obtain ⟨c, f, m0, m1⟩ := h
  by_cases h1 : m + n ≤ 18446744073709551615
  · have e1 : gnB m n = true := by simp [gnB, h1]
    have e2 : gnL m n = m + n := by simp [gnL, h1]
    rw [e1, e2]
    clear e1 e2
    have h2 : ¬ 18446744073709551615 - m < n := by omega
    have HS : Hid (Met (w.setCell ⟨b, 0, none⟩ (.int .u64 (m + n))) b (m + n) ∧ Only b w (w.setCell ⟨b, 0, none⟩ (.int .u64 (m + n)))) := ⟨HM.out.set _ (by omega) (by omega), (Only.refl _ _).set _ _⟩
    go_enter Try.func39, Try.ntmps39
    go_wp2
    go_ret
    exact ⟨rfl, HS.out⟩
  · have e1 : gnB m n = false := by simp [gnB, h1]
    have e2 : gnL m n = m := by simp [gnL, h1]
    rw [e1, e2]
    clear e1 e2
    have h2 : 18446744073709551615 - m < n := by omega
    go_enter Try.func39, Try.ntmps39
    go_wp2
    go_ret
    exact ⟨rfl, HM.out, Only.refl _ _⟩
end Go.Proofs.Ytpgjchkfglkgcaa
