/- What the document says of containers, as functions on lists: numbers in bytes, Check, Serialize, the header, Parse, Lay. -/
import Derived.Test.YtndhabhlajldeaaBka
namespace Go.Proofs.Ytndhabhlajldeaa
/-- the number that bytes are -/
def num (l : List Nat) : Nat := l.foldl (fun n b => 256 * n + b) 0
theorem num_nil : num [] = 0 := rfl
theorem num_snoc (l : List Nat) (x : Nat) : num (l ++ [x]) = 256 * num l + x := by simp [num]
def Byt (l : List Nat) : Prop := ∀ x ∈ l, x < 256
theorem num_lt (l : List Nat) (h : Byt l) : num l < 256 ^ l.length := by
  have key : ∀ (r : List Nat) (n : Nat), Byt r → r.foldl (fun n b => 256 * n + b) n < (n + 1) * 256 ^ r.length := by
    intro r
    induction r with
    | nil => intro n _; simp
    | cons x r ih =>
      intro n hr
      have h1 := ih (256 * n + x) (fun y hy => hr y (List.mem_cons_of_mem _ hy))
      have h2 := hr x (List.mem_cons_self ..)
      rw [List.foldl_cons, List.length_cons, Nat.pow_succ]
      refine Nat.lt_of_lt_of_le h1 ?_
      have : 256 * n + x + 1 ≤ (n + 1) * 256 := by omega
      have e : ((n + 1) * 256) * 256 ^ r.length = (n + 1) * (256 ^ r.length * 256) := by rw [Nat.mul_assoc, Nat.mul_comm 256]
      rw [← e]
      exact Nat.mul_le_mul_right _ this
  simpa [num] using key l 0 h
/-- the bytes of a number, the highest first -/
def dig : Nat → Nat → List Nat
  | 0, _ => []
  | w + 1, n => dig w (n / 256) ++ [n % 256]
theorem dig_len : ∀ w n, (dig w n).length = w
  | 0, _ => rfl
  | w + 1, n => by rw [dig, List.length_append, dig_len w]; rfl
theorem dig_byt : ∀ w n, Byt (dig w n)
  | 0, _ => fun x hx => by cases hx
  | w + 1, n => fun x hx => by
    rcases List.mem_append.1 hx with h | h
    · exact dig_byt w _ x h
    · rw [List.mem_singleton.1 h]; exact Nat.mod_lt _ (by omega)
theorem num_dig : ∀ w n, num (dig w n) = n % 256 ^ w
  | 0, n => by simp [dig, num, Nat.mod_one]
  | w + 1, n => by
    rw [dig, num_snoc, num_dig w, Nat.pow_succ, Nat.mul_comm (256 ^ w), Nat.mod_mul]
    omega
theorem dig_num : ∀ (w : Nat) (l : List Nat), l.length = w → Byt l → dig w (num l) = l
  | 0, l, hl, _ => by rw [List.eq_nil_of_length_eq_zero hl]; rfl
  | w + 1, l, hl, hb => by
    have hne : l ≠ [] := by intro e; subst e; simp at hl
    obtain ⟨r, x, rfl⟩ : ∃ r x, l = r ++ [x] := ⟨l.dropLast, l.getLast hne, (List.dropLast_concat_getLast hne).symm⟩
    have hx : x < 256 := hb x (by simp)
    rw [num_snoc, dig, show (256 * num r + x) / 256 = num r by omega, show (256 * num r + x) % 256 = x by omega, dig_num w r (by simpa using hl) (fun y hy => hb y (List.mem_append_left _ hy))]
/-- which of a type's numbers may not be: 0 In, 1 Out, 2 Most; 3: all may -/
def okIn (i : Nat) (x : Int) : Bool := x == 0 || (decide (0 < i) && (decide (0 < x) && decide (x ≤ 127)))
def okOut (i : Nat) (x : Int) : Bool := x == 128 || (decide (0 < i) && (decide (0 ≤ x) && decide (x < 128)))
def okMost (x : Int) : Bool := decide (0 ≤ x) && decide (x ≤ 1023)
def tyBad (i : Nat) (t : Ty) : Nat := if okIn i t.1 = false then 0 else if okOut i t.2.1 = false then 1 else if okMost t.2.2 = false then 2 else 3
/-- pieces: each has a byte, none too many -/
def chkP (most : Nat) : List (List Nat) → Int
  | [] => 0
  | l :: r => if l.length = 0 then 56 else if most < l.length then 2 else chkP most r
def chkT : Nat → List Ty → Int
  | _, [] => 0
  | i, t :: r => if tyBad i t < 3 then 59 else chkT (i + 1) r
/-- 5.1 -/
def chk (c : Con) : Int :=
  if c.cs.length = 0 ∨ 1024 < c.cs.length then 55 else if c.ts.length ≠ c.cs.length then 54
  else if chkP 65535 c.cs ≠ 0 then chkP 65535 c.cs else if 256 < c.ss.length then 57
  else if chkP 4294967295 c.ss ≠ 0 then chkP 4294967295 c.ss else if 65535 < c.n then 2
  else if c.n < (c.d.length : Int) then 1 else chkT 0 c.ts
/-- the header's bytes -/
def hd (cs ss : List Nat) (n : Nat) : List Nat :=
  [239, 0, 1] ++ ([1] ++ dig 2 (4 * cs.length)) ++ ([2] ++ dig 2 cs.length ++ cs.flatMap (dig 2)) ++ (if ss.length = 0 then [] else [3] ++ dig 2 ss.length ++ ss.flatMap (dig 4)) ++ ([255] ++ dig 2 n) ++ [0]
def tyb (t : Ty) : List Nat := dig 1 t.1.toNat ++ dig 1 t.2.1.toNat ++ dig 2 t.2.2.toNat
def lns (l : List (List Nat)) : List Nat := l.map List.length
/-- 5.2 -/
def ser (c : Con) : List Nat := hd (lns c.cs) (lns c.ss) c.n.toNat ++ c.ts.flatMap tyb ++ c.cs.flatten ++ c.ss.flatten ++ c.d
/-- a number of w bytes at place k -/
def rd (b : List Nat) (k w : Nat) : Nat := num ((b.drop k).take w)
/-- what is wrong, and where -/
abbrev Er := Nat × Nat
/-- a field of w bytes at place k -/
def fld (b : List Nat) (k w why : Nat) (p : Nat → Bool) : Except Er Nat :=
  if b.length < k + w then .error (50, b.length) else if p (rd b k w) then .ok (rd b k w) else .error (why, k)
/-- m lengths of w bytes each -/
def lens (b : List Nat) (w : Nat) : Nat → Nat → Except Er (List Nat)
  | _, 0 => .ok []
  | k, m + 1 => (fld b k w 56 (fun n => decide (0 < n))).bind fun n => (lens b w (k + w) m).bind fun r => .ok (n :: r)
def pT (n : Nat) : Bool := decide (0 < n) && (n % 4 == 0 && decide (n ≤ 4096))
def pK (n : Nat) : Bool := n == 3 || n == 255
def pS (n : Nat) : Bool := decide (0 < n) && decide (n ≤ 256)
/-- what a header says: lengths, the declared length, where it ends -/
structure Hd where
  cs : List Nat
  ss : List Nat
  d : Nat
  e : Nat
def hdEnd (b : List Nat) (k : Nat) (cs ss : List Nat) : Except Er Hd := (fld b k 2 0 (fun _ => true)).bind fun d => (fld b (k + 2) 1 53 (fun n => n == 0)).bind fun _ => .ok ⟨cs, ss, d, k + 3⟩
def hdSubs (b : List Nat) (k : Nat) (cs : List Nat) : Except Er Hd :=
  (fld b k 2 57 pS).bind fun s => (lens b 4 (k + 2) s).bind fun ss => (fld b (k + 2 + 4 * s) 1 53 (fun n => n == 255)).bind fun _ => hdEnd b (k + 2 + 4 * s + 1) cs ss
def hdKind (b : List Nat) (k : Nat) (cs : List Nat) : Except Er Hd := (fld b k 1 53 pK).bind fun q => if q = 3 then hdSubs b (k + 1) cs else hdEnd b (k + 1) cs []
def hdr (b : List Nat) : Except Er Hd :=
  (fld b 0 1 51 (fun n => n == 239)).bind fun _ => (fld b 1 1 51 (fun n => n == 0)).bind fun _ => (fld b 2 1 52 (fun n => n == 1)).bind fun _ => (fld b 3 1 53 (fun n => n == 1)).bind fun _ =>
  (fld b 4 2 54 pT).bind fun t => (fld b 6 1 53 (fun n => n == 2)).bind fun _ => (fld b 7 2 55 (fun n => n == t / 4)).bind fun m => (lens b 2 9 m).bind fun cs => hdKind b (9 + 2 * m) cs
def sumL (l : List Nat) : Nat := l.foldl (· + ·) 0
/-- the types, from section i on -/
def tyAt (b : List Nat) (k i : Nat) : Except Er Ty :=
  (fld b k 1 59 (fun n => okIn i n)).bind fun x => (fld b (k + 1) 1 59 (fun n => okOut i n)).bind fun y => (fld b (k + 2) 2 59 (fun n => okMost n)).bind fun z => .ok ((x : Int), (y : Int), (z : Int))
def tys (b : List Nat) : Nat → Nat → Nat → Except Er (List Ty)
  | _, _, 0 => .ok []
  | k, i, m + 1 => (tyAt b k i).bind fun t => (tys b (k + 4) (i + 1) m).bind fun r => .ok (t :: r)
/-- pieces of these lengths, from a place on -/
def cuts (b : List Nat) : Nat → List Nat → List (List Nat)
  | _, [] => []
  | k, n :: r => (b.drop k).take n :: cuts b (k + n) r
/-- 5.3 -/
def prs (b : List Nat) (opn : Bool) : Except Er Con := (hdr b).bind fun h =>
  let body := h.e + 4 * h.cs.length
  let data := body + sumL h.cs + sumL h.ss
  if b.length < (if opn then data else data + h.d) then .error (50, b.length) else if data + h.d < b.length then .error (58, data + h.d)
  else (tys b h.e 0 h.cs.length).bind fun ts => .ok ⟨ts, cuts b body h.cs, cuts b (body + sumL h.cs) h.ss, b.drop data, (h.d : Int)⟩
/-- 5.4 -/
def layC (c : Con) (b : List Nat) : Int × Con :=
  if chk c ≠ 0 then (chk c, con0) else if ((c.d.length + b.length : Nat) : Int) < c.n then (50, con0) else if 65535 < c.d.length + b.length then (2, con0)
  else (0, ⟨c.ts, c.cs, c.ss, c.d ++ b, ((c.d.length + b.length : Nat) : Int)⟩)
end Go.Proofs.Ytndhabhlajldeaa
