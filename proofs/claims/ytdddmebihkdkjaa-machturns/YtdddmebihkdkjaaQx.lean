/- MachTurns: all ways. -/
import Derived.Test.YtdddmebihkdkjaaQt0
import Derived.Test.YtdddmebihkdkjaaQt1
import Derived.Test.YtdddmebihkdkjaaQt2
import Derived.Test.YtdddmebihkdkjaaQt3
import Derived.Test.YtdddmebihkdkjaaQt4
import Derived.Test.YtdddmebihkdkjaaQt5
import Derived.Test.YtdddmebihkdkjaaQt6
import Derived.Test.YtdddmebihkdkjaaQt7
import Derived.Test.YtdddmebihkdkjaaQt8
import Derived.Test.YtdddmebihkdkjaaQt9
import Derived.Test.YtdddmebihkdkjaaQt10
import Derived.Test.YtdddmebihkdkjaaQt11
import Derived.Test.YtdddmebihkdkjaaQt12
namespace Go.Proofs.Ytdddmebihkdkjaa
open Go.RowKit
theorem machTurns_walk (w : World) (v : Value) (n : Nat) (x : Ring) (hv : WL w v n x) (hn : n ≤ 4398046511104) (N M : Int) : Calls Try.prog 6 #[v, .int .i64 N, .int .i64 M] w fun e w' => e = .returned (.bool true) ∧ Below w.heap.size w w' := by
  obtain ⟨k, ek⟩ : ∃ k, min (n + 3) 1024 = k := ⟨_, rfl⟩
  by_cases a1 : N < 1
  · exact turns0 w v n k x hv hn ek N M a1
  have a1' : 1 ≤ N := by omega
  by_cases a2 : (k : Int) < N
  · by_cases m1 : M < 1
    · exact turns1 w v n k x hv hn ek N M a1' a2 m1
    · exact turns2 w v n k x hv hn ek N M a1' a2 (by omega) (by omega)
  by_cases a3 : N = (k : Int)
  · by_cases m1 : M < 1
    · by_cases k1 : k = 1024
      · exact turns3 w v n k x hv hn ek N M a1' a3 m1 k1
      · exact turns4 w v n k x hv hn ek N M a1' a3 m1 (by omega)
    · by_cases k1 : k = 1024
      · exact turns5 w v n k x hv hn ek N M a1' a3 (by omega) (by omega) k1
      · exact turns6 w v n k x hv hn ek N M a1' a3 (by omega) (by omega) (by omega)
  have a4 : N < (k : Int) := by omega
  by_cases m1 : M < 1
  · by_cases k1 : k = 1024
    · exact turns7 w v n k x hv hn ek N M a1' a4 m1 k1
    · exact turns8 w v n k x hv hn ek N M a1' a4 m1 (by omega)
  by_cases m2 : (k : Int) ≤ N + M
  · by_cases k1 : k = 1024
    · exact turns9 w v n k x hv hn ek N M a1' a4 (by omega) m2 k1
    · exact turns10 w v n k x hv hn ek N M a1' a4 (by omega) m2 (by omega)
  · by_cases k1 : k = 1024
    · exact turns11 w v n k x hv hn ek N M a1' a4 (by omega) (by omega) k1
    · exact turns12 w v n k x hv hn ek N M a1' a4 (by omega) (by omega) (by omega)
end Go.Proofs.Ytdddmebihkdkjaa
