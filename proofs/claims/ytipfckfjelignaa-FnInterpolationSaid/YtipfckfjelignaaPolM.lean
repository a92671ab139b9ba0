/- LagrangeCoefs of the reference; tables; ValueFrom of both. -/
import Derived.Test.YtipfckfjelignaaPolL
namespace Go.Proofs.Ytipfckfjelignaa
open Go.RowKit

theorem resB_in {x q : Int} (h2 : 2 ≤ q) (h3 : q ≤ 2000000000) : resB x q = inB x 0 (q - 1) := by
  cases h : inB x 0 (q - 1)
  · rw [resB_false]
    rcases inB_false.1 h with h | h
    · exact .inr (.inl h)
    · exact .inr (.inr (by omega))
  · obtain ⟨a, b⟩ := inB_true.1 h
    exact resB_true.2 ⟨h2, h3, a, by omega⟩

theorem lagrangeCoefs_ans {q x : Int} {P : Nat} {w : World} {v : Value} {xs : List Int} (hx : InI P w v xs) (hl : xs.length ≤ 17592186044416) :
    Calls Try.prog 46 #[.int .i64 q, v, .int .i64 x] w (AnsY w (lagRes q x xs) (lagB q x xs)) := by
  obtain ⟨_, ad, cap, rfl, h1, _, hc⟩ := hx
  exact (lagrangeCoefs_any q ad _ cap xs x rfl hl hc w h1.ints).mono fun _ _ h => ansY_of h
end Go.Proofs.Ytipfckfjelignaa

