/- Chapter 10, the reference: verdicts on bits and sums; CoinsForRange of both. -/
import Derived.Test.YtfjaohmildkeoaaAny
import Derived.Test.YtfjaohmildkeoaaRngA
import Derived.Test.YtfjaohmildkeoaaComR
import Derived.Deep.RegionHeld3
namespace Go.Proofs.Ytfjaohmildkeoaa
open Go.RowKit
set_option linter.unusedVariables false
set_option linter.unusedSimpArgs false


set_option maxRecDepth 100000 in
set_option maxHeartbeats 3200000 in
theorem rSumChallenge_any (P Q G H c t x : Int) (hg : goodB P Q G = true) (hH : elB P Q H = true) (hc : elB P Q c = true) (ht : 0 ≤ t ∧ t < Q) (hx : elB P Q x = true) {y : Value} (w : World) :
    Calls Try.prog 92 #[gv P Q G, .agg #[.int .i64 H, y], .int .i64 c, .int .i64 t, .int .i64 x] w fun e w' => e = .returned (.int .i64 (chX P Q G sumL [H, c, t, x])) ∧ Below w.heap.size w w' := by
  have hmo := good_mo hg
  have hgr := good_rng hg
  have e1 := el_sm hg hH
  have e2 := el_sm hg hc
  have e3 := el_sm hg hx
  have hG2 : 0 ≤ G ∧ G ≤ 2000000000 := el_sm hg (good_el hg)
  have hP2 : 0 ≤ P ∧ P ≤ 2000000000 := by have := hmo.1; omega
  have hQ2 := hgr.2.1
  have HD := Lib.hid (show ∀ z ∈ [H, c, t, x], 0 ≤ z ∧ z ≤ 4611686018427387903 from fun z hz => by
    simp only [List.mem_cons, List.not_mem_nil, or_false] at hz
    rcases hz with rfl | rfl | rfl | rfl <;> omega)
  have G_0 := Lib.hid ((gr_at w (w.heap.size) (by simp) P Q G 24).below (ba (w.alloc (.cells #[.int .i64 P, .int .i64 Q, .int .i64 G] 24)) (.cells #[.int .i64 H, y] 53)))
  have V_0 := Lib.hid (d2_at (w.alloc (.cells #[.int .i64 P, .int .i64 Q, .int .i64 G] 24)) (w.heap.size + 1) (by simp) (.int .i64 H) y 53)
  have HB_0 := Lib.hid (show Below w.heap.size w ((w.alloc (.cells #[.int .i64 P, .int .i64 Q, .int .i64 G] 24)).alloc (.cells #[.int .i64 H, y] 53)) from bt (ba _ _) (ba _ _))
  obtain ⟨gG0, gG1, gG2⟩ := G_0.out
  obtain ⟨cV0, cV1⟩ := V_0.out
  clear hg hH hc hx hmo hgr e1 e2 e3
  go_enter Try.func92, Try.ntmps92
  go_wp2_with fail
  refine (hChallenge_any P Q G hP2 hQ2 hG2 sumL (by decide) _ 4 4 [H, c, t, x] rfl (by decide) (fun h => by cases h) HD.out _ (ints_spot _ (w.heap.size + 1 + 1) (by simp) [H, c, t, x] 3)).mono ?_
  rintro e' v9 ⟨rfl, hb9⟩
  have HB_9 := Lib.hid (bt (bt HB_0.out (ba _ _)) hb9)
  clear hb9
  go_wp2
  go_ret
  exact ⟨rfl, HB_9.out⟩

def nbB (n : Int) : Bool := inB n 1 16
def cfV (n : Int) : Int := if nbB n then 4 * n - 1 else 0
end Go.Proofs.Ytfjaohmildkeoaa

