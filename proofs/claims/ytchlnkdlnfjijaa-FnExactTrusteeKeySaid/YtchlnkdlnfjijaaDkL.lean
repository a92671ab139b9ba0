/- Chapter 12: TrusteeKey of both. -/
import Derived.Test.YtchlnkdlnfjijaaDkK
import Derived.Test.YtchlnkdlnfjijaaShA
namespace Go.Proofs.Ytchlnkdlnfjijaa
open Go.RowKit
set_option linter.unusedVariables false
set_option linter.unusedSimpArgs false

def tkB (P Q G : Int) (cs : List Int) (i : Int) : Bool := isTr i && caB P Q G cs i
def tkV (P Q G : Int) (cs : List Int) (i : Int) : Int := if isTr i then caV P Q G cs i else 0
theorem isTr_in9 (i : Int) : inB i 1 7 = isTr i := rfl


set_option maxRecDepth 100000 in
set_option maxHeartbeats 3200000 in
theorem trusteeKey_any (P Q G i : Int) {B : Nat} {v : Value} {d : KgD} (hl : d.n ≤ 1048576) {w : World} (h : InK B w v d) :
    Calls Try.prog 22 #[gv P Q G, v, .int .i64 i] w fun e w' => e = .returned (.tuple #[.int .i64 (tkV P Q G d.c i), .bool (tkB P Q G d.c i)]) ∧ Below w.heap.size w w' := by
  have hln : d.c.length ≤ 1048576 := by unfold KgD.n at hl; omega
  obtain ⟨aq, cq, ac, cc, a_s, cs, rfl, h1, h2, h3⟩ := h.shape
  have G_0 := Lib.hid ((gr_atS w w.heap.size rfl P Q G 24).below (ba (w.alloc (.cells #[.int .i64 P, .int .i64 Q, .int .i64 G] 24)) (.cells #[.slice aq d.q.length cq, .int .i64 d.k, .slice ac d.c.length cc, .slice a_s d.s.length cs] 31)))
  have B_0 := Lib.hid (vl_at (w.alloc (.cells #[.int .i64 P, .int .i64 Q, .int .i64 G] 24)) (w.heap.size + 1) (by simp) [.slice aq d.q.length cq, .int .i64 d.k, .slice ac d.c.length cc, .slice a_s d.s.length cs] 31)
  have HB_0 := Lib.hid (show Below w.heap.size w ((w.alloc (.cells #[.int .i64 P, .int .i64 Q, .int .i64 G] 24)).alloc (.cells #[.slice aq d.q.length cq, .int .i64 d.k, .slice ac d.c.length cc, .slice a_s d.s.length cs] 31)) from bt (ba _ _) (ba _ _))
  have C_0 := Lib.hid (h2.below HB_0.out)
  clear h h1 h2 h3
  cases h0 : isTr i
  · have K0 := Lib.hid (show isTr i = false from h0)
    have E1 := Lib.hid (show tkB P Q G d.c i = false by simp [tkB, h0])
    have E2 := Lib.hid (show tkV P Q G d.c i = 0 by simp [tkV, h0])
    rw [E1.out, E2.out]
    clear h0
    obtain ⟨gG0, gG1, gG2⟩ := G_0.out
    have kB0 := B_0.out.1 0 _ rfl
    have kB1 := B_0.out.1 1 _ rfl
    have kB2 := B_0.out.1 2 _ rfl
    have kB3 := B_0.out.1 3 _ rfl
    go_enter Try.func22, Try.ntmps22
    go_wp2_with fail
    refine (isTrustee_any i _).mono ?_
    rw [K0.out]
    rintro e w' ⟨rfl, rfl⟩
    go_wp2
    go_ret2
    exact ⟨rfl, HB_0.out⟩
  have K0 := Lib.hid (show isTr i = true from h0)
  have E1 := Lib.hid (show tkB P Q G d.c i = caB P Q G d.c i by simp [tkB, h0])
  have E2 := Lib.hid (show tkV P Q G d.c i = caV P Q G d.c i by simp [tkV, h0])
  rw [E1.out, E2.out]
  clear h0
  obtain ⟨gG0, gG1, gG2⟩ := G_0.out
  have kB0 := B_0.out.1 0 _ rfl
  have kB1 := B_0.out.1 1 _ rfl
  have kB2 := B_0.out.1 2 _ rfl
  have kB3 := B_0.out.1 3 _ rfl
  go_enter Try.func22, Try.ntmps22
  go_wp2_with fail
  refine (isTrustee_any i _).mono ?_
  rw [K0.out]
  rintro e w' ⟨rfl, rfl⟩
  go_wp2_with fail
  refine (commitAt_ans P Q G i hln C_0.out).mono ?_
  rintro e' v9 ⟨rfl, hb9⟩
  have HB_9 := Lib.hid (bt HB_0.out hb9)
  clear hb9
  go_wp2
  go_ret2
  exact ⟨rfl, HB_9.out⟩

set_option maxRecDepth 100000 in
set_option maxHeartbeats 3200000 in
theorem sTrusteeKey_any (P Q G i : Int) {B : Nat} {v : Value} {d : KgD} (hl : d.n ≤ 1048576) {w : World} (h : InK B w v d) :
    Calls Try.prog 59 #[gv P Q G, v, .int .i64 i] w fun e w' => e = .returned (.tuple #[.int .i64 (tkV P Q G d.c i), .bool (tkB P Q G d.c i)]) ∧ Below w.heap.size w w' := by
  have hln : d.c.length ≤ 1048576 := by unfold KgD.n at hl; omega
  obtain ⟨aq, cq, ac, cc, a_s, cs, rfl, h1, h2, h3⟩ := h.shape
  have G_0 := Lib.hid ((gr_atS w w.heap.size rfl P Q G 24).below (ba (w.alloc (.cells #[.int .i64 P, .int .i64 Q, .int .i64 G] 24)) (.cells #[.slice aq d.q.length cq, .int .i64 d.k, .slice ac d.c.length cc, .slice a_s d.s.length cs] 31)))
  have B_0 := Lib.hid (vl_at (w.alloc (.cells #[.int .i64 P, .int .i64 Q, .int .i64 G] 24)) (w.heap.size + 1) (by simp) [.slice aq d.q.length cq, .int .i64 d.k, .slice ac d.c.length cc, .slice a_s d.s.length cs] 31)
  have HB_0 := Lib.hid (show Below w.heap.size w ((w.alloc (.cells #[.int .i64 P, .int .i64 Q, .int .i64 G] 24)).alloc (.cells #[.slice aq d.q.length cq, .int .i64 d.k, .slice ac d.c.length cc, .slice a_s d.s.length cs] 31)) from bt (ba _ _) (ba _ _))
  have C_0 := Lib.hid (h2.below HB_0.out)
  clear h h1 h2 h3
  cases h0 : isTr i
  · have K0 := Lib.hid (show inB i 1 7 = false from (isTr_in9 i).trans h0)
    have E1 := Lib.hid (show tkB P Q G d.c i = false by simp [tkB, h0])
    have E2 := Lib.hid (show tkV P Q G d.c i = 0 by simp [tkV, h0])
    rw [E1.out, E2.out]
    clear h0
    obtain ⟨gG0, gG1, gG2⟩ := G_0.out
    have kB0 := B_0.out.1 0 _ rfl
    have kB1 := B_0.out.1 1 _ rfl
    have kB2 := B_0.out.1 2 _ rfl
    have kB3 := B_0.out.1 3 _ rfl
    go_enter Try.func59, Try.ntmps59
    go_wp2_with fail
    refine (l1In_any _ _ _ _).mono ?_
    rw [K0.out]
    rintro e w' ⟨rfl, rfl⟩
    go_wp2
    go_ret2
    exact ⟨rfl, HB_0.out⟩
  have K0 := Lib.hid (show inB i 1 7 = true from (isTr_in9 i).trans h0)
  have E1 := Lib.hid (show tkB P Q G d.c i = caB P Q G d.c i by simp [tkB, h0])
  have E2 := Lib.hid (show tkV P Q G d.c i = caV P Q G d.c i by simp [tkV, h0])
  rw [E1.out, E2.out]
  clear h0
  obtain ⟨gG0, gG1, gG2⟩ := G_0.out
  have kB0 := B_0.out.1 0 _ rfl
  have kB1 := B_0.out.1 1 _ rfl
  have kB2 := B_0.out.1 2 _ rfl
  have kB3 := B_0.out.1 3 _ rfl
  go_enter Try.func59, Try.ntmps59
  go_wp2_with fail
  refine (l1In_any _ _ _ _).mono ?_
  rw [K0.out]
  rintro e w' ⟨rfl, rfl⟩
  go_wp2_with fail
  refine (sCommitAt_ans P Q G i hln C_0.out).mono ?_
  rintro e' v9 ⟨rfl, hb9⟩
  have HB_9 := Lib.hid (bt HB_0.out hb9)
  clear hb9
  go_wp2
  go_ret2
  exact ⟨rfl, HB_9.out⟩

end Go.Proofs.Ytchlnkdlnfjijaa

