/-
For every group and every dealing the law FnExactBadShares returns true: the program's BadShares answers as the reference's does, leaves its arguments as they were, and its answer owns its memory.
No condition.
-/
import Derived.Test.YtfjaohmildkeoaaRows
import Derived.WalkKit
import Derived.ProofKit
import Derived.OpenShut
import Derived.ShutString
import Derived.ChangeOld
import Derived.Below
import Derived.Lib.SmallJoins
import Derived.Test.YtfjaohmildkeoaaShM
import Derived.Deep.RegionHeld3
import Derived.Test.YtfjaohmildkeoaaFacts
namespace Go.Proofs.Ytfjaohmildkeoaa.fnExactBadShares
open Go.Joins Go.ChangeShapes Go.WideShapes Go.ChangeAt Go.RowKit Go.Deep
open Go.ChangeMaps (open_string shut_string)
set_option linter.unusedVariables false

theorem own : ownKnob Try.prog.godebug = none := by kernel_rfl
theorem laidOut : laidOutB Try.prog = true := by kernel_rfl

/-- What the walk is told of a slice of integers that came in: it is nil; or it leads to a row of 'cap' cells that hold the numbers 'zs'. -/
def IsRow (k : IntKind) (w : World) (a : Option Addr) (len cap : Nat) (zs : List Int) : Prop :=
  (a = none ∧ len = 0 ∧ cap = 0 ∧ zs = []) ∨
  ∃ x, a = some x ∧ len ≤ cap ∧ cap ≤ maxLen ∧ zs.length = cap ∧ (∀ i, i < zs.length → w.cell? (x.add i) = some (.int k (zs.getD i 0))) ∧ ∀ n ∈ zs, (Lit.int k n).wf = true

set_option linter.unusedSimpArgs false

/-! ### STEP 1: the walk: the Go text returns true and writes nothing that was there -/
set_option maxRecDepth 100000 in
set_option maxHeartbeats 25600000 in
theorem walk (P0 Q0 G0 : Int) (a1 : Value) (w : World) (wP0 : (Lit.int .i64 P0).wf = true) (wQ0 : (Lit.int .i64 Q0).wf = true) (wG0 : (Lit.int .i64 G0).wf = true) (w1 : ∃ q : DlD, InD w.heap.size w a1 q ∧ q.c.length ≤ maxLen ∧ q.s.length ≤ maxLen) :
    Calls Try.prog 9 #[.agg #[.int .i64 P0, .int .i64 Q0, .int .i64 G0], a1] w fun e w' => e = .returned (.bool true) ∧ Below w.heap.size w w' := by
  obtain ⟨q, hq, hq1, hq2⟩ := w1
  obtain ⟨qa, qa1, qb, qb1, rfl, _, _⟩ := hq.shape
  have hal : Below w.heap.size w ((w.alloc (.cells #[.int .i64 P0, .int .i64 Q0, .int .i64 G0] 44)).alloc (.cells #[.slice qa q.c.length qa1, .slice qb q.s.length qb1] 66)) := bt (ba _ _) (ba _ _)
  have R_0 := Lib.hid ((gr_atS w w.heap.size rfl P0 Q0 G0 44).below (ba _ (.cells #[.slice qa q.c.length qa1, .slice qb q.s.length qb1] 66)))
  have J_0 := Lib.hid (v2_at (w.alloc (.cells #[.int .i64 P0, .int .i64 Q0, .int .i64 G0] 44)) (w.heap.size + 1) (by simp) (.slice qa q.c.length qa1) (.slice qb q.s.length qb1) 66)
  have Q_0 := Lib.hid (hq.below hal)
  have HB_0 := Lib.hid hal
  clear hal hq
  by_cases bp : 1048576 < (q.n : Int)
  · have E4 := Lib.hid (show szV q.n 1048576 = -1 by unfold szV; rw [if_neg (by omega)])
    obtain ⟨j0, j1, _⟩ := J_0.out
    go_enter Try.func9, Try.ntmps9
    go_wp2_with fail
    refine (szD_any Q_0.out (by omega) (by omega) hq1 hq2).mono ?_
    rw [E4.out]
    rintro e u1 ⟨rfl, hb⟩
    have HB_1 := Lib.hid (bt HB_0.out hb)
    clear hb j0 j1
    go_wp2
    go_ret
    exact ⟨rfl, HB_1.out⟩
  have E4 := Lib.hid (show szV q.n 1048576 = 1048576 - (q.n : Int) by unfold szV; rw [if_pos (by omega)])
  have hqn : q.n ≤ 1048576 := by omega
  have hqi : 0 ≤ 1048576 - (q.n : Int) := by omega
  have hlr := bsR_le P0 Q0 G0 q.c q.s
  generalize hR : bsR P0 Q0 G0 q.c q.s = res at hlr
  generalize hK : ivB P0 Q0 G0 q.c q.s = ok
  have HR := Lib.hid hR
  have HK := Lib.hid hK
  clear hR hK
  obtain ⟨j0, j1, _⟩ := J_0.out
  go_enter Try.func9, Try.ntmps9
  go_wp2_with fail
  refine (szD_any Q_0.out (by omega) (by omega) hq1 hq2).mono ?_
  rw [E4.out]
  rintro e u1 ⟨rfl, hb⟩
  clear j0 j1
  have HB_1 := Lib.hid (bt HB_0.out hb)
  have R_1 := Lib.hid (R_0.out.below hb)
  have J_1 := Lib.hid (J_0.out.below hb)
  have Q_1 := Lib.hid (Q_0.out.below hb)
  clear hb HB_0 R_0 J_0 Q_0
  go_wp2_with fail
  have hbd : Below u1.heap.size u1 u1.drew := (Below.refl _ u1).drew
  have HB_s := Lib.hid (bt HB_1.out hbd)
  have R_s := Lib.hid (R_1.out.below hbd)
  have J_s := Lib.hid (J_1.out.below hbd)
  have Q_s := Lib.hid (Q_1.out.below hbd)
  clear hbd
  refine wp_region_held_drew (S := (fun w' => (w'.cell? ⟨w.heap.size, 0, none⟩ = some (.int .i64 P0) ∧ w'.cell? ⟨w.heap.size, 1, none⟩ = some (.int .i64 Q0) ∧ w'.cell? ⟨w.heap.size, 2, none⟩ = some (.int .i64 G0)) ∧ (w'.cell? ⟨w.heap.size + 1, 0, none⟩ = some (.slice qa q.c.length qa1) ∧ w'.cell? ⟨w.heap.size + 1, 1, none⟩ = some (.slice qb q.s.length qb1)))) (by kernel_rfl) (show _ from ⟨⟨R_1.out.1, R_1.out.2.1, R_1.out.2.2⟩, ⟨J_1.out.1, J_1.out.2.1⟩⟩) (fun hHeld => ?_)
  generalize hW0 : u1.drew = Ws at *
  clear hW0
  refine wpAnyH_take (i := 0) (v := ?_) rfl (by kernel_rfl) (by kernel_rfl) (by kernel_rfl) (fun _ _ _ h => h) (Or.inl ⟨by kernel_rfl, ?_⟩) (by assumption) ?_
  rotate_left 1
  · intro w9 hSw
    try dsimp only at hSw
    go_simp
    try with_reducible rfl
  try simp only [Act.put, List.getElem_toArray, List.getElem_cons_succ, List.getElem_cons_zero, List.setIfInBounds_toArray, List.set_cons_zero, List.set_cons_succ]
  refine wpAnyH_take (i := 2) (v := ?_) rfl (by kernel_rfl) (by kernel_rfl) (by kernel_rfl) (fun _ _ _ h => h) (Or.inl ⟨by kernel_rfl, ?_⟩) (by assumption) ?_
  rotate_left 1
  · intro w9 hSw
    try dsimp only at hSw
    go_simp
    try with_reducible rfl
  try simp only [Act.put, List.getElem_toArray, List.getElem_cons_succ, List.getElem_cons_zero, List.setIfInBounds_toArray, List.set_cons_zero, List.set_cons_succ]
  refine wpAnyH_ready (rs := [1]) (by kernel_rfl) (by simp) ?_
  refine AllReadyH.cons rfl (fun K hK => ?_) (AllReadyH.nil)
  go_simp
  go_at_call 26
  refine (toGroup_any _ _ _ _).mono ?_
  rintro e' Wsb ⟨rfl, hb⟩
  have HB_sb := Lib.hid (bt HB_s.out hb)
  have R_sb := Lib.hid (R_s.out.below hb)
  have J_sb := Lib.hid (J_s.out.below hb)
  have Q_sb := Lib.hid (Q_s.out.below hb)
  clear hb
  go_wp2_with fail
  refine hK.out _ _ (show _ from ⟨⟨R_sb.out.1, R_sb.out.2.1, R_sb.out.2.2⟩, ⟨J_sb.out.1, J_sb.out.2.1⟩⟩) (fun hHeld => ?_)
  clear hK K
  try simp only [Act.put, List.getElem_toArray, List.getElem_cons_succ, List.getElem_cons_zero, List.setIfInBounds_toArray, List.set_cons_zero, List.set_cons_succ]
  refine wpAnyH_ready (rs := [3]) (by kernel_rfl) (by simp) ?_
  refine AllReadyH.cons rfl (fun K hK => ?_) (AllReadyH.nil)
  go_simp
  go_at_call 44
  refine (toD_any Q_sb.out (by omega)).mono ?_
  rintro e' Wsbd ⟨yp, rfl, ho, hb⟩
  have HB_sbd := Lib.hid (bt HB_sb.out hb)
  have R_sbd := Lib.hid (R_sb.out.below hb)
  have J_sbd := Lib.hid (J_sb.out.below hb)
  have Q_sbd := Lib.hid (Q_sb.out.below hb)
  have CP_sbd := Lib.hid (ho.toIn)
  clear ho
  clear hb
  go_wp2_with fail
  refine hK.out _ _ (show _ from ⟨⟨R_sbd.out.1, R_sbd.out.2.1, R_sbd.out.2.2⟩, ⟨J_sbd.out.1, J_sbd.out.2.1⟩⟩) (fun hHeld => ?_)
  clear hK K
  try simp only [Act.put, List.getElem_toArray, List.getElem_cons_succ, List.getElem_cons_zero, List.setIfInBounds_toArray, List.set_cons_zero, List.set_cons_succ]
  refine wpAnyH_ready (rs := [4]) (by kernel_rfl) (by simp) ?_
  refine AllReadyH.cons rfl (fun K hK => ?_) (AllReadyH.nil)
  go_simp
  go_at_call 47
  refine (sBadShares_ans P0 Q0 G0 hqn CP_sbd.out).mono ?_
  rw [HR.out]
  rw [HK.out]
  rintro e' Wsbde ⟨wv, rfl, ho, hb⟩
  have HB_sbde := Lib.hid (bt HB_sbd.out hb)
  have R_sbde := Lib.hid (R_sbd.out.below hb)
  have J_sbde := Lib.hid (J_sbd.out.below hb)
  have Q_sbde := Lib.hid (Q_sbd.out.below hb)
  have CP_sbde := Lib.hid (CP_sbd.out.below hb)
  have W_sbde := Lib.hid (ho.toIn)
  clear ho
  clear hb
  go_wp2_with fail
  refine hK.out _ _ (show _ from ⟨⟨R_sbde.out.1, R_sbde.out.2.1, R_sbde.out.2.2⟩, ⟨J_sbde.out.1, J_sbde.out.2.1⟩⟩) (fun hHeld => ?_)
  clear hK K
  try simp only [Act.put, List.getElem_toArray, List.getElem_cons_succ, List.getElem_cons_zero, List.setIfInBounds_toArray, List.set_cons_zero, List.set_cons_succ]
  refine wpAnyH_take (i := 5) (v := ?_) rfl (by kernel_rfl) (by kernel_rfl) (by kernel_rfl) (fun _ _ _ h => h) (Or.inl ⟨by kernel_rfl, ?_⟩) (by assumption) ?_
  rotate_left 1
  · intro w9 hSw
    try dsimp only at hSw
    go_simp
    try with_reducible rfl
  try simp only [Act.put, List.getElem_toArray, List.getElem_cons_succ, List.getElem_cons_zero, List.setIfInBounds_toArray, List.set_cons_zero, List.set_cons_succ]
  refine wpAnyH_take (i := 6) (v := ?_) rfl (by kernel_rfl) (by kernel_rfl) (by kernel_rfl) (fun _ _ _ h => h) (Or.inl ⟨by kernel_rfl, ?_⟩) (by assumption) ?_
  rotate_left 1
  · intro w9 hSw
    try dsimp only at hSw
    go_simp
    try with_reducible rfl
  try simp only [Act.put, List.getElem_toArray, List.getElem_cons_succ, List.getElem_cons_zero, List.setIfInBounds_toArray, List.set_cons_zero, List.set_cons_succ]
  refine wpAnyH_take (i := 7) (v := ?_) rfl (by kernel_rfl) (by kernel_rfl) (by kernel_rfl) (fun _ _ _ h => h) (Or.inl ⟨by kernel_rfl, ?_⟩) (by assumption) ?_
  rotate_left 1
  · intro w9 hSw
    try dsimp only at hSw
    go_simp
    try with_reducible rfl
  try simp only [Act.put, List.getElem_toArray, List.getElem_cons_succ, List.getElem_cons_zero, List.setIfInBounds_toArray, List.set_cons_zero, List.set_cons_succ]
  refine wpAnyH_take (i := 8) (v := ?_) rfl (by kernel_rfl) (by kernel_rfl) (by kernel_rfl) (fun _ _ _ h => h) (Or.inl ⟨by kernel_rfl, ?_⟩) (by assumption) ?_
  rotate_left 1
  · intro w9 hSw
    try dsimp only at hSw
    go_simp
    try with_reducible rfl
  try simp only [Act.put, List.getElem_toArray, List.getElem_cons_succ, List.getElem_cons_zero, List.setIfInBounds_toArray, List.set_cons_zero, List.set_cons_succ]
  refine wpAnyH_take (i := 9) (v := ?_) rfl (by kernel_rfl) (by kernel_rfl) (by kernel_rfl) (fun _ _ _ h => h) (Or.inl ⟨by kernel_rfl, ?_⟩) (by assumption) ?_
  rotate_left 1
  · intro w9 hSw
    try dsimp only at hSw
    go_simp
    try with_reducible rfl
  try simp only [Act.put, List.getElem_toArray, List.getElem_cons_succ, List.getElem_cons_zero, List.setIfInBounds_toArray, List.set_cons_zero, List.set_cons_succ]
  refine wpAnyH_done (by kernel_rfl) ?_ _
  have HB_2 := Lib.hid HB_sbde.out
  have R_2 := Lib.hid R_sbde.out
  have J_2 := Lib.hid J_sbde.out
  have Q_2 := Lib.hid Q_sbde.out
  have W_2 := Lib.hid W_sbde.out
  obtain ⟨j0, j1, _⟩ := J_2.out
  go_wp2_with fail
  refine (toD_any Q_2.out (by omega)).mono ?_
  rintro e u2 ⟨yy, rfl, ho, hb1⟩
  obtain ⟨pa, pa1, pb, pb1, hsh, _, _⟩ := ho.toIn.shape
  subst hsh
  clear j0 j1
  have LWx := Lib.hid W_2.out.le
  have LRx := Lib.hid R_2.out.lt
  have LJx := Lib.hid J_2.out.lt
  have LBx := Lib.hid HB_2.out.size
  have hba := ba u2 (.cells #[.slice pa q.c.length pa1, .slice pb q.s.length pb1] 34)
  have hb := bt hb1 hba
  have HB_3 := Lib.hid (bt HB_2.out hb)
  have R_3 := Lib.hid (R_2.out.below hb)
  have J_3 := Lib.hid (J_2.out.below hb)
  have Q_3 := Lib.hid (Q_2.out.below hb)
  have W_3 := Lib.hid (W_2.out.below hb)
  have K_3 := Lib.hid (v2_at u2 u2.heap.size rfl (.slice pa q.c.length pa1) (.slice pb q.s.length pb1) 34)
  have X_3 := Lib.hid (OwD.below ho hba)
  clear hb HB_2 R_2 J_2 Q_2 W_2
  clear ho hb1 hba
  obtain ⟨k0, k1, _⟩ := K_3.out
  go_wp2_with fail
  clear k0 k1
  generalize hW9 : (u2.alloc (.cells #[.slice pa q.c.length pa1, .slice pb q.s.length pb1] 34)) = u9 at *
  clear hW9
  go_wp2_with fail
  have hbd : Below u9.heap.size u9 u9.drew := (Below.refl _ u9).drew
  have HB_s := Lib.hid (bt HB_3.out hbd)
  have R_s := Lib.hid (R_3.out.below hbd)
  have J_s := Lib.hid (J_3.out.below hbd)
  have Q_s := Lib.hid (Q_3.out.below hbd)
  have W_s := Lib.hid (W_3.out.below hbd)
  have K_s := Lib.hid (K_3.out.below hbd)
  have X_s := Lib.hid (X_3.out.below hbd)
  clear hbd
  refine wp_region_held_drew (S := (fun w' => (w'.cell? ⟨w.heap.size, 0, none⟩ = some (.int .i64 P0) ∧ w'.cell? ⟨w.heap.size, 1, none⟩ = some (.int .i64 Q0) ∧ w'.cell? ⟨w.heap.size, 2, none⟩ = some (.int .i64 G0)) ∧ (w'.cell? ⟨u2.heap.size, 0, none⟩ = some (.slice pa q.c.length pa1) ∧ w'.cell? ⟨u2.heap.size, 1, none⟩ = some (.slice pb q.s.length pb1)))) (by kernel_rfl) (show _ from ⟨⟨R_3.out.1, R_3.out.2.1, R_3.out.2.2⟩, ⟨K_3.out.1, K_3.out.2.1⟩⟩) (fun hHeld => ?_)
  generalize hW0 : u9.drew = Ws at *
  clear hW0
  refine wpAnyH_take (i := 0) (v := ?_) rfl (by kernel_rfl) (by kernel_rfl) (by kernel_rfl) (fun _ _ _ h => h) (Or.inl ⟨by kernel_rfl, ?_⟩) (by assumption) ?_
  rotate_left 1
  · intro w9 hSw
    try dsimp only at hSw
    go_simp
    try with_reducible rfl
  try simp only [Act.put, List.getElem_toArray, List.getElem_cons_succ, List.getElem_cons_zero, List.setIfInBounds_toArray, List.set_cons_zero, List.set_cons_succ]
  refine wpAnyH_take (i := 2) (v := ?_) rfl (by kernel_rfl) (by kernel_rfl) (by kernel_rfl) (fun _ _ _ h => h) (Or.inl ⟨by kernel_rfl, ?_⟩) (by assumption) ?_
  rotate_left 1
  · intro w9 hSw
    try dsimp only at hSw
    go_simp
    try with_reducible rfl
  try simp only [Act.put, List.getElem_toArray, List.getElem_cons_succ, List.getElem_cons_zero, List.setIfInBounds_toArray, List.set_cons_zero, List.set_cons_succ]
  refine wpAnyH_ready (rs := [1]) (by kernel_rfl) (by simp) ?_
  refine AllReadyH.cons rfl (fun K hK => ?_) (AllReadyH.nil)
  go_simp
  go_at_call 26
  refine (toGroup_any _ _ _ _).mono ?_
  rintro e' Wsb ⟨rfl, hb⟩
  have HB_sb := Lib.hid (bt HB_s.out hb)
  have R_sb := Lib.hid (R_s.out.below hb)
  have J_sb := Lib.hid (J_s.out.below hb)
  have Q_sb := Lib.hid (Q_s.out.below hb)
  have W_sb := Lib.hid (W_s.out.below hb)
  have K_sb := Lib.hid (K_s.out.below hb)
  have X_sb := Lib.hid (X_s.out.below hb)
  clear hb
  go_wp2_with fail
  refine hK.out _ _ (show _ from ⟨⟨R_sb.out.1, R_sb.out.2.1, R_sb.out.2.2⟩, ⟨K_sb.out.1, K_sb.out.2.1⟩⟩) (fun hHeld => ?_)
  clear hK K
  try simp only [Act.put, List.getElem_toArray, List.getElem_cons_succ, List.getElem_cons_zero, List.setIfInBounds_toArray, List.set_cons_zero, List.set_cons_succ]
  refine wpAnyH_ready (rs := [3]) (by kernel_rfl) (by simp) ?_
  refine AllReadyH.cons rfl (fun K hK => ?_) (AllReadyH.nil)
  go_simp
  go_at_call 21
  refine (badShares_ans P0 Q0 G0 hqn X_sb.out.toIn).mono ?_
  rw [HR.out]
  rw [HK.out]
  have LWG := Lib.hid W_sb.out.le
  have LRG := Lib.hid R_sb.out.lt
  have LJG := Lib.hid J_sb.out.lt
  have LXG := Lib.hid X_sb.out.le
  have LBG := Lib.hid HB_sb.out.size
  rintro e' Wsbd ⟨gv, rfl, ho, hb⟩
  have HB_sbd := Lib.hid (bt HB_sb.out hb)
  have R_sbd := Lib.hid (R_sb.out.below hb)
  have J_sbd := Lib.hid (J_sb.out.below hb)
  have Q_sbd := Lib.hid (Q_sb.out.below hb)
  have W_sbd := Lib.hid (W_sb.out.below hb)
  have K_sbd := Lib.hid (K_sb.out.below hb)
  have X_sbd := Lib.hid (X_sb.out.below hb)
  have G_sbd := Lib.hid (ho)
  clear ho
  clear hb
  go_wp2_with fail
  refine hK.out _ _ (show _ from ⟨⟨R_sbd.out.1, R_sbd.out.2.1, R_sbd.out.2.2⟩, ⟨K_sbd.out.1, K_sbd.out.2.1⟩⟩) (fun hHeld => ?_)
  clear hK K
  try simp only [Act.put, List.getElem_toArray, List.getElem_cons_succ, List.getElem_cons_zero, List.setIfInBounds_toArray, List.set_cons_zero, List.set_cons_succ]
  refine wpAnyH_take (i := 4) (v := ?_) rfl (by kernel_rfl) (by kernel_rfl) (by kernel_rfl) (fun _ _ _ h => h) (Or.inl ⟨by kernel_rfl, ?_⟩) (by assumption) ?_
  rotate_left 1
  · intro w9 hSw
    try dsimp only at hSw
    go_simp
    try with_reducible rfl
  try simp only [Act.put, List.getElem_toArray, List.getElem_cons_succ, List.getElem_cons_zero, List.setIfInBounds_toArray, List.set_cons_zero, List.set_cons_succ]
  refine wpAnyH_take (i := 5) (v := ?_) rfl (by kernel_rfl) (by kernel_rfl) (by kernel_rfl) (fun _ _ _ h => h) (Or.inl ⟨by kernel_rfl, ?_⟩) (by assumption) ?_
  rotate_left 1
  · intro w9 hSw
    try dsimp only at hSw
    go_simp
    try with_reducible rfl
  try simp only [Act.put, List.getElem_toArray, List.getElem_cons_succ, List.getElem_cons_zero, List.setIfInBounds_toArray, List.set_cons_zero, List.set_cons_succ]
  refine wpAnyH_take (i := 6) (v := ?_) rfl (by kernel_rfl) (by kernel_rfl) (by kernel_rfl) (fun _ _ _ h => h) (Or.inl ⟨by kernel_rfl, ?_⟩) (by assumption) ?_
  rotate_left 1
  · intro w9 hSw
    try dsimp only at hSw
    go_simp
    try with_reducible rfl
  try simp only [Act.put, List.getElem_toArray, List.getElem_cons_succ, List.getElem_cons_zero, List.setIfInBounds_toArray, List.set_cons_zero, List.set_cons_succ]
  refine wpAnyH_take (i := 7) (v := ?_) rfl (by kernel_rfl) (by kernel_rfl) (by kernel_rfl) (fun _ _ _ h => h) (Or.inl ⟨by kernel_rfl, ?_⟩) (by assumption) ?_
  rotate_left 1
  · intro w9 hSw
    try dsimp only at hSw
    go_simp
    try with_reducible rfl
  try simp only [Act.put, List.getElem_toArray, List.getElem_cons_succ, List.getElem_cons_zero, List.setIfInBounds_toArray, List.set_cons_zero, List.set_cons_succ]
  refine wpAnyH_take (i := 8) (v := ?_) rfl (by kernel_rfl) (by kernel_rfl) (by kernel_rfl) (fun _ _ _ h => h) (Or.inl ⟨by kernel_rfl, ?_⟩) (by assumption) ?_
  rotate_left 1
  · intro w9 hSw
    try dsimp only at hSw
    go_simp
    try with_reducible rfl
  try simp only [Act.put, List.getElem_toArray, List.getElem_cons_succ, List.getElem_cons_zero, List.setIfInBounds_toArray, List.set_cons_zero, List.set_cons_succ]
  refine wpAnyH_done (by kernel_rfl) ?_ _
  have HB_4 := Lib.hid HB_sbd.out
  have R_4 := Lib.hid R_sbd.out
  have J_4 := Lib.hid J_sbd.out
  have Q_4 := Lib.hid Q_sbd.out
  have W_4 := Lib.hid W_sbd.out
  have K_4 := Lib.hid K_sbd.out
  have X_4 := Lib.hid X_sbd.out
  have G_4 := Lib.hid G_sbd.out
  go_wp2_with fail
  refine (eqI_any G_4.out.toIn W_4.out (by omega)).mono ?_
  rintro e u3 ⟨rfl, hb⟩
  have HB_5 := Lib.hid (bt HB_4.out hb)
  have R_5 := Lib.hid (R_4.out.below hb)
  have J_5 := Lib.hid (J_4.out.below hb)
  have Q_5 := Lib.hid (Q_4.out.below hb)
  have W_5 := Lib.hid (W_4.out.below hb)
  have K_5 := Lib.hid (K_4.out.below hb)
  have X_5 := Lib.hid (X_4.out.below hb)
  have G_5 := Lib.hid (G_4.out.below hb)
  clear hb HB_4 R_4 J_4 Q_4 W_4 K_4 X_4 G_4
  go_wp2_with fail
  have hbd : Below u3.heap.size u3 u3.drew := (Below.refl _ u3).drew
  have HB_s := Lib.hid (bt HB_5.out hbd)
  have R_s := Lib.hid (R_5.out.below hbd)
  have J_s := Lib.hid (J_5.out.below hbd)
  have Q_s := Lib.hid (Q_5.out.below hbd)
  have W_s := Lib.hid (W_5.out.below hbd)
  have K_s := Lib.hid (K_5.out.below hbd)
  have X_s := Lib.hid (X_5.out.below hbd)
  have G_s := Lib.hid (G_5.out.below hbd)
  clear hbd
  refine wp_region_held_drew (S := (fun w' => (w'.cell? ⟨u2.heap.size, 0, none⟩ = some (.slice pa q.c.length pa1) ∧ w'.cell? ⟨u2.heap.size, 1, none⟩ = some (.slice pb q.s.length pb1)) ∧ (w'.cell? ⟨w.heap.size + 1, 0, none⟩ = some (.slice qa q.c.length qa1) ∧ w'.cell? ⟨w.heap.size + 1, 1, none⟩ = some (.slice qb q.s.length qb1)))) (by kernel_rfl) (show _ from ⟨⟨K_5.out.1, K_5.out.2.1⟩, ⟨J_5.out.1, J_5.out.2.1⟩⟩) (fun hHeld => ?_)
  generalize hW0 : u3.drew = Ws at *
  clear hW0
  refine wpAnyH_take (i := 0) (v := ?_) rfl (by kernel_rfl) (by kernel_rfl) (by kernel_rfl) (fun _ _ _ h => h) (Or.inl ⟨by kernel_rfl, ?_⟩) (by assumption) ?_
  rotate_left 1
  · intro w9 hSw
    try dsimp only at hSw
    go_simp
    try with_reducible rfl
  try simp only [Act.put, List.getElem_toArray, List.getElem_cons_succ, List.getElem_cons_zero, List.setIfInBounds_toArray, List.set_cons_zero, List.set_cons_succ]
  refine wpAnyH_take (i := 1) (v := ?_) rfl (by kernel_rfl) (by kernel_rfl) (by kernel_rfl) (fun _ _ _ h => h) (Or.inl ⟨by kernel_rfl, ?_⟩) (by assumption) ?_
  rotate_left 1
  · intro w9 hSw
    try dsimp only at hSw
    go_simp
    try with_reducible rfl
  try simp only [Act.put, List.getElem_toArray, List.getElem_cons_succ, List.getElem_cons_zero, List.setIfInBounds_toArray, List.set_cons_zero, List.set_cons_succ]
  refine wpAnyH_ready (rs := [2]) (by kernel_rfl) (by simp) ?_
  refine AllReadyH.cons rfl (fun K hK => ?_) (AllReadyH.nil)
  go_simp
  go_at_call 44
  refine (toD_any Q_s.out (by omega)).mono ?_
  rintro e' Wsc ⟨yp, rfl, ho, hb⟩
  have HB_sc := Lib.hid (bt HB_s.out hb)
  have R_sc := Lib.hid (R_s.out.below hb)
  have J_sc := Lib.hid (J_s.out.below hb)
  have Q_sc := Lib.hid (Q_s.out.below hb)
  have W_sc := Lib.hid (W_s.out.below hb)
  have K_sc := Lib.hid (K_s.out.below hb)
  have X_sc := Lib.hid (X_s.out.below hb)
  have G_sc := Lib.hid (G_s.out.below hb)
  have CP_sc := Lib.hid (ho.toIn)
  clear ho
  clear hb
  go_wp2_with fail
  refine hK.out _ _ (show _ from ⟨⟨K_sc.out.1, K_sc.out.2.1⟩, ⟨J_sc.out.1, J_sc.out.2.1⟩⟩) (fun hHeld => ?_)
  clear hK K
  try simp only [Act.put, List.getElem_toArray, List.getElem_cons_succ, List.getElem_cons_zero, List.setIfInBounds_toArray, List.set_cons_zero, List.set_cons_succ]
  refine wpAnyH_ready (rs := [3]) (by kernel_rfl) (by simp) ?_
  refine AllReadyH.cons rfl (fun K hK => ?_) (AllReadyH.nil)
  go_simp
  go_at_call 39
  refine (eqD_any X_sc.out.toIn CP_sc.out (by omega)).mono ?_
  rintro e' Wscd ⟨rfl, hb⟩
  have HB_scd := Lib.hid (bt HB_sc.out hb)
  have R_scd := Lib.hid (R_sc.out.below hb)
  have J_scd := Lib.hid (J_sc.out.below hb)
  have Q_scd := Lib.hid (Q_sc.out.below hb)
  have W_scd := Lib.hid (W_sc.out.below hb)
  have K_scd := Lib.hid (K_sc.out.below hb)
  have X_scd := Lib.hid (X_sc.out.below hb)
  have G_scd := Lib.hid (G_sc.out.below hb)
  have CP_scd := Lib.hid (CP_sc.out.below hb)
  clear hb
  go_wp2_with fail
  refine hK.out _ _ (show _ from ⟨⟨K_scd.out.1, K_scd.out.2.1⟩, ⟨J_scd.out.1, J_scd.out.2.1⟩⟩) (fun hHeld => ?_)
  clear hK K
  try simp only [Act.put, List.getElem_toArray, List.getElem_cons_succ, List.getElem_cons_zero, List.setIfInBounds_toArray, List.set_cons_zero, List.set_cons_succ]
  refine wpAnyH_take (i := 4) (v := ?_) rfl (by kernel_rfl) (by kernel_rfl) (by kernel_rfl) (fun _ _ _ h => h) (Or.inl ⟨by kernel_rfl, ?_⟩) (by assumption) ?_
  rotate_left 1
  · intro w9 hSw
    try dsimp only at hSw
    go_simp
    try with_reducible rfl
  try simp only [Act.put, List.getElem_toArray, List.getElem_cons_succ, List.getElem_cons_zero, List.setIfInBounds_toArray, List.set_cons_zero, List.set_cons_succ]
  refine wpAnyH_done (by kernel_rfl) ?_ _
  have HB_6 := Lib.hid HB_scd.out
  have R_6 := Lib.hid R_scd.out
  have J_6 := Lib.hid J_scd.out
  have Q_6 := Lib.hid Q_scd.out
  have W_6 := Lib.hid W_scd.out
  have K_6 := Lib.hid K_scd.out
  have X_6 := Lib.hid X_scd.out
  have G_6 := Lib.hid G_scd.out
  obtain ⟨k0, k1, _⟩ := K_6.out
  go_wp2_with fail
  refine (markD_any X_6.out (by omega) (by omega) (by omega)).mono ?_
  rintro e u4 ⟨rfl, ho, hm⟩
  clear ho
  clear k0 k1
  have R_7 := Lib.hid (gr_midR R_6.out hm LRx.out)
  have J_7 := Lib.hid (J_6.out.mid hm (.inl LJx.out))
  have Q_7 := Lib.hid (Q_6.out.mid hm LBx.out)
  have W_7 := Lib.hid (W_6.out.mid hm LWx.out)
  have G_7 := Lib.hid (G_6.out.mid hm (.inr LXG.out))
  have HB_7 := Lib.hid (HB_6.out.trans (hm.toBelow LBx.out HB_6.out.size))
  clear hm HB_6 R_6 J_6 Q_6 W_6 K_6 X_6 G_6
  go_wp2_with fail
  refine (eqI_any G_7.out.toIn W_7.out (by omega)).mono ?_
  rintro e u5 ⟨rfl, hb⟩
  have HB_8 := Lib.hid (bt HB_7.out hb)
  have R_8 := Lib.hid (R_7.out.below hb)
  have J_8 := Lib.hid (J_7.out.below hb)
  have Q_8 := Lib.hid (Q_7.out.below hb)
  have W_8 := Lib.hid (W_7.out.below hb)
  have G_8 := Lib.hid (G_7.out.below hb)
  clear hb HB_7 R_7 J_7 Q_7 W_7 G_7
  go_wp2_with fail
  refine (markI_any G_8.out (by omega) (by omega) (by omega)).mono ?_
  rintro e u6 ⟨rfl, ho, hm⟩
  have R_9 := Lib.hid (gr_midR R_8.out hm LRG.out)
  have J_9 := Lib.hid (J_8.out.mid hm (.inl LJG.out))
  have Q_9 := Lib.hid (Q_8.out.mid hm LBG.out)
  have W_9 := Lib.hid (W_8.out.mid hm LWG.out)
  have HB_9 := Lib.hid (HB_8.out.trans (hm.toBelow LBG.out HB_8.out.size))
  clear hm HB_8 R_8 J_8 Q_8 W_8 G_8
  have G_9 := Lib.hid ho.toIn
  clear ho
  go_wp2_with fail
  refine (heldI_any G_9.out (by omega) (by omega) (by omega)).mono ?_
  rintro e w' ⟨rfl, rfl⟩
  go_wp2_with fail
  have hbd : Below u6.heap.size u6 u6.drew := (Below.refl _ u6).drew
  have HB_s := Lib.hid (bt HB_9.out hbd)
  have R_s := Lib.hid (R_9.out.below hbd)
  have J_s := Lib.hid (J_9.out.below hbd)
  have Q_s := Lib.hid (Q_9.out.below hbd)
  have W_s := Lib.hid (W_9.out.below hbd)
  have G_s := Lib.hid (G_9.out.below hbd)
  clear hbd
  refine wp_region_held_drew (S := (fun w' => (w'.cell? ⟨w.heap.size, 0, none⟩ = some (.int .i64 P0) ∧ w'.cell? ⟨w.heap.size, 1, none⟩ = some (.int .i64 Q0) ∧ w'.cell? ⟨w.heap.size, 2, none⟩ = some (.int .i64 G0)) ∧ (w'.cell? ⟨w.heap.size + 1, 0, none⟩ = some (.slice qa q.c.length qa1) ∧ w'.cell? ⟨w.heap.size + 1, 1, none⟩ = some (.slice qb q.s.length qb1)))) (by kernel_rfl) (show _ from ⟨⟨R_9.out.1, R_9.out.2.1, R_9.out.2.2⟩, ⟨J_9.out.1, J_9.out.2.1⟩⟩) (fun hHeld => ?_)
  generalize hW0 : u6.drew = Ws at *
  clear hW0
  refine wpAnyH_take (i := 0) (v := ?_) rfl (by kernel_rfl) (by kernel_rfl) (by kernel_rfl) (fun _ _ _ h => h) (Or.inl ⟨by kernel_rfl, ?_⟩) (by assumption) ?_
  rotate_left 1
  · intro w9 hSw
    try dsimp only at hSw
    go_simp
    try with_reducible rfl
  try simp only [Act.put, List.getElem_toArray, List.getElem_cons_succ, List.getElem_cons_zero, List.setIfInBounds_toArray, List.set_cons_zero, List.set_cons_succ]
  refine wpAnyH_take (i := 2) (v := ?_) rfl (by kernel_rfl) (by kernel_rfl) (by kernel_rfl) (fun _ _ _ h => h) (Or.inl ⟨by kernel_rfl, ?_⟩) (by assumption) ?_
  rotate_left 1
  · intro w9 hSw
    try dsimp only at hSw
    go_simp
    try with_reducible rfl
  try simp only [Act.put, List.getElem_toArray, List.getElem_cons_succ, List.getElem_cons_zero, List.setIfInBounds_toArray, List.set_cons_zero, List.set_cons_succ]
  refine wpAnyH_ready (rs := [1]) (by kernel_rfl) (by simp) ?_
  refine AllReadyH.cons rfl (fun K hK => ?_) (AllReadyH.nil)
  go_simp
  go_at_call 26
  refine (toGroup_any _ _ _ _).mono ?_
  rintro e' Wsb ⟨rfl, hb⟩
  have HB_sb := Lib.hid (bt HB_s.out hb)
  have R_sb := Lib.hid (R_s.out.below hb)
  have J_sb := Lib.hid (J_s.out.below hb)
  have Q_sb := Lib.hid (Q_s.out.below hb)
  have W_sb := Lib.hid (W_s.out.below hb)
  have G_sb := Lib.hid (G_s.out.below hb)
  clear hb
  go_wp2_with fail
  refine hK.out _ _ (show _ from ⟨⟨R_sb.out.1, R_sb.out.2.1, R_sb.out.2.2⟩, ⟨J_sb.out.1, J_sb.out.2.1⟩⟩) (fun hHeld => ?_)
  clear hK K
  try simp only [Act.put, List.getElem_toArray, List.getElem_cons_succ, List.getElem_cons_zero, List.setIfInBounds_toArray, List.set_cons_zero, List.set_cons_succ]
  refine wpAnyH_ready (rs := [3]) (by kernel_rfl) (by simp) ?_
  refine AllReadyH.cons rfl (fun K hK => ?_) (AllReadyH.nil)
  go_simp
  go_at_call 44
  refine (toD_any Q_sb.out (by omega)).mono ?_
  rintro e' Wsbd ⟨yp, rfl, ho, hb⟩
  have HB_sbd := Lib.hid (bt HB_sb.out hb)
  have R_sbd := Lib.hid (R_sb.out.below hb)
  have J_sbd := Lib.hid (J_sb.out.below hb)
  have Q_sbd := Lib.hid (Q_sb.out.below hb)
  have W_sbd := Lib.hid (W_sb.out.below hb)
  have G_sbd := Lib.hid (G_sb.out.below hb)
  have CP_sbd := Lib.hid (ho.toIn)
  clear ho
  clear hb
  go_wp2_with fail
  refine hK.out _ _ (show _ from ⟨⟨R_sbd.out.1, R_sbd.out.2.1, R_sbd.out.2.2⟩, ⟨J_sbd.out.1, J_sbd.out.2.1⟩⟩) (fun hHeld => ?_)
  clear hK K
  try simp only [Act.put, List.getElem_toArray, List.getElem_cons_succ, List.getElem_cons_zero, List.setIfInBounds_toArray, List.set_cons_zero, List.set_cons_succ]
  refine wpAnyH_ready (rs := [4]) (by kernel_rfl) (by simp) ?_
  refine AllReadyH.cons rfl (fun K hK => ?_) (AllReadyH.nil)
  go_simp
  go_at_call 21
  refine (badShares_ans P0 Q0 G0 hqn CP_sbd.out).mono ?_
  rw [HR.out]
  rw [HK.out]
  rintro e' Wsbde ⟨hv, rfl, ho, hb⟩
  have HB_sbde := Lib.hid (bt HB_sbd.out hb)
  have R_sbde := Lib.hid (R_sbd.out.below hb)
  have J_sbde := Lib.hid (J_sbd.out.below hb)
  have Q_sbde := Lib.hid (Q_sbd.out.below hb)
  have W_sbde := Lib.hid (W_sbd.out.below hb)
  have G_sbde := Lib.hid (G_sbd.out.below hb)
  have CP_sbde := Lib.hid (CP_sbd.out.below hb)
  have H_sbde := Lib.hid (ho.toIn)
  clear ho
  clear hb
  go_wp2_with fail
  refine hK.out _ _ (show _ from ⟨⟨R_sbde.out.1, R_sbde.out.2.1, R_sbde.out.2.2⟩, ⟨J_sbde.out.1, J_sbde.out.2.1⟩⟩) (fun hHeld => ?_)
  clear hK K
  try simp only [Act.put, List.getElem_toArray, List.getElem_cons_succ, List.getElem_cons_zero, List.setIfInBounds_toArray, List.set_cons_zero, List.set_cons_succ]
  refine wpAnyH_take (i := 5) (v := ?_) rfl (by kernel_rfl) (by kernel_rfl) (by kernel_rfl) (fun _ _ _ h => h) (Or.inl ⟨by kernel_rfl, ?_⟩) (by assumption) ?_
  rotate_left 1
  · intro w9 hSw
    try dsimp only at hSw
    go_simp
    try with_reducible rfl
  try simp only [Act.put, List.getElem_toArray, List.getElem_cons_succ, List.getElem_cons_zero, List.setIfInBounds_toArray, List.set_cons_zero, List.set_cons_succ]
  refine wpAnyH_take (i := 6) (v := ?_) rfl (by kernel_rfl) (by kernel_rfl) (by kernel_rfl) (fun _ _ _ h => h) (Or.inl ⟨by kernel_rfl, ?_⟩) (by assumption) ?_
  rotate_left 1
  · intro w9 hSw
    try dsimp only at hSw
    go_simp
    try with_reducible rfl
  try simp only [Act.put, List.getElem_toArray, List.getElem_cons_succ, List.getElem_cons_zero, List.setIfInBounds_toArray, List.set_cons_zero, List.set_cons_succ]
  refine wpAnyH_take (i := 7) (v := ?_) rfl (by kernel_rfl) (by kernel_rfl) (by kernel_rfl) (fun _ _ _ h => h) (Or.inl ⟨by kernel_rfl, ?_⟩) (by assumption) ?_
  rotate_left 1
  · intro w9 hSw
    try dsimp only at hSw
    go_simp
    try with_reducible rfl
  try simp only [Act.put, List.getElem_toArray, List.getElem_cons_succ, List.getElem_cons_zero, List.setIfInBounds_toArray, List.set_cons_zero, List.set_cons_succ]
  refine wpAnyH_take (i := 8) (v := ?_) rfl (by kernel_rfl) (by kernel_rfl) (by kernel_rfl) (fun _ _ _ h => h) (Or.inl ⟨by kernel_rfl, ?_⟩) (by assumption) ?_
  rotate_left 1
  · intro w9 hSw
    try dsimp only at hSw
    go_simp
    try with_reducible rfl
  try simp only [Act.put, List.getElem_toArray, List.getElem_cons_succ, List.getElem_cons_zero, List.setIfInBounds_toArray, List.set_cons_zero, List.set_cons_succ]
  refine wpAnyH_take (i := 9) (v := ?_) rfl (by kernel_rfl) (by kernel_rfl) (by kernel_rfl) (fun _ _ _ h => h) (Or.inl ⟨by kernel_rfl, ?_⟩) (by assumption) ?_
  rotate_left 1
  · intro w9 hSw
    try dsimp only at hSw
    go_simp
    try with_reducible rfl
  try simp only [Act.put, List.getElem_toArray, List.getElem_cons_succ, List.getElem_cons_zero, List.setIfInBounds_toArray, List.set_cons_zero, List.set_cons_succ]
  refine wpAnyH_done (by kernel_rfl) ?_ _
  have HB_10 := Lib.hid HB_sbde.out
  have R_10 := Lib.hid R_sbde.out
  have J_10 := Lib.hid J_sbde.out
  have Q_10 := Lib.hid Q_sbde.out
  have W_10 := Lib.hid W_sbde.out
  have G_10 := Lib.hid G_sbde.out
  have H_10 := Lib.hid H_sbde.out
  go_wp2_with fail
  refine (eqI_any H_10.out W_10.out (by omega)).mono ?_
  rintro e u7 ⟨rfl, hb⟩
  have HB_11 := Lib.hid (bt HB_10.out hb)
  have R_11 := Lib.hid (R_10.out.below hb)
  have J_11 := Lib.hid (J_10.out.below hb)
  have Q_11 := Lib.hid (Q_10.out.below hb)
  have W_11 := Lib.hid (W_10.out.below hb)
  have G_11 := Lib.hid (G_10.out.below hb)
  have H_11 := Lib.hid (H_10.out.below hb)
  clear hb HB_10 R_10 J_10 Q_10 W_10 G_10 H_10
  go_wp2_with fail
  refine (heldI_any G_11.out (by omega) (by omega) (by omega)).mono ?_
  rintro e w' ⟨rfl, rfl⟩
  go_wp2
  go_ret
  exact ⟨rfl, HB_11.out⟩

/-! ### The row's step -/
set_option maxRecDepth 100000 in
theorem lifted (os : Os) (started : os.Started) (H : Type) (enc : TypeId × Value → H) :
    ReturnsInHanded {} Try.checked os 9 .any (Rows.fnExactBadSharesSpec.pre6 enc Try.prog Try.f9 Rows.fnExactBadSharesRow.domain false) (Rows.fnExactBadSharesSpec.post enc Try.prog Try.f9 false true false false) := by
  refine returnsInHanded_of_change (C := Try.checked) own started (by kernel_rfl) Try.func9
    (ChangeSpec.witness6 (enc := enc) (C := Try.checked) false ⟨#[], #[.agg #[.int .i64 0, .int .i64 0, .int .i64 0], .agg #[.slice none 0 0, .slice none 0 0]], []⟩ 8 (by kernel_rfl) (by kernel_rfl) (by kernel_rfl) (by kernel_rfl)) ?_
  intro W base args ds gs before hval0 hW hcnd _
  have hval : ∀ (j : Nat) t v, Try.f9.params[j]? = some t → args[j]? = some v → Value.okWide Try.prog W .any base t v := hval0
  have hW' := hW
  obtain ⟨p, q, hA0, hV, rfl, hfz, hnd⟩ := hW
  have hA : DataW.TrodAll enc Try.prog W 0 (fun _ => true) true Try.f9.params.toList args.toList ds p := hA0
  rw [Try.params9] at hA hval
  obtain ⟨v0, vs0, d0, ds0, p0, q0, hargs, rfl, rfl, h0, r0⟩ := trodAll_cons hA
  obtain ⟨v1, vs1, d1, ds1, p1, q1, rfl, rfl, rfl, h1, r1⟩ := trodAll_cons r0
  obtain ⟨rfl, rfl, rfl⟩ := trodAll_nil r1
  obtain rfl : args = #[v0, v1] := by cases args; simp_all
  obtain ⟨rfl, rfl⟩ := trodVars_none hV
  have k0 := h0
  have lt0 : ∀ x ∈ p0, x.block < W.heap.size := by obtain ⟨m, hm⟩ := k0; exact DataW.trod_lt m _ _ _ hm
  obtain ⟨c0_0, c0_1, c0_2, y0_0, y0_1, y0_2, m0, rfl, rfl, rfl, hy0_0, hy0_1, hy0_2⟩ := open_agg3 Try.underlying44 (by kernel_rfl) (by kernel_rfl) (hval 0 44 v0 rfl rfl) h0
  obtain ⟨P0, e0_0, _, wP0⟩ := DataW.trod_int Try.underlying3 hy0_0
  obtain rfl := (List.cons.inj e0_0).1
  obtain ⟨Q0, e0_1, _, wQ0⟩ := DataW.trod_int Try.underlying3 hy0_1
  obtain rfl := (List.cons.inj e0_1).1
  obtain ⟨G0, e0_2, _, wG0⟩ := DataW.trod_int Try.underlying3 hy0_2
  obtain rfl := (List.cons.inj e0_2).1
  have k1 := h1
  have lt1 : ∀ x ∈ p1, x.block < W.heap.size := by obtain ⟨m, hm⟩ := k1; exact DataW.trod_lt m _ _ _ hm
  have w1 := inD_open (hval 1 66 v1 rfl rfl) h1
  clear hA0 hval0
  refine (walk P0 Q0 G0 _ W wP0 wQ0 wG0 w1).mono fun e W' ⟨he, bel⟩ => ?_
  subst he
  exact ⟨_, rfl, _, _, _, [], _, [], hW', trodAll_mk1 (shut_bool Try.underlying4 _), (trodAll_cons_mk (Below.trod laidOut (by kernel_rfl) (of_decide_eq_true (by kernel_rfl)) k0 bel lt0) (trodAll_cons_mk (Below.trod laidOut (by kernel_rfl) (of_decide_eq_true (by kernel_rfl)) k1 bel lt1) trodAll_mk0)), rfl, bel.frame _, fun h => by cases h⟩

theorem over : Rows.fnExactBadSharesRow.holds Try.pinned (OpenSpec.ofChange Rows.fnExactBadSharesSpec) :=
  OpenClaim.holds_of_wide 9 Try.f9 rfl rfl rfl rfl rfl rfl rfl ⟨rfl, rfl, rfl, rfl, rfl⟩ rfl rfl rfl rfl rfl (by kernel_rfl) Try.func9
    (show joinedFacts Try.prog 9 Try.f9 Rows.fnExactBadSharesSpec Rows.fnExactBadSharesRow = true by unfold joinedFacts; rw [Head.make, Head.lifts, Head.enters]; kernel_rfl)
    (of_decide_eq_true (by kernel_rfl)) (by unfold Func.isWrapper; first | (rw [if_pos (by decide +kernel)]; kernel_rfl) | (rw [if_neg (by decide +kernel)]; exact ⟨rfl, rfl⟩))
    (fun os started H enc _ => lifted os started H enc)

/-- The statement. -/
theorem proved : Rows.FnExactBadSharesSaid := over
#print axioms proved
end Go.Proofs.Ytfjaohmildkeoaa.fnExactBadShares
