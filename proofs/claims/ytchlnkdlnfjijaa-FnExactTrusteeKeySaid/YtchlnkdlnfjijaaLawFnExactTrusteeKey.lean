/-
For every group, every outcome of a key generation and every further argument the law FnExactTrusteeKey returns true: the program's TrusteeKey answers as the reference's does, and leaves its arguments as they were.
No condition.
-/
import Derived.Test.YtchlnkdlnfjijaaRows
import Derived.WalkKit
import Derived.ProofKit
import Derived.OpenShut
import Derived.ShutString
import Derived.ChangeOld
import Derived.Below
import Derived.Lib.SmallJoins
import Derived.Test.YtchlnkdlnfjijaaDkL
import Derived.Deep.RegionHeld3
import Derived.Test.YtchlnkdlnfjijaaFacts
namespace Go.Proofs.Ytchlnkdlnfjijaa.fnExactTrusteeKey
open Go.Joins Go.ChangeShapes Go.WideShapes Go.ChangeAt Go.RowKit Go.Deep
open Go.ChangeMaps (open_string shut_string)
set_option linter.unusedVariables false

theorem own : ownKnob Try.prog.godebug = none := by kernel_rfl
theorem laidOut : laidOutB Try.prog = true := by kernel_rfl

/-- What the walk is told of a slice of integers that came in: it is nil; or it leads to a row of 'cap' cells that hold the numbers 'zs'. -/
def IsRow (k : IntKind) (w : World) (a : Option Addr) (len cap : Nat) (zs : List Int) : Prop :=
  (a = none ∧ len = 0 ∧ cap = 0 ∧ zs = []) ∨
  ∃ x, a = some x ∧ len ≤ cap ∧ cap ≤ maxLen ∧ zs.length = cap ∧ (∀ i, i < zs.length → w.cell? (x.add i) = some (.int k (zs.getD i 0))) ∧ ∀ n ∈ zs, (Lit.int k n).wf = true

set_option linter.unusedSimpArgs false

/-! ### STEP 1: the walk: the Go text returns true and writes nothing that was there -/
set_option maxRecDepth 100000 in
set_option maxHeartbeats 25600000 in
theorem walk (P0 Q0 G0 : Int) (a1 : Value) (a2 : Int) (w : World) (wP0 : (Lit.int .i64 P0).wf = true) (wQ0 : (Lit.int .i64 Q0).wf = true) (wG0 : (Lit.int .i64 G0).wf = true) (w1 : ∃ q : KgD, InK w.heap.size w a1 q ∧ q.q.length ≤ maxLen ∧ q.c.length ≤ maxLen ∧ q.s.length ≤ maxLen ∧ (Lit.int .i64 q.k).wf = true) (w2 : (Lit.int .i64 a2).wf = true) :
    Calls Try.prog 11 #[.agg #[.int .i64 P0, .int .i64 Q0, .int .i64 G0], a1, .int .i64 a2] w fun e w' => e = .returned (.bool true) ∧ Below w.heap.size w w' := by
  obtain ⟨q, hq, hq1, hq2, hq3, hqw⟩ := w1
  obtain ⟨j0, j1, j2, j3, j4, j5, rfl, _, _, _⟩ := hq.shape
  have hal : Below w.heap.size w ((w.alloc (.cells #[.int .i64 P0, .int .i64 Q0, .int .i64 G0] 47)).alloc (.cells #[.slice j0 q.q.length j1, .int .i64 q.k, .slice j2 q.c.length j3, .slice j4 q.s.length j5] 78)) := bt (ba _ _) (ba _ _)
  have R_0 := Lib.hid ((gr_atS w w.heap.size rfl P0 Q0 G0 47).below (ba _ (.cells #[.slice j0 q.q.length j1, .int .i64 q.k, .slice j2 q.c.length j3, .slice j4 q.s.length j5] 78)))
  have J_0 := Lib.hid (vl_at (w.alloc (.cells #[.int .i64 P0, .int .i64 Q0, .int .i64 G0] 47)) (w.heap.size + 1) (by simp) [.slice j0 q.q.length j1, .int .i64 q.k, .slice j2 q.c.length j3, .slice j4 q.s.length j5] 78)
  have Q_0 := Lib.hid (hq.below hal)
  have HB_0 := Lib.hid hal
  clear hal hq
  by_cases bp : 1048576 < (q.n : Int)
  · have E4 := Lib.hid (show szV q.n 1048576 = -1 by unfold szV; rw [if_neg (by omega)])
    have jx0 := J_0.out.1 0 _ rfl
    have jx1 := J_0.out.1 1 _ rfl
    have jx2 := J_0.out.1 2 _ rfl
    have jx3 := J_0.out.1 3 _ rfl
    go_enter Try.func11, Try.ntmps11
    go_wp2_with fail
    refine (szK_any Q_0.out (by omega) (by omega) hq1 hq2 hq3).mono ?_
    rw [E4.out]
    rintro e u1 ⟨rfl, hb⟩
    have HB_1 := Lib.hid (bt HB_0.out hb)
    clear jx0 jx1 jx2 jx3
    clear hb
    go_wp2
    go_ret
    exact ⟨rfl, HB_1.out⟩
  have E4 := Lib.hid (show szV q.n 1048576 = 1048576 - (q.n : Int) by unfold szV; rw [if_pos (by omega)])
  have hqn : q.n ≤ 1048576 := by omega
  have hqi : 0 ≤ 1048576 - (q.n : Int) := by omega
  obtain ⟨k1, hk1⟩ : ∃ k, tkV P0 Q0 G0 q.c a2 = k := ⟨_, rfl⟩
  have K1 := Lib.hid hk1
  clear hk1
  obtain ⟨k2, hk2⟩ : ∃ k, tkB P0 Q0 G0 q.c a2 = k := ⟨_, rfl⟩
  have K2 := Lib.hid hk2
  clear hk2
  have jx0 := J_0.out.1 0 _ rfl
  have jx1 := J_0.out.1 1 _ rfl
  have jx2 := J_0.out.1 2 _ rfl
  have jx3 := J_0.out.1 3 _ rfl
  go_enter Try.func11, Try.ntmps11
  go_wp2_with fail
  refine (szK_any Q_0.out (by omega) (by omega) hq1 hq2 hq3).mono ?_
  rw [E4.out]
  rintro e u1 ⟨rfl, hb⟩
  clear jx0 jx1 jx2 jx3
  have HB_1 := Lib.hid (bt HB_0.out hb)
  have R_1 := Lib.hid (R_0.out.below hb)
  have J_1 := Lib.hid (J_0.out.below hb)
  have Q_1 := Lib.hid (Q_0.out.below hb)
  clear hb HB_0 R_0 J_0 Q_0
  go_wp2_with fail
  have hbd : Below u1.heap.size u1 u1.drew := (Below.refl _ u1).drew
  have HB_s := Lib.hid (bt HB_1.out hbd)
  have R_s := Lib.hid (R_1.out.below hbd)
  have J_s := Lib.hid (J_1.out.below hbd)
  have Q_s := Lib.hid (Q_1.out.below hbd)
  clear hbd
  refine wp_region_held_drew (S := (fun w' => (w'.cell? ⟨w.heap.size, 0, none⟩ = some (.int .i64 P0) ∧ w'.cell? ⟨w.heap.size, 1, none⟩ = some (.int .i64 Q0) ∧ w'.cell? ⟨w.heap.size, 2, none⟩ = some (.int .i64 G0)) ∧ (w'.cell? ⟨w.heap.size + 1, 0, none⟩ = some (.slice j0 q.q.length j1) ∧ w'.cell? ⟨w.heap.size + 1, 1, none⟩ = some (.int .i64 q.k) ∧ w'.cell? ⟨w.heap.size + 1, 2, none⟩ = some (.slice j2 q.c.length j3) ∧ w'.cell? ⟨w.heap.size + 1, 3, none⟩ = some (.slice j4 q.s.length j5)))) (by kernel_rfl) (show _ from ⟨⟨R_1.out.1, R_1.out.2.1, R_1.out.2.2⟩, ⟨J_1.out.1 0 _ rfl, J_1.out.1 1 _ rfl, J_1.out.1 2 _ rfl, J_1.out.1 3 _ rfl⟩⟩) (fun hHeld => ?_)
  generalize hW0 : u1.drew = Ws at *
  clear hW0
  refine wpAnyH_take (i := 0) (v := ?_) rfl (by kernel_rfl) (by kernel_rfl) (by kernel_rfl) (fun _ _ _ h => h) (Or.inl ⟨by kernel_rfl, ?_⟩) (by assumption) ?_
  rotate_left 1
  · intro w9 hSw
    try dsimp only at hSw
    go_simp
    try with_reducible rfl
  try simp only [Act.put, List.getElem_toArray, List.getElem_cons_succ, List.getElem_cons_zero, List.setIfInBounds_toArray, List.set_cons_zero, List.set_cons_succ]
  refine wpAnyH_take (i := 2) (v := ?_) rfl (by kernel_rfl) (by kernel_rfl) (by kernel_rfl) (fun _ _ _ h => h) (Or.inl ⟨by kernel_rfl, ?_⟩) (by assumption) ?_
  rotate_left 1
  · intro w9 hSw
    try dsimp only at hSw
    go_simp
    try with_reducible rfl
  try simp only [Act.put, List.getElem_toArray, List.getElem_cons_succ, List.getElem_cons_zero, List.setIfInBounds_toArray, List.set_cons_zero, List.set_cons_succ]
  refine wpAnyH_take (i := 4) (v := ?_) rfl (by kernel_rfl) (by kernel_rfl) (by kernel_rfl) (fun _ _ _ h => h) (Or.inl ⟨by kernel_rfl, ?_⟩) (by assumption) ?_
  rotate_left 1
  · intro w9 hSw
    try dsimp only at hSw
    go_simp
    try with_reducible rfl
  try simp only [Act.put, List.getElem_toArray, List.getElem_cons_succ, List.getElem_cons_zero, List.setIfInBounds_toArray, List.set_cons_zero, List.set_cons_succ]
  refine wpAnyH_ready (rs := [1]) (by kernel_rfl) (by simp) ?_
  refine AllReadyH.cons rfl (fun K hK => ?_) (AllReadyH.nil)
  go_simp
  go_at_call 26
  refine (toGroup_any _ _ _ _).mono ?_
  rintro e' Wsb ⟨rfl, hb⟩
  have HB_sb := Lib.hid (bt HB_s.out hb)
  have R_sb := Lib.hid (R_s.out.below hb)
  have J_sb := Lib.hid (J_s.out.below hb)
  have Q_sb := Lib.hid (Q_s.out.below hb)
  clear hb
  go_wp2_with fail
  refine hK.out _ _ (show _ from ⟨⟨R_sb.out.1, R_sb.out.2.1, R_sb.out.2.2⟩, ⟨J_sb.out.1 0 _ rfl, J_sb.out.1 1 _ rfl, J_sb.out.1 2 _ rfl, J_sb.out.1 3 _ rfl⟩⟩) (fun hHeld => ?_)
  clear hK K
  try simp only [Act.put, List.getElem_toArray, List.getElem_cons_succ, List.getElem_cons_zero, List.setIfInBounds_toArray, List.set_cons_zero, List.set_cons_succ]
  refine wpAnyH_ready (rs := [3]) (by kernel_rfl) (by simp) ?_
  refine AllReadyH.cons rfl (fun K hK => ?_) (AllReadyH.nil)
  go_simp
  go_at_call 58
  refine (toK_any Q_sb.out (by omega)).mono ?_
  rintro e' Wsbd ⟨yp, rfl, ho, hb⟩
  have HB_sbd := Lib.hid (bt HB_sb.out hb)
  have R_sbd := Lib.hid (R_sb.out.below hb)
  have J_sbd := Lib.hid (J_sb.out.below hb)
  have Q_sbd := Lib.hid (Q_sb.out.below hb)
  have CP_sbd := Lib.hid (ho.toIn)
  clear ho
  clear hb
  go_wp2_with fail
  refine hK.out _ _ (show _ from ⟨⟨R_sbd.out.1, R_sbd.out.2.1, R_sbd.out.2.2⟩, ⟨J_sbd.out.1 0 _ rfl, J_sbd.out.1 1 _ rfl, J_sbd.out.1 2 _ rfl, J_sbd.out.1 3 _ rfl⟩⟩) (fun hHeld => ?_)
  clear hK K
  try simp only [Act.put, List.getElem_toArray, List.getElem_cons_succ, List.getElem_cons_zero, List.setIfInBounds_toArray, List.set_cons_zero, List.set_cons_succ]
  refine wpAnyH_ready (rs := [5]) (by kernel_rfl) (by simp) ?_
  refine AllReadyH.cons rfl (fun K hK => ?_) (AllReadyH.nil)
  go_simp
  go_at_call 59
  refine (sTrusteeKey_any P0 Q0 G0 a2 hqn CP_sbd.out).mono ?_
  rw [K1.out, K2.out]
  rintro e' Wsbdf ⟨rfl, hb⟩
  have HB_sbdf := Lib.hid (bt HB_sbd.out hb)
  have R_sbdf := Lib.hid (R_sbd.out.below hb)
  have J_sbdf := Lib.hid (J_sbd.out.below hb)
  have Q_sbdf := Lib.hid (Q_sbd.out.below hb)
  have CP_sbdf := Lib.hid (CP_sbd.out.below hb)
  clear hb
  go_wp2_with fail
  refine hK.out _ _ (show _ from ⟨⟨R_sbdf.out.1, R_sbdf.out.2.1, R_sbdf.out.2.2⟩, ⟨J_sbdf.out.1 0 _ rfl, J_sbdf.out.1 1 _ rfl, J_sbdf.out.1 2 _ rfl, J_sbdf.out.1 3 _ rfl⟩⟩) (fun hHeld => ?_)
  clear hK K
  try simp only [Act.put, List.getElem_toArray, List.getElem_cons_succ, List.getElem_cons_zero, List.setIfInBounds_toArray, List.set_cons_zero, List.set_cons_succ]
  refine wpAnyH_take (i := 6) (v := ?_) rfl (by kernel_rfl) (by kernel_rfl) (by kernel_rfl) (fun _ _ _ h => h) (Or.inl ⟨by kernel_rfl, ?_⟩) (by assumption) ?_
  rotate_left 1
  · intro w9 hSw
    try dsimp only at hSw
    go_simp
    try with_reducible rfl
  try simp only [Act.put, List.getElem_toArray, List.getElem_cons_succ, List.getElem_cons_zero, List.setIfInBounds_toArray, List.set_cons_zero, List.set_cons_succ]
  refine wpAnyH_take (i := 7) (v := ?_) rfl (by kernel_rfl) (by kernel_rfl) (by kernel_rfl) (fun _ _ _ h => h) (Or.inl ⟨by kernel_rfl, ?_⟩) (by assumption) ?_
  rotate_left 1
  · intro w9 hSw
    try dsimp only at hSw
    go_simp
    try with_reducible rfl
  try simp only [Act.put, List.getElem_toArray, List.getElem_cons_succ, List.getElem_cons_zero, List.setIfInBounds_toArray, List.set_cons_zero, List.set_cons_succ]
  refine wpAnyH_take (i := 8) (v := ?_) rfl (by kernel_rfl) (by kernel_rfl) (by kernel_rfl) (fun _ _ _ h => h) (Or.inl ⟨by kernel_rfl, ?_⟩) (by assumption) ?_
  rotate_left 1
  · intro w9 hSw
    try dsimp only at hSw
    go_simp
    try with_reducible rfl
  try simp only [Act.put, List.getElem_toArray, List.getElem_cons_succ, List.getElem_cons_zero, List.setIfInBounds_toArray, List.set_cons_zero, List.set_cons_succ]
  refine wpAnyH_take (i := 9) (v := ?_) rfl (by kernel_rfl) (by kernel_rfl) (by kernel_rfl) (fun _ _ _ h => h) (Or.inl ⟨by kernel_rfl, ?_⟩) (by assumption) ?_
  rotate_left 1
  · intro w9 hSw
    try dsimp only at hSw
    go_simp
    try with_reducible rfl
  try simp only [Act.put, List.getElem_toArray, List.getElem_cons_succ, List.getElem_cons_zero, List.setIfInBounds_toArray, List.set_cons_zero, List.set_cons_succ]
  refine wpAnyH_take (i := 10) (v := ?_) rfl (by kernel_rfl) (by kernel_rfl) (by kernel_rfl) (fun _ _ _ h => h) (Or.inl ⟨by kernel_rfl, ?_⟩) (by assumption) ?_
  rotate_left 1
  · intro w9 hSw
    try dsimp only at hSw
    go_simp
    try with_reducible rfl
  try simp only [Act.put, List.getElem_toArray, List.getElem_cons_succ, List.getElem_cons_zero, List.setIfInBounds_toArray, List.set_cons_zero, List.set_cons_succ]
  refine wpAnyH_done (by kernel_rfl) ?_ _
  have HB_2 := Lib.hid HB_sbdf.out
  have R_2 := Lib.hid R_sbdf.out
  have J_2 := Lib.hid J_sbdf.out
  have Q_2 := Lib.hid Q_sbdf.out
  have jx0 := J_2.out.1 0 _ rfl
  have jx1 := J_2.out.1 1 _ rfl
  have jx2 := J_2.out.1 2 _ rfl
  have jx3 := J_2.out.1 3 _ rfl
  go_wp2_with fail
  refine (toK_any Q_2.out (by omega)).mono ?_
  rintro e u2 ⟨yy, rfl, ho, hb1⟩
  obtain ⟨p0, p1, p2, p3, p4, p5, hsh, _, _, _⟩ := ho.toIn.shape
  subst hsh
  clear jx0 jx1 jx2 jx3
  have hba := ba u2 (.cells #[.slice p0 q.q.length p1, .int .i64 q.k, .slice p2 q.c.length p3, .slice p4 q.s.length p5] 31)
  have hb := bt hb1 hba
  have HB_3 := Lib.hid (bt HB_2.out hb)
  have R_3 := Lib.hid (R_2.out.below hb)
  have J_3 := Lib.hid (J_2.out.below hb)
  have Q_3 := Lib.hid (Q_2.out.below hb)
  have K_3 := Lib.hid (vl_at u2 u2.heap.size rfl [.slice p0 q.q.length p1, .int .i64 q.k, .slice p2 q.c.length p3, .slice p4 q.s.length p5] 31)
  have E_3 := Lib.hid (ho.toIn.below hba)
  clear hb HB_2 R_2 J_2 Q_2
  clear ho hb1 hba
  have kx0 := K_3.out.1 0 _ rfl
  have kx1 := K_3.out.1 1 _ rfl
  have kx2 := K_3.out.1 2 _ rfl
  have kx3 := K_3.out.1 3 _ rfl
  go_wp2_with fail
  clear kx0 kx1 kx2 kx3
  generalize hW9 : (u2.alloc (.cells #[.slice p0 q.q.length p1, .int .i64 q.k, .slice p2 q.c.length p3, .slice p4 q.s.length p5] 31)) = u9 at *
  clear hW9
  go_wp2_with fail
  have hbd : Below u9.heap.size u9 u9.drew := (Below.refl _ u9).drew
  have HB_s := Lib.hid (bt HB_3.out hbd)
  have R_s := Lib.hid (R_3.out.below hbd)
  have J_s := Lib.hid (J_3.out.below hbd)
  have Q_s := Lib.hid (Q_3.out.below hbd)
  have K_s := Lib.hid (K_3.out.below hbd)
  have E_s := Lib.hid (E_3.out.below hbd)
  clear hbd
  refine wp_region_held_drew (S := (fun w' => (w'.cell? ⟨w.heap.size, 0, none⟩ = some (.int .i64 P0) ∧ w'.cell? ⟨w.heap.size, 1, none⟩ = some (.int .i64 Q0) ∧ w'.cell? ⟨w.heap.size, 2, none⟩ = some (.int .i64 G0)) ∧ (w'.cell? ⟨u2.heap.size, 0, none⟩ = some (.slice p0 q.q.length p1) ∧ w'.cell? ⟨u2.heap.size, 1, none⟩ = some (.int .i64 q.k) ∧ w'.cell? ⟨u2.heap.size, 2, none⟩ = some (.slice p2 q.c.length p3) ∧ w'.cell? ⟨u2.heap.size, 3, none⟩ = some (.slice p4 q.s.length p5)))) (by kernel_rfl) (show _ from ⟨⟨R_3.out.1, R_3.out.2.1, R_3.out.2.2⟩, ⟨K_3.out.1 0 _ rfl, K_3.out.1 1 _ rfl, K_3.out.1 2 _ rfl, K_3.out.1 3 _ rfl⟩⟩) (fun hHeld => ?_)
  generalize hW0 : u9.drew = Ws at *
  clear hW0
  refine wpAnyH_take (i := 0) (v := ?_) rfl (by kernel_rfl) (by kernel_rfl) (by kernel_rfl) (fun _ _ _ h => h) (Or.inl ⟨by kernel_rfl, ?_⟩) (by assumption) ?_
  rotate_left 1
  · intro w9 hSw
    try dsimp only at hSw
    go_simp
    try with_reducible rfl
  try simp only [Act.put, List.getElem_toArray, List.getElem_cons_succ, List.getElem_cons_zero, List.setIfInBounds_toArray, List.set_cons_zero, List.set_cons_succ]
  refine wpAnyH_take (i := 2) (v := ?_) rfl (by kernel_rfl) (by kernel_rfl) (by kernel_rfl) (fun _ _ _ h => h) (Or.inl ⟨by kernel_rfl, ?_⟩) (by assumption) ?_
  rotate_left 1
  · intro w9 hSw
    try dsimp only at hSw
    go_simp
    try with_reducible rfl
  try simp only [Act.put, List.getElem_toArray, List.getElem_cons_succ, List.getElem_cons_zero, List.setIfInBounds_toArray, List.set_cons_zero, List.set_cons_succ]
  refine wpAnyH_take (i := 3) (v := ?_) rfl (by kernel_rfl) (by kernel_rfl) (by kernel_rfl) (fun _ _ _ h => h) (Or.inl ⟨by kernel_rfl, ?_⟩) (by assumption) ?_
  rotate_left 1
  · intro w9 hSw
    try dsimp only at hSw
    go_simp
    try with_reducible rfl
  try simp only [Act.put, List.getElem_toArray, List.getElem_cons_succ, List.getElem_cons_zero, List.setIfInBounds_toArray, List.set_cons_zero, List.set_cons_succ]
  refine wpAnyH_ready (rs := [1]) (by kernel_rfl) (by simp) ?_
  refine AllReadyH.cons rfl (fun K hK => ?_) (AllReadyH.nil)
  go_simp
  go_at_call 26
  refine (toGroup_any _ _ _ _).mono ?_
  rintro e' Wsb ⟨rfl, hb⟩
  have HB_sb := Lib.hid (bt HB_s.out hb)
  have R_sb := Lib.hid (R_s.out.below hb)
  have J_sb := Lib.hid (J_s.out.below hb)
  have Q_sb := Lib.hid (Q_s.out.below hb)
  have K_sb := Lib.hid (K_s.out.below hb)
  have E_sb := Lib.hid (E_s.out.below hb)
  clear hb
  go_wp2_with fail
  refine hK.out _ _ (show _ from ⟨⟨R_sb.out.1, R_sb.out.2.1, R_sb.out.2.2⟩, ⟨K_sb.out.1 0 _ rfl, K_sb.out.1 1 _ rfl, K_sb.out.1 2 _ rfl, K_sb.out.1 3 _ rfl⟩⟩) (fun hHeld => ?_)
  clear hK K
  try simp only [Act.put, List.getElem_toArray, List.getElem_cons_succ, List.getElem_cons_zero, List.setIfInBounds_toArray, List.set_cons_zero, List.set_cons_succ]
  refine wpAnyH_ready (rs := [4]) (by kernel_rfl) (by simp) ?_
  refine AllReadyH.cons rfl (fun K hK => ?_) (AllReadyH.nil)
  go_simp
  go_at_call 22
  refine (trusteeKey_any P0 Q0 G0 a2 hqn E_sb.out).mono ?_
  rw [K1.out, K2.out]
  rintro e' Wsbe ⟨rfl, hb⟩
  have HB_sbe := Lib.hid (bt HB_sb.out hb)
  have R_sbe := Lib.hid (R_sb.out.below hb)
  have J_sbe := Lib.hid (J_sb.out.below hb)
  have Q_sbe := Lib.hid (Q_sb.out.below hb)
  have K_sbe := Lib.hid (K_sb.out.below hb)
  have E_sbe := Lib.hid (E_sb.out.below hb)
  clear hb
  go_wp2_with fail
  refine hK.out _ _ (show _ from ⟨⟨R_sbe.out.1, R_sbe.out.2.1, R_sbe.out.2.2⟩, ⟨K_sbe.out.1 0 _ rfl, K_sbe.out.1 1 _ rfl, K_sbe.out.1 2 _ rfl, K_sbe.out.1 3 _ rfl⟩⟩) (fun hHeld => ?_)
  clear hK K
  try simp only [Act.put, List.getElem_toArray, List.getElem_cons_succ, List.getElem_cons_zero, List.setIfInBounds_toArray, List.set_cons_zero, List.set_cons_succ]
  refine wpAnyH_take (i := 5) (v := ?_) rfl (by kernel_rfl) (by kernel_rfl) (by kernel_rfl) (fun _ _ _ h => h) (Or.inl ⟨by kernel_rfl, ?_⟩) (by assumption) ?_
  rotate_left 1
  · intro w9 hSw
    try dsimp only at hSw
    go_simp
    try with_reducible rfl
  try simp only [Act.put, List.getElem_toArray, List.getElem_cons_succ, List.getElem_cons_zero, List.setIfInBounds_toArray, List.set_cons_zero, List.set_cons_succ]
  refine wpAnyH_take (i := 6) (v := ?_) rfl (by kernel_rfl) (by kernel_rfl) (by kernel_rfl) (fun _ _ _ h => h) (Or.inl ⟨by kernel_rfl, ?_⟩) (by assumption) ?_
  rotate_left 1
  · intro w9 hSw
    try dsimp only at hSw
    go_simp
    try with_reducible rfl
  try simp only [Act.put, List.getElem_toArray, List.getElem_cons_succ, List.getElem_cons_zero, List.setIfInBounds_toArray, List.set_cons_zero, List.set_cons_succ]
  refine wpAnyH_take (i := 7) (v := ?_) rfl (by kernel_rfl) (by kernel_rfl) (by kernel_rfl) (fun _ _ _ h => h) (Or.inl ⟨by kernel_rfl, ?_⟩) (by assumption) ?_
  rotate_left 1
  · intro w9 hSw
    try dsimp only at hSw
    go_simp
    try with_reducible rfl
  try simp only [Act.put, List.getElem_toArray, List.getElem_cons_succ, List.getElem_cons_zero, List.setIfInBounds_toArray, List.set_cons_zero, List.set_cons_succ]
  refine wpAnyH_take (i := 8) (v := ?_) rfl (by kernel_rfl) (by kernel_rfl) (by kernel_rfl) (fun _ _ _ h => h) (Or.inl ⟨by kernel_rfl, ?_⟩) (by assumption) ?_
  rotate_left 1
  · intro w9 hSw
    try dsimp only at hSw
    go_simp
    try with_reducible rfl
  try simp only [Act.put, List.getElem_toArray, List.getElem_cons_succ, List.getElem_cons_zero, List.setIfInBounds_toArray, List.set_cons_zero, List.set_cons_succ]
  refine wpAnyH_take (i := 9) (v := ?_) rfl (by kernel_rfl) (by kernel_rfl) (by kernel_rfl) (fun _ _ _ h => h) (Or.inl ⟨by kernel_rfl, ?_⟩) (by assumption) ?_
  rotate_left 1
  · intro w9 hSw
    try dsimp only at hSw
    go_simp
    try with_reducible rfl
  try simp only [Act.put, List.getElem_toArray, List.getElem_cons_succ, List.getElem_cons_zero, List.setIfInBounds_toArray, List.set_cons_zero, List.set_cons_succ]
  refine wpAnyH_done (by kernel_rfl) ?_ _
  have HB_4 := Lib.hid HB_sbe.out
  have R_4 := Lib.hid R_sbe.out
  have J_4 := Lib.hid J_sbe.out
  have Q_4 := Lib.hid Q_sbe.out
  have K_4 := Lib.hid K_sbe.out
  have E_4 := Lib.hid E_sbe.out
  go_wp2_with fail
  have hbd : Below Wsbe.heap.size Wsbe Wsbe.drew := (Below.refl _ Wsbe).drew
  have HB_s := Lib.hid (bt HB_4.out hbd)
  have R_s := Lib.hid (R_4.out.below hbd)
  have J_s := Lib.hid (J_4.out.below hbd)
  have Q_s := Lib.hid (Q_4.out.below hbd)
  have K_s := Lib.hid (K_4.out.below hbd)
  have E_s := Lib.hid (E_4.out.below hbd)
  clear hbd
  refine wp_region_held_drew (S := (fun w' => (w'.cell? ⟨u2.heap.size, 0, none⟩ = some (.slice p0 q.q.length p1) ∧ w'.cell? ⟨u2.heap.size, 1, none⟩ = some (.int .i64 q.k) ∧ w'.cell? ⟨u2.heap.size, 2, none⟩ = some (.slice p2 q.c.length p3) ∧ w'.cell? ⟨u2.heap.size, 3, none⟩ = some (.slice p4 q.s.length p5)) ∧ (w'.cell? ⟨w.heap.size + 1, 0, none⟩ = some (.slice j0 q.q.length j1) ∧ w'.cell? ⟨w.heap.size + 1, 1, none⟩ = some (.int .i64 q.k) ∧ w'.cell? ⟨w.heap.size + 1, 2, none⟩ = some (.slice j2 q.c.length j3) ∧ w'.cell? ⟨w.heap.size + 1, 3, none⟩ = some (.slice j4 q.s.length j5)))) (by kernel_rfl) (show _ from ⟨⟨K_4.out.1 0 _ rfl, K_4.out.1 1 _ rfl, K_4.out.1 2 _ rfl, K_4.out.1 3 _ rfl⟩, ⟨J_4.out.1 0 _ rfl, J_4.out.1 1 _ rfl, J_4.out.1 2 _ rfl, J_4.out.1 3 _ rfl⟩⟩) (fun hHeld => ?_)
  generalize hW0 : Wsbe.drew = Ws at *
  clear hW0
  refine wpAnyH_take (i := 0) (v := ?_) rfl (by kernel_rfl) (by kernel_rfl) (by kernel_rfl) (fun _ _ _ h => h) (Or.inl ⟨by kernel_rfl, ?_⟩) (by assumption) ?_
  rotate_left 1
  · intro w9 hSw
    try dsimp only at hSw
    go_simp
    try with_reducible rfl
  try simp only [Act.put, List.getElem_toArray, List.getElem_cons_succ, List.getElem_cons_zero, List.setIfInBounds_toArray, List.set_cons_zero, List.set_cons_succ]
  refine wpAnyH_take (i := 1) (v := ?_) rfl (by kernel_rfl) (by kernel_rfl) (by kernel_rfl) (fun _ _ _ h => h) (Or.inl ⟨by kernel_rfl, ?_⟩) (by assumption) ?_
  rotate_left 1
  · intro w9 hSw
    try dsimp only at hSw
    go_simp
    try with_reducible rfl
  try simp only [Act.put, List.getElem_toArray, List.getElem_cons_succ, List.getElem_cons_zero, List.setIfInBounds_toArray, List.set_cons_zero, List.set_cons_succ]
  refine wpAnyH_ready (rs := [2]) (by kernel_rfl) (by simp) ?_
  refine AllReadyH.cons rfl (fun K hK => ?_) (AllReadyH.nil)
  go_simp
  go_at_call 58
  refine (toK_any Q_s.out (by omega)).mono ?_
  rintro e' Wsc ⟨yp, rfl, ho, hb⟩
  have HB_sc := Lib.hid (bt HB_s.out hb)
  have R_sc := Lib.hid (R_s.out.below hb)
  have J_sc := Lib.hid (J_s.out.below hb)
  have Q_sc := Lib.hid (Q_s.out.below hb)
  have K_sc := Lib.hid (K_s.out.below hb)
  have E_sc := Lib.hid (E_s.out.below hb)
  have CP_sc := Lib.hid (ho.toIn)
  clear ho
  clear hb
  go_wp2_with fail
  refine hK.out _ _ (show _ from ⟨⟨K_sc.out.1 0 _ rfl, K_sc.out.1 1 _ rfl, K_sc.out.1 2 _ rfl, K_sc.out.1 3 _ rfl⟩, ⟨J_sc.out.1 0 _ rfl, J_sc.out.1 1 _ rfl, J_sc.out.1 2 _ rfl, J_sc.out.1 3 _ rfl⟩⟩) (fun hHeld => ?_)
  clear hK K
  try simp only [Act.put, List.getElem_toArray, List.getElem_cons_succ, List.getElem_cons_zero, List.setIfInBounds_toArray, List.set_cons_zero, List.set_cons_succ]
  refine wpAnyH_ready (rs := [3]) (by kernel_rfl) (by simp) ?_
  refine AllReadyH.cons rfl (fun K hK => ?_) (AllReadyH.nil)
  go_simp
  go_at_call 54
  refine (eqK_any E_sc.out CP_sc.out (by omega)).mono ?_
  rintro e' Wscd ⟨rfl, hb⟩
  have HB_scd := Lib.hid (bt HB_sc.out hb)
  have R_scd := Lib.hid (R_sc.out.below hb)
  have J_scd := Lib.hid (J_sc.out.below hb)
  have Q_scd := Lib.hid (Q_sc.out.below hb)
  have K_scd := Lib.hid (K_sc.out.below hb)
  have E_scd := Lib.hid (E_sc.out.below hb)
  have CP_scd := Lib.hid (CP_sc.out.below hb)
  clear hb
  go_wp2_with fail
  refine hK.out _ _ (show _ from ⟨⟨K_scd.out.1 0 _ rfl, K_scd.out.1 1 _ rfl, K_scd.out.1 2 _ rfl, K_scd.out.1 3 _ rfl⟩, ⟨J_scd.out.1 0 _ rfl, J_scd.out.1 1 _ rfl, J_scd.out.1 2 _ rfl, J_scd.out.1 3 _ rfl⟩⟩) (fun hHeld => ?_)
  clear hK K
  try simp only [Act.put, List.getElem_toArray, List.getElem_cons_succ, List.getElem_cons_zero, List.setIfInBounds_toArray, List.set_cons_zero, List.set_cons_succ]
  refine wpAnyH_take (i := 4) (v := ?_) rfl (by kernel_rfl) (by kernel_rfl) (by kernel_rfl) (fun _ _ _ h => h) (Or.inl ⟨by kernel_rfl, ?_⟩) (by assumption) ?_
  rotate_left 1
  · intro w9 hSw
    try dsimp only at hSw
    go_simp
    try with_reducible rfl
  try simp only [Act.put, List.getElem_toArray, List.getElem_cons_succ, List.getElem_cons_zero, List.setIfInBounds_toArray, List.set_cons_zero, List.set_cons_succ]
  refine wpAnyH_done (by kernel_rfl) ?_ _
  have HB_5 := Lib.hid HB_scd.out
  have R_5 := Lib.hid R_scd.out
  have J_5 := Lib.hid J_scd.out
  have Q_5 := Lib.hid Q_scd.out
  have K_5 := Lib.hid K_scd.out
  have E_5 := Lib.hid E_scd.out
  go_wp2
  go_ret
  exact ⟨rfl, HB_5.out⟩

/-! ### The row's step -/
set_option maxRecDepth 100000 in
theorem lifted (os : Os) (started : os.Started) (H : Type) (enc : TypeId × Value → H) :
    ReturnsInHanded {} Try.checked os 11 .any (Rows.fnExactTrusteeKeySpec.pre6 enc Try.prog Try.f11 Rows.fnExactTrusteeKeyRow.domain false) (Rows.fnExactTrusteeKeySpec.post enc Try.prog Try.f11 false true false false) := by
  refine returnsInHanded_of_change (C := Try.checked) own started (by kernel_rfl) Try.func11
    (ChangeSpec.witness6 (enc := enc) (C := Try.checked) false ⟨#[], #[.agg #[.int .i64 0, .int .i64 0, .int .i64 0], .agg #[.slice none 0 0, .int .i64 0, .slice none 0 0, .slice none 0 0], .int .i64 0], []⟩ 8 (by kernel_rfl) (by kernel_rfl) (by kernel_rfl) (by kernel_rfl)) ?_
  intro W base args ds gs before hval0 hW hcnd _
  have hval : ∀ (j : Nat) t v, Try.f11.params[j]? = some t → args[j]? = some v → Value.okWide Try.prog W .any base t v := hval0
  have hW' := hW
  obtain ⟨p, q, hA0, hV, rfl, hfz, hnd⟩ := hW
  have hA : DataW.TrodAll enc Try.prog W 0 (fun _ => true) true Try.f11.params.toList args.toList ds p := hA0
  rw [Try.params11] at hA hval
  obtain ⟨v0, vs0, d0, ds0, p0, q0, hargs, rfl, rfl, h0, r0⟩ := trodAll_cons hA
  obtain ⟨v1, vs1, d1, ds1, p1, q1, rfl, rfl, rfl, h1, r1⟩ := trodAll_cons r0
  obtain ⟨v2, vs2, d2, ds2, p2, q2, rfl, rfl, rfl, h2, r2⟩ := trodAll_cons r1
  obtain ⟨rfl, rfl, rfl⟩ := trodAll_nil r2
  obtain rfl : args = #[v0, v1, v2] := by cases args; simp_all
  obtain ⟨rfl, rfl⟩ := trodVars_none hV
  have k0 := h0
  have lt0 : ∀ x ∈ p0, x.block < W.heap.size := by obtain ⟨m, hm⟩ := k0; exact DataW.trod_lt m _ _ _ hm
  obtain ⟨c0_0, c0_1, c0_2, y0_0, y0_1, y0_2, m0, rfl, rfl, rfl, hy0_0, hy0_1, hy0_2⟩ := open_agg3 Try.underlying47 (by kernel_rfl) (by kernel_rfl) (hval 0 47 v0 rfl rfl) h0
  obtain ⟨P0, e0_0, _, wP0⟩ := DataW.trod_int Try.underlying3 hy0_0
  obtain rfl := (List.cons.inj e0_0).1
  obtain ⟨Q0, e0_1, _, wQ0⟩ := DataW.trod_int Try.underlying3 hy0_1
  obtain rfl := (List.cons.inj e0_1).1
  obtain ⟨G0, e0_2, _, wG0⟩ := DataW.trod_int Try.underlying3 hy0_2
  obtain rfl := (List.cons.inj e0_2).1
  have k1 := h1
  have lt1 : ∀ x ∈ p1, x.block < W.heap.size := by obtain ⟨m, hm⟩ := k1; exact DataW.trod_lt m _ _ _ hm
  have w1 := inK_open (hval 1 78 v1 rfl rfl) h1
  obtain ⟨a2, rfl, rfl, rfl, w2⟩ := open_int Try.underlying3 (hval 2 3 v2 rfl rfl) h2
  clear hA0 hval0
  refine (walk P0 Q0 G0 _ a2 W wP0 wQ0 wG0 w1 w2).mono fun e W' ⟨he, bel⟩ => ?_
  subst he
  exact ⟨_, rfl, _, _, _, [], _, [], hW', trodAll_mk1 (shut_bool Try.underlying4 _), (trodAll_cons_mk (Below.trod laidOut (by kernel_rfl) (of_decide_eq_true (by kernel_rfl)) k0 bel lt0) (trodAll_cons_mk (Below.trod laidOut (by kernel_rfl) (of_decide_eq_true (by kernel_rfl)) k1 bel lt1) (trodAll_cons_mk (shut_int Try.underlying3 w2) trodAll_mk0))), rfl, bel.frame _, fun h => by cases h⟩

theorem over : Rows.fnExactTrusteeKeyRow.holds Try.pinned (OpenSpec.ofChange Rows.fnExactTrusteeKeySpec) :=
  OpenClaim.holds_of_wide 11 Try.f11 rfl rfl rfl rfl rfl rfl rfl ⟨rfl, rfl, rfl, rfl, rfl⟩ rfl rfl rfl rfl rfl (by kernel_rfl) Try.func11
    (show joinedFacts Try.prog 11 Try.f11 Rows.fnExactTrusteeKeySpec Rows.fnExactTrusteeKeyRow = true by unfold joinedFacts; rw [Head.make, Head.lifts, Head.enters]; kernel_rfl)
    (of_decide_eq_true (by kernel_rfl)) (by unfold Func.isWrapper; first | (rw [if_pos (by decide +kernel)]; kernel_rfl) | (rw [if_neg (by decide +kernel)]; exact ⟨rfl, rfl⟩))
    (fun os started H enc _ => lifted os started H enc)

/-- The statement. -/
theorem proved : Rows.FnExactTrusteeKeySaid := over
#print axioms proved
end Go.Proofs.Ytchlnkdlnfjijaa.fnExactTrusteeKey
