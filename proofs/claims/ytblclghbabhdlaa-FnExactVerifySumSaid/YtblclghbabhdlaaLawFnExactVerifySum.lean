/-
For every group, all bases and every further argument the law FnExactVerifySum returns true: the program's VerifySum answers as the reference's does, and leaves its arguments as they were.
No condition.
-/
import Derived.Test.YtblclghbabhdlaaRows
import Derived.WalkKit
import Derived.ProofKit
import Derived.OpenShut
import Derived.ShutString
import Derived.ChangeOld
import Derived.Below
import Derived.Lib.SmallJoins
import Derived.Test.YtblclghbabhdlaaRngA
import Derived.Test.YtblclghbabhdlaaRngC
import Derived.Test.YtblclghbabhdlaaOpP
import Derived.Deep.RegionHeld3
import Derived.Test.YtblclghbabhdlaaFacts
namespace Go.Proofs.Ytblclghbabhdlaa.fnExactVerifySum
open Go.Joins Go.ChangeShapes Go.WideShapes Go.ChangeAt Go.RowKit Go.Deep
open Go.ChangeMaps (open_string shut_string)
set_option linter.unusedVariables false

theorem own : ownKnob Try.prog.godebug = none := by kernel_rfl
theorem laidOut : laidOutB Try.prog = true := by kernel_rfl

/-- What the walk is told of a slice of integers that came in: it is nil; or it leads to a row of 'cap' cells that hold the numbers 'zs'. -/
def IsRow (k : IntKind) (w : World) (a : Option Addr) (len cap : Nat) (zs : List Int) : Prop :=
  (a = none ∧ len = 0 ∧ cap = 0 ∧ zs = []) ∨
  ∃ x, a = some x ∧ len ≤ cap ∧ cap ≤ maxLen ∧ zs.length = cap ∧ (∀ i, i < zs.length → w.cell? (x.add i) = some (.int k (zs.getD i 0))) ∧ ∀ n ∈ zs, (Lit.int k n).wf = true

set_option linter.unusedSimpArgs false

/-! ### STEP 1: the walk: the Go text returns true and writes nothing that was there -/
set_option maxRecDepth 100000 in
set_option maxHeartbeats 3200000 in
theorem walk (P0 Q0 G0 : Int) (H1 : Int) (y1 : Value) (a2 : Option Addr) (len2 cap2 : Nat) (z2 : List Int) (a3 : Int) (a4 : Value) (w : World) (wP0 : (Lit.int .i64 P0).wf = true) (wQ0 : (Lit.int .i64 Q0).wf = true) (wG0 : (Lit.int .i64 G0).wf = true) (w1 : ∃ hs, InI w.heap.size w y1 hs ∧ hs.length ≤ maxLen) (w2 : IsRow .i64 w a2 len2 cap2 z2) (w3 : (Lit.int .i64 a3).wf = true) (w4 : ∃ q : PrD, InP w.heap.size w a4 q ∧ q.c.length ≤ maxLen ∧ q.h.length ≤ maxLen ∧ q.r.length ≤ maxLen) :
    Calls Try.prog 8 #[.agg #[.int .i64 P0, .int .i64 Q0, .int .i64 G0], .agg #[.int .i64 H1, y1], .slice a2 len2 cap2, .int .i64 a3, a4] w fun e w' => e = .returned (.bool true) ∧ Below w.heap.size w w' := by
  obtain ⟨hs, hz, hm⟩ := w1
  obtain ⟨ya, yc, rfl⟩ := hz.shape
  obtain ⟨q, hq, hq1, hq2, hq3⟩ := w4
  obtain ⟨qa, qa1, qb, qb1, qc, qc1, rfl, _, _, _⟩ := hq.parts
  obtain ⟨hcs, ncs, mcs⟩ := inI_of_row w2
  generalize z2.take len2 = cs at hcs ncs
  clear w2
  have hal : Below w.heap.size w (((w.alloc (.cells #[.int .i64 P0, .int .i64 Q0, .int .i64 G0] 23)).alloc (.cells #[.int .i64 H1, .slice ya hs.length yc] 26)).alloc (.cells #[.slice qa q.c.length qa1, .slice qb q.h.length qb1, .slice qc q.r.length qc1] 44)) := bt (bt (ba _ _) (ba _ _)) (ba _ _)
  have R_0 := Lib.hid (((gr_at w w.heap.size rfl P0 Q0 G0 23).below (ba _ (.cells #[.int .i64 H1, .slice ya hs.length yc] 26))).below (ba _ (.cells #[.slice qa q.c.length qa1, .slice qb q.h.length qb1, .slice qc q.r.length qc1] 44)))
  have V_0 := Lib.hid ((d2_at (w.alloc (.cells #[.int .i64 P0, .int .i64 Q0, .int .i64 G0] 23)) (w.heap.size + 1) (by simp) (.int .i64 H1) (.slice ya hs.length yc) 26).below (ba _ (.cells #[.slice qa q.c.length qa1, .slice qb q.h.length qb1, .slice qc q.r.length qc1] 44)))
  have hv := b3_new ((w.alloc (.cells #[.int .i64 P0, .int .i64 Q0, .int .i64 G0] 23)).alloc (.cells #[.int .i64 H1, .slice ya hs.length yc] 26)) (.slice qa q.c.length qa1) (.slice qb q.h.length qb1) (.slice qc q.r.length qc1) 44
  rw [show ((w.alloc (.cells #[.int .i64 P0, .int .i64 Q0, .int .i64 G0] 23)).alloc (.cells #[.int .i64 H1, .slice ya hs.length yc] 26)).heap.size = w.heap.size + 2 by simp] at hv
  have J_0 := Lib.hid hv
  have Q_0 := Lib.hid (hq.below hal)
  clear hv
  have A_0 := Lib.hid (hz.below hal)
  have CS_0 := Lib.hid (hcs.below hal)
  have HB_0 := Lib.hid hal
  clear hal hz hq hcs
  by_cases b2 : 1048576 < len2
  · have c2 : (1048576 : Int) < (len2 : Int) := by omega
    unfold maxLen at mcs
    go_enter Try.func8, Try.ntmps8
    go_wp2
    go_ret
    exact ⟨rfl, HB_0.out⟩
  have c2 : (len2 : Int) ≤ 1048576 := by omega
  have lcs : cs.length ≤ 1048576 := by omega
  by_cases bq : 1048576 < (hs.length : Int)
  · have E2 := Lib.hid (show szV hs.length 1048576 = -1 by unfold szV; rw [if_neg (by omega)])
    obtain ⟨v0, v1⟩ := V_0.out
    go_enter Try.func8, Try.ntmps8
    go_wp2_with fail
    refine (szBas_any A_0.out (by omega) (by omega) hm).mono ?_
    rw [E2.out]
    rintro e u1 ⟨rfl, hb⟩
    have HB_1 := Lib.hid (bt HB_0.out hb)
    clear hb v0 v1
    go_wp2
    go_ret
    exact ⟨rfl, HB_1.out⟩
  have E2 := Lib.hid (show szV hs.length 1048576 = 1048576 - (hs.length : Int) by unfold szV; rw [if_pos (by omega)])
  have hsl : hs.length ≤ 1048576 := by omega
  have hqi : 0 ≤ 1048576 - (hs.length : Int) := by omega
  obtain ⟨lf, hlf⟩ : ∃ lf : Int, 1048576 - (hs.length : Int) = lf := ⟨_, rfl⟩
  rw [hlf] at hqi
  have E3 := E2.out
  rw [hlf] at E3
  clear E2
  have E2 := Lib.hid E3
  have hlf1 : lf ≤ 1048576 := by omega
  clear E3 hlf
  by_cases bp : lf < (q.n : Int)
  · have E4 := Lib.hid (show szV q.n lf = -1 by unfold szV; rw [if_neg (by omega)])
    obtain ⟨v0, v1⟩ := V_0.out
    go_enter Try.func8, Try.ntmps8
    go_wp2_with fail
    refine (szBas_any A_0.out (by omega) (by omega) hm).mono ?_
    rw [E2.out]
    rintro e u1 ⟨rfl, hb⟩
    have HB_1 := Lib.hid (bt HB_0.out hb)
    have Q_1 := Lib.hid (Q_0.out.below hb)
    have J_1 := Lib.hid (J_0.out.below hb)
    clear hb v0 v1
    obtain ⟨j0, j1, j2, _⟩ := J_1.out
    go_wp2_with fail
    refine (szP_any Q_1.out hqi hlf1 hq1 hq2 hq3).mono ?_
    rw [E4.out]
    rintro e u2 ⟨rfl, hb⟩
    have HB_2 := Lib.hid (bt HB_1.out hb)
    clear hb j0 j1 j2
    go_wp2
    go_ret
    exact ⟨rfl, HB_2.out⟩
  have E4 := Lib.hid (show szV q.n lf = lf - (q.n : Int) by unfold szV; rw [if_pos (by omega)])
  have hqn : q.n ≤ 1048576 := by omega
  have hqj : 0 ≤ lf - (q.n : Int) := by omega
  obtain ⟨k1, hk1⟩ : ∃ k, vsV P0 Q0 G0 H1 hs cs a3 q = k := ⟨_, rfl⟩
  have K1 := Lib.hid hk1
  clear hk1
  obtain ⟨k2, hk2⟩ : ∃ k, vsB P0 Q0 G0 H1 hs cs a3 = k := ⟨_, rfl⟩
  have K2 := Lib.hid hk2
  clear hk2
  obtain ⟨v0, v1⟩ := V_0.out
  go_enter Try.func8, Try.ntmps8
  go_wp2_with fail
  refine (szBas_any A_0.out (by omega) (by omega) hm).mono ?_
  rw [E2.out]
  rintro e u1 ⟨rfl, hb⟩
  clear v0 v1
  have HB_1 := Lib.hid (bt HB_0.out hb)
  have R_1 := Lib.hid (R_0.out.below hb)
  have V_1 := Lib.hid (V_0.out.below hb)
  have J_1 := Lib.hid (J_0.out.below hb)
  have Q_1 := Lib.hid (Q_0.out.below hb)
  have A_1 := Lib.hid (A_0.out.below hb)
  have CS_1 := Lib.hid (CS_0.out.below hb)
  clear hb HB_0 R_0 V_0 J_0 Q_0 A_0 CS_0
  obtain ⟨j0, j1, j2, _⟩ := J_1.out
  go_wp2_with fail
  refine (szP_any Q_1.out hqi hlf1 hq1 hq2 hq3).mono ?_
  rw [E4.out]
  rintro e u2 ⟨rfl, hb⟩
  have HB_2 := Lib.hid (bt HB_1.out hb)
  have R_2 := Lib.hid (R_1.out.below hb)
  have V_2 := Lib.hid (V_1.out.below hb)
  have J_2 := Lib.hid (J_1.out.below hb)
  have Q_2 := Lib.hid (Q_1.out.below hb)
  have A_2 := Lib.hid (A_1.out.below hb)
  have CS_2 := Lib.hid (CS_1.out.below hb)
  clear hb HB_1 R_1 V_1 J_1 Q_1 A_1 CS_1
  clear j0 j1 j2
  go_wp2_with fail
  have hbd : Below u2.heap.size u2 u2.drew := (Below.refl _ u2).drew
  have HB_s := Lib.hid (bt HB_2.out hbd)
  have R_s := Lib.hid (R_2.out.below hbd)
  have V_s := Lib.hid (V_2.out.below hbd)
  have J_s := Lib.hid (J_2.out.below hbd)
  have Q_s := Lib.hid (Q_2.out.below hbd)
  have A_s := Lib.hid (A_2.out.below hbd)
  have CS_s := Lib.hid (CS_2.out.below hbd)
  clear hbd
  refine wp_region_held_drew (S := (fun w' => (w'.cell? ⟨w.heap.size, 0, none⟩ = some (.int .i64 P0) ∧ w'.cell? ⟨w.heap.size, 1, none⟩ = some (.int .i64 Q0) ∧ w'.cell? ⟨w.heap.size, 2, none⟩ = some (.int .i64 G0)) ∧ (w'.cell? ⟨w.heap.size + 1, 0, none⟩ = some (.int .i64 H1) ∧ w'.cell? ⟨w.heap.size + 1, 1, none⟩ = some (.slice ya hs.length yc)) ∧ (w'.cell? ⟨w.heap.size + 2, 0, none⟩ = some (.slice qa q.c.length qa1) ∧ w'.cell? ⟨w.heap.size + 2, 1, none⟩ = some (.slice qb q.h.length qb1) ∧ w'.cell? ⟨w.heap.size + 2, 2, none⟩ = some (.slice qc q.r.length qc1)))) (by kernel_rfl) (show _ from ⟨⟨R_2.out.1, R_2.out.2.1, R_2.out.2.2⟩, ⟨V_2.out.1, V_2.out.2⟩, ⟨J_2.out.1, J_2.out.2.1, J_2.out.2.2.1⟩⟩) (fun hHeld => ?_)
  generalize hW0 : u2.drew = Ws at *
  clear hW0
  refine wpAnyH_take (i := 0) (v := ?_) rfl (by kernel_rfl) (by kernel_rfl) (by kernel_rfl) (fun _ _ _ h => h) (Or.inl ⟨by kernel_rfl, ?_⟩) (by assumption) ?_
  rotate_left 1
  · intro w9 hSw
    try dsimp only at hSw
    go_simp
    try with_reducible rfl
  try simp only [Act.put, List.getElem_toArray, List.getElem_cons_succ, List.getElem_cons_zero, List.setIfInBounds_toArray, List.set_cons_zero, List.set_cons_succ]
  refine wpAnyH_take (i := 2) (v := ?_) rfl (by kernel_rfl) (by kernel_rfl) (by kernel_rfl) (fun _ _ _ h => h) (Or.inl ⟨by kernel_rfl, ?_⟩) (by assumption) ?_
  rotate_left 1
  · intro w9 hSw
    try dsimp only at hSw
    go_simp
    try with_reducible rfl
  try simp only [Act.put, List.getElem_toArray, List.getElem_cons_succ, List.getElem_cons_zero, List.setIfInBounds_toArray, List.set_cons_zero, List.set_cons_succ]
  refine wpAnyH_take (i := 4) (v := ?_) rfl (by kernel_rfl) (by kernel_rfl) (by kernel_rfl) (fun _ _ _ h => h) (Or.inl ⟨by kernel_rfl, ?_⟩) (by assumption) ?_
  rotate_left 1
  · intro w9 hSw
    try dsimp only at hSw
    go_simp
    try with_reducible rfl
  try simp only [Act.put, List.getElem_toArray, List.getElem_cons_succ, List.getElem_cons_zero, List.setIfInBounds_toArray, List.set_cons_zero, List.set_cons_succ]
  refine wpAnyH_take (i := 6) (v := ?_) rfl (by kernel_rfl) (by kernel_rfl) (by kernel_rfl) (fun _ _ _ h => h) (Or.inl ⟨by kernel_rfl, ?_⟩) (by assumption) ?_
  rotate_left 1
  · intro w9 hSw
    try dsimp only at hSw
    go_simp
    try with_reducible rfl
  try simp only [Act.put, List.getElem_toArray, List.getElem_cons_succ, List.getElem_cons_zero, List.setIfInBounds_toArray, List.set_cons_zero, List.set_cons_succ]
  refine wpAnyH_take (i := 7) (v := ?_) rfl (by kernel_rfl) (by kernel_rfl) (by kernel_rfl) (fun _ _ _ h => h) (Or.inl ⟨by kernel_rfl, ?_⟩) (by assumption) ?_
  rotate_left 1
  · intro w9 hSw
    try dsimp only at hSw
    go_simp
    try with_reducible rfl
  try simp only [Act.put, List.getElem_toArray, List.getElem_cons_succ, List.getElem_cons_zero, List.setIfInBounds_toArray, List.set_cons_zero, List.set_cons_succ]
  refine wpAnyH_ready (rs := [1]) (by kernel_rfl) (by simp) ?_
  refine AllReadyH.cons rfl (fun K hK => ?_) (AllReadyH.nil)
  go_simp
  go_at_call 12
  refine (toGroup_any _ _ _ _).mono ?_
  rintro e' Wsb ⟨rfl, hb⟩
  have HB_sb := Lib.hid (bt HB_s.out hb)
  have R_sb := Lib.hid (R_s.out.below hb)
  have V_sb := Lib.hid (V_s.out.below hb)
  have J_sb := Lib.hid (J_s.out.below hb)
  have Q_sb := Lib.hid (Q_s.out.below hb)
  have A_sb := Lib.hid (A_s.out.below hb)
  have CS_sb := Lib.hid (CS_s.out.below hb)
  clear hb
  go_wp2_with fail
  refine hK.out _ _ (show _ from ⟨⟨R_sb.out.1, R_sb.out.2.1, R_sb.out.2.2⟩, ⟨V_sb.out.1, V_sb.out.2⟩, ⟨J_sb.out.1, J_sb.out.2.1, J_sb.out.2.2.1⟩⟩) (fun hHeld => ?_)
  clear hK K
  try simp only [Act.put, List.getElem_toArray, List.getElem_cons_succ, List.getElem_cons_zero, List.setIfInBounds_toArray, List.set_cons_zero, List.set_cons_succ]
  refine wpAnyH_ready (rs := [3]) (by kernel_rfl) (by simp) ?_
  refine AllReadyH.cons rfl (fun K hK => ?_) (AllReadyH.nil)
  go_simp
  go_at_call 13
  refine (toBas_any A_sb.out (by omega)).mono ?_
  rintro e' Wsbd ⟨yw, rfl, ho, hb⟩
  have HB_sbd := Lib.hid (bt HB_sb.out hb)
  have R_sbd := Lib.hid (R_sb.out.below hb)
  have V_sbd := Lib.hid (V_sb.out.below hb)
  have J_sbd := Lib.hid (J_sb.out.below hb)
  have Q_sbd := Lib.hid (Q_sb.out.below hb)
  have A_sbd := Lib.hid (A_sb.out.below hb)
  have CS_sbd := Lib.hid (CS_sb.out.below hb)
  have CB_sbd := Lib.hid (ho.toIn)
  clear ho
  clear hb
  go_wp2_with fail
  refine hK.out _ _ (show _ from ⟨⟨R_sbd.out.1, R_sbd.out.2.1, R_sbd.out.2.2⟩, ⟨V_sbd.out.1, V_sbd.out.2⟩, ⟨J_sbd.out.1, J_sbd.out.2.1, J_sbd.out.2.2.1⟩⟩) (fun hHeld => ?_)
  clear hK K
  try simp only [Act.put, List.getElem_toArray, List.getElem_cons_succ, List.getElem_cons_zero, List.setIfInBounds_toArray, List.set_cons_zero, List.set_cons_succ]
  refine wpAnyH_ready (rs := [5]) (by kernel_rfl) (by simp) ?_
  refine AllReadyH.cons rfl (fun K hK => ?_) (AllReadyH.nil)
  go_simp
  go_at_call 14
  refine (toI_any CS_sbd.out (by omega)).mono ?_
  rintro e' Wsbdf ⟨xcs, rfl, ho, hb⟩
  have HB_sbdf := Lib.hid (bt HB_sbd.out hb)
  have R_sbdf := Lib.hid (R_sbd.out.below hb)
  have V_sbdf := Lib.hid (V_sbd.out.below hb)
  have J_sbdf := Lib.hid (J_sbd.out.below hb)
  have Q_sbdf := Lib.hid (Q_sbd.out.below hb)
  have A_sbdf := Lib.hid (A_sbd.out.below hb)
  have CS_sbdf := Lib.hid (CS_sbd.out.below hb)
  have CB_sbdf := Lib.hid (CB_sbd.out.below hb)
  have CCS_sbdf := Lib.hid (ho.toIn)
  clear ho
  clear hb
  go_wp2_with fail
  refine hK.out _ _ (show _ from ⟨⟨R_sbdf.out.1, R_sbdf.out.2.1, R_sbdf.out.2.2⟩, ⟨V_sbdf.out.1, V_sbdf.out.2⟩, ⟨J_sbdf.out.1, J_sbdf.out.2.1, J_sbdf.out.2.2.1⟩⟩) (fun hHeld => ?_)
  clear hK K
  try simp only [Act.put, List.getElem_toArray, List.getElem_cons_succ, List.getElem_cons_zero, List.setIfInBounds_toArray, List.set_cons_zero, List.set_cons_succ]
  refine wpAnyH_ready (rs := [8]) (by kernel_rfl) (by simp) ?_
  refine AllReadyH.cons rfl (fun K hK => ?_) (AllReadyH.nil)
  go_simp
  go_at_call 25
  refine (toP_any Q_sbdf.out (by omega)).mono ?_
  rintro e' Wsbdfi ⟨yp, rfl, ho, hb⟩
  have HB_sbdfi := Lib.hid (bt HB_sbdf.out hb)
  have R_sbdfi := Lib.hid (R_sbdf.out.below hb)
  have V_sbdfi := Lib.hid (V_sbdf.out.below hb)
  have J_sbdfi := Lib.hid (J_sbdf.out.below hb)
  have Q_sbdfi := Lib.hid (Q_sbdf.out.below hb)
  have A_sbdfi := Lib.hid (A_sbdf.out.below hb)
  have CS_sbdfi := Lib.hid (CS_sbdf.out.below hb)
  have CB_sbdfi := Lib.hid (CB_sbdf.out.below hb)
  have CCS_sbdfi := Lib.hid (CCS_sbdf.out.below hb)
  have CP_sbdfi := Lib.hid (ho.toIn)
  clear ho
  clear hb
  go_wp2_with fail
  refine hK.out _ _ (show _ from ⟨⟨R_sbdfi.out.1, R_sbdfi.out.2.1, R_sbdfi.out.2.2⟩, ⟨V_sbdfi.out.1, V_sbdfi.out.2⟩, ⟨J_sbdfi.out.1, J_sbdfi.out.2.1, J_sbdfi.out.2.2.1⟩⟩) (fun hHeld => ?_)
  clear hK K
  try simp only [Act.put, List.getElem_toArray, List.getElem_cons_succ, List.getElem_cons_zero, List.setIfInBounds_toArray, List.set_cons_zero, List.set_cons_succ]
  refine wpAnyH_ready (rs := [9]) (by kernel_rfl) (by simp) ?_
  refine AllReadyH.cons rfl (fun K hK => ?_) (AllReadyH.nil)
  go_simp
  go_at_call 36
  refine (sVerifySum_any P0 Q0 G0 H1 a3 hsl lcs hqn CB_sbdfi.out CCS_sbdfi.out CP_sbdfi.out).mono ?_
  rw [K1.out, K2.out]
  rintro e' Wsbdfij ⟨rfl, hb⟩
  have HB_sbdfij := Lib.hid (bt HB_sbdfi.out hb)
  have R_sbdfij := Lib.hid (R_sbdfi.out.below hb)
  have V_sbdfij := Lib.hid (V_sbdfi.out.below hb)
  have J_sbdfij := Lib.hid (J_sbdfi.out.below hb)
  have Q_sbdfij := Lib.hid (Q_sbdfi.out.below hb)
  have A_sbdfij := Lib.hid (A_sbdfi.out.below hb)
  have CS_sbdfij := Lib.hid (CS_sbdfi.out.below hb)
  have CB_sbdfij := Lib.hid (CB_sbdfi.out.below hb)
  have CCS_sbdfij := Lib.hid (CCS_sbdfi.out.below hb)
  have CP_sbdfij := Lib.hid (CP_sbdfi.out.below hb)
  clear hb
  go_wp2_with fail
  refine hK.out _ _ (show _ from ⟨⟨R_sbdfij.out.1, R_sbdfij.out.2.1, R_sbdfij.out.2.2⟩, ⟨V_sbdfij.out.1, V_sbdfij.out.2⟩, ⟨J_sbdfij.out.1, J_sbdfij.out.2.1, J_sbdfij.out.2.2.1⟩⟩) (fun hHeld => ?_)
  clear hK K
  try simp only [Act.put, List.getElem_toArray, List.getElem_cons_succ, List.getElem_cons_zero, List.setIfInBounds_toArray, List.set_cons_zero, List.set_cons_succ]
  refine wpAnyH_take (i := 10) (v := ?_) rfl (by kernel_rfl) (by kernel_rfl) (by kernel_rfl) (fun _ _ _ h => h) (Or.inl ⟨by kernel_rfl, ?_⟩) (by assumption) ?_
  rotate_left 1
  · intro w9 hSw
    try dsimp only at hSw
    go_simp
    try with_reducible rfl
  try simp only [Act.put, List.getElem_toArray, List.getElem_cons_succ, List.getElem_cons_zero, List.setIfInBounds_toArray, List.set_cons_zero, List.set_cons_succ]
  refine wpAnyH_take (i := 11) (v := ?_) rfl (by kernel_rfl) (by kernel_rfl) (by kernel_rfl) (fun _ _ _ h => h) (Or.inl ⟨by kernel_rfl, ?_⟩) (by assumption) ?_
  rotate_left 1
  · intro w9 hSw
    try dsimp only at hSw
    go_simp
    try with_reducible rfl
  try simp only [Act.put, List.getElem_toArray, List.getElem_cons_succ, List.getElem_cons_zero, List.setIfInBounds_toArray, List.set_cons_zero, List.set_cons_succ]
  refine wpAnyH_take (i := 12) (v := ?_) rfl (by kernel_rfl) (by kernel_rfl) (by kernel_rfl) (fun _ _ _ h => h) (Or.inl ⟨by kernel_rfl, ?_⟩) (by assumption) ?_
  rotate_left 1
  · intro w9 hSw
    try dsimp only at hSw
    go_simp
    try with_reducible rfl
  try simp only [Act.put, List.getElem_toArray, List.getElem_cons_succ, List.getElem_cons_zero, List.setIfInBounds_toArray, List.set_cons_zero, List.set_cons_succ]
  refine wpAnyH_take (i := 13) (v := ?_) rfl (by kernel_rfl) (by kernel_rfl) (by kernel_rfl) (fun _ _ _ h => h) (Or.inl ⟨by kernel_rfl, ?_⟩) (by assumption) ?_
  rotate_left 1
  · intro w9 hSw
    try dsimp only at hSw
    go_simp
    try with_reducible rfl
  try simp only [Act.put, List.getElem_toArray, List.getElem_cons_succ, List.getElem_cons_zero, List.setIfInBounds_toArray, List.set_cons_zero, List.set_cons_succ]
  refine wpAnyH_take (i := 14) (v := ?_) rfl (by kernel_rfl) (by kernel_rfl) (by kernel_rfl) (fun _ _ _ h => h) (Or.inl ⟨by kernel_rfl, ?_⟩) (by assumption) ?_
  rotate_left 1
  · intro w9 hSw
    try dsimp only at hSw
    go_simp
    try with_reducible rfl
  try simp only [Act.put, List.getElem_toArray, List.getElem_cons_succ, List.getElem_cons_zero, List.setIfInBounds_toArray, List.set_cons_zero, List.set_cons_succ]
  refine wpAnyH_done (by kernel_rfl) ?_ _
  have HB_3 := Lib.hid HB_sbdfij.out
  have R_3 := Lib.hid R_sbdfij.out
  have V_3 := Lib.hid V_sbdfij.out
  have J_3 := Lib.hid J_sbdfij.out
  have Q_3 := Lib.hid Q_sbdfij.out
  have A_3 := Lib.hid A_sbdfij.out
  have CS_3 := Lib.hid CS_sbdfij.out
  obtain ⟨v0, v1⟩ := V_3.out
  go_wp2_with fail
  refine (toBas_any A_3.out (by omega)).mono ?_
  rintro e u3 ⟨yx, rfl, ho, hb1⟩
  obtain ⟨xa, xc, rfl⟩ := ho.toIn.shape
  clear v0 v1
  have hba := ba u3 (.cells #[.int .i64 H1, .slice xa hs.length xc] 34)
  have hb := bt hb1 hba
  have HB_4 := Lib.hid (bt HB_3.out hb)
  have R_4 := Lib.hid (R_3.out.below hb)
  have V_4 := Lib.hid (V_3.out.below hb)
  have J_4 := Lib.hid (J_3.out.below hb)
  have Q_4 := Lib.hid (Q_3.out.below hb)
  have A_4 := Lib.hid (A_3.out.below hb)
  have CS_4 := Lib.hid (CS_3.out.below hb)
  have X_4 := Lib.hid (d2_at u3 u3.heap.size rfl (.int .i64 H1) (.slice xa hs.length xc) 34)
  have B_4 := Lib.hid (ho.toIn.below hba)
  clear hb HB_3 R_3 V_3 J_3 Q_3 A_3 CS_3
  clear ho hb1 hba
  obtain ⟨x0, x1⟩ := X_4.out
  go_wp2_with fail
  refine (toI_any CS_4.out (by omega)).mono ?_
  rintro e u4 ⟨qcs, rfl, ho, hb⟩
  have HB_5 := Lib.hid (bt HB_4.out hb)
  have R_5 := Lib.hid (R_4.out.below hb)
  have V_5 := Lib.hid (V_4.out.below hb)
  have J_5 := Lib.hid (J_4.out.below hb)
  have Q_5 := Lib.hid (Q_4.out.below hb)
  have A_5 := Lib.hid (A_4.out.below hb)
  have CS_5 := Lib.hid (CS_4.out.below hb)
  have X_5 := Lib.hid (X_4.out.below hb)
  have B_5 := Lib.hid (B_4.out.below hb)
  have QCS_5 := Lib.hid (ho.toIn)
  clear hb HB_4 R_4 V_4 J_4 Q_4 A_4 CS_4 X_4 B_4
  clear ho
  clear x0 x1
  obtain ⟨j0, j1, j2, _⟩ := J_5.out
  go_wp2_with fail
  refine (toP_any Q_5.out (by omega)).mono ?_
  rintro e u5 ⟨yy, rfl, ho, hb1⟩
  obtain ⟨pa, pa1, pb, pb1, pc, pc1, rfl, _, _, _⟩ := ho.toIn.parts
  clear j0 j1 j2
  have hba := ba u5 (.cells #[.slice pa q.c.length pa1, .slice pb q.h.length pb1, .slice pc q.r.length pc1] 29)
  have hb := bt hb1 hba
  have HB_6 := Lib.hid (bt HB_5.out hb)
  have R_6 := Lib.hid (R_5.out.below hb)
  have V_6 := Lib.hid (V_5.out.below hb)
  have J_6 := Lib.hid (J_5.out.below hb)
  have Q_6 := Lib.hid (Q_5.out.below hb)
  have A_6 := Lib.hid (A_5.out.below hb)
  have CS_6 := Lib.hid (CS_5.out.below hb)
  have X_6 := Lib.hid (X_5.out.below hb)
  have B_6 := Lib.hid (B_5.out.below hb)
  have QCS_6 := Lib.hid (QCS_5.out.below hb)
  have K_6 := Lib.hid (b3_new u5 (.slice pa q.c.length pa1) (.slice pb q.h.length pb1) (.slice pc q.r.length pc1) 29)
  have E_6 := Lib.hid (ho.toIn.below hba)
  clear hb HB_5 R_5 V_5 J_5 Q_5 A_5 CS_5 X_5 B_5 QCS_5
  clear ho hb1 hba
  obtain ⟨k0, k1, k2, _⟩ := K_6.out
  go_wp2_with fail
  clear k0 k1 k2
  generalize hW9 : (u5.alloc (.cells #[.slice pa q.c.length pa1, .slice pb q.h.length pb1, .slice pc q.r.length pc1] 29)) = u9 at *
  clear hW9
  go_wp2_with fail
  have hbd : Below u9.heap.size u9 u9.drew := (Below.refl _ u9).drew
  have HB_s := Lib.hid (bt HB_6.out hbd)
  have R_s := Lib.hid (R_6.out.below hbd)
  have V_s := Lib.hid (V_6.out.below hbd)
  have J_s := Lib.hid (J_6.out.below hbd)
  have Q_s := Lib.hid (Q_6.out.below hbd)
  have A_s := Lib.hid (A_6.out.below hbd)
  have CS_s := Lib.hid (CS_6.out.below hbd)
  have X_s := Lib.hid (X_6.out.below hbd)
  have B_s := Lib.hid (B_6.out.below hbd)
  have QCS_s := Lib.hid (QCS_6.out.below hbd)
  have K_s := Lib.hid (K_6.out.below hbd)
  have E_s := Lib.hid (E_6.out.below hbd)
  clear hbd
  refine wp_region_held_drew (S := (fun w' => (w'.cell? ⟨w.heap.size, 0, none⟩ = some (.int .i64 P0) ∧ w'.cell? ⟨w.heap.size, 1, none⟩ = some (.int .i64 Q0) ∧ w'.cell? ⟨w.heap.size, 2, none⟩ = some (.int .i64 G0)) ∧ (w'.cell? ⟨u3.heap.size, 0, none⟩ = some (.int .i64 H1) ∧ w'.cell? ⟨u3.heap.size, 1, none⟩ = some (.slice xa hs.length xc)) ∧ (w'.cell? ⟨u5.heap.size, 0, none⟩ = some (.slice pa q.c.length pa1) ∧ w'.cell? ⟨u5.heap.size, 1, none⟩ = some (.slice pb q.h.length pb1) ∧ w'.cell? ⟨u5.heap.size, 2, none⟩ = some (.slice pc q.r.length pc1)))) (by kernel_rfl) (show _ from ⟨⟨R_6.out.1, R_6.out.2.1, R_6.out.2.2⟩, ⟨X_6.out.1, X_6.out.2⟩, ⟨K_6.out.1, K_6.out.2.1, K_6.out.2.2.1⟩⟩) (fun hHeld => ?_)
  generalize hW0 : u9.drew = Ws at *
  clear hW0
  refine wpAnyH_take (i := 0) (v := ?_) rfl (by kernel_rfl) (by kernel_rfl) (by kernel_rfl) (fun _ _ _ h => h) (Or.inl ⟨by kernel_rfl, ?_⟩) (by assumption) ?_
  rotate_left 1
  · intro w9 hSw
    try dsimp only at hSw
    go_simp
    try with_reducible rfl
  try simp only [Act.put, List.getElem_toArray, List.getElem_cons_succ, List.getElem_cons_zero, List.setIfInBounds_toArray, List.set_cons_zero, List.set_cons_succ]
  refine wpAnyH_take (i := 2) (v := ?_) rfl (by kernel_rfl) (by kernel_rfl) (by kernel_rfl) (fun _ _ _ h => h) (Or.inl ⟨by kernel_rfl, ?_⟩) (by assumption) ?_
  rotate_left 1
  · intro w9 hSw
    try dsimp only at hSw
    go_simp
    try with_reducible rfl
  try simp only [Act.put, List.getElem_toArray, List.getElem_cons_succ, List.getElem_cons_zero, List.setIfInBounds_toArray, List.set_cons_zero, List.set_cons_succ]
  refine wpAnyH_take (i := 3) (v := ?_) rfl (by kernel_rfl) (by kernel_rfl) (by kernel_rfl) (fun _ _ _ h => h) (Or.inl ⟨by kernel_rfl, ?_⟩) (by assumption) ?_
  rotate_left 1
  · intro w9 hSw
    try dsimp only at hSw
    go_simp
    try with_reducible rfl
  try simp only [Act.put, List.getElem_toArray, List.getElem_cons_succ, List.getElem_cons_zero, List.setIfInBounds_toArray, List.set_cons_zero, List.set_cons_succ]
  refine wpAnyH_take (i := 4) (v := ?_) rfl (by kernel_rfl) (by kernel_rfl) (by kernel_rfl) (fun _ _ _ h => h) (Or.inl ⟨by kernel_rfl, ?_⟩) (by assumption) ?_
  rotate_left 1
  · intro w9 hSw
    try dsimp only at hSw
    go_simp
    try with_reducible rfl
  try simp only [Act.put, List.getElem_toArray, List.getElem_cons_succ, List.getElem_cons_zero, List.setIfInBounds_toArray, List.set_cons_zero, List.set_cons_succ]
  refine wpAnyH_take (i := 5) (v := ?_) rfl (by kernel_rfl) (by kernel_rfl) (by kernel_rfl) (fun _ _ _ h => h) (Or.inl ⟨by kernel_rfl, ?_⟩) (by assumption) ?_
  rotate_left 1
  · intro w9 hSw
    try dsimp only at hSw
    go_simp
    try with_reducible rfl
  try simp only [Act.put, List.getElem_toArray, List.getElem_cons_succ, List.getElem_cons_zero, List.setIfInBounds_toArray, List.set_cons_zero, List.set_cons_succ]
  refine wpAnyH_ready (rs := [1]) (by kernel_rfl) (by simp) ?_
  refine AllReadyH.cons rfl (fun K hK => ?_) (AllReadyH.nil)
  go_simp
  go_at_call 12
  refine (toGroup_any _ _ _ _).mono ?_
  rintro e' Wsb ⟨rfl, hb⟩
  have HB_sb := Lib.hid (bt HB_s.out hb)
  have R_sb := Lib.hid (R_s.out.below hb)
  have V_sb := Lib.hid (V_s.out.below hb)
  have J_sb := Lib.hid (J_s.out.below hb)
  have Q_sb := Lib.hid (Q_s.out.below hb)
  have A_sb := Lib.hid (A_s.out.below hb)
  have CS_sb := Lib.hid (CS_s.out.below hb)
  have X_sb := Lib.hid (X_s.out.below hb)
  have B_sb := Lib.hid (B_s.out.below hb)
  have QCS_sb := Lib.hid (QCS_s.out.below hb)
  have K_sb := Lib.hid (K_s.out.below hb)
  have E_sb := Lib.hid (E_s.out.below hb)
  clear hb
  go_wp2_with fail
  refine hK.out _ _ (show _ from ⟨⟨R_sb.out.1, R_sb.out.2.1, R_sb.out.2.2⟩, ⟨X_sb.out.1, X_sb.out.2⟩, ⟨K_sb.out.1, K_sb.out.2.1, K_sb.out.2.2.1⟩⟩) (fun hHeld => ?_)
  clear hK K
  try simp only [Act.put, List.getElem_toArray, List.getElem_cons_succ, List.getElem_cons_zero, List.setIfInBounds_toArray, List.set_cons_zero, List.set_cons_succ]
  refine wpAnyH_ready (rs := [6]) (by kernel_rfl) (by simp) ?_
  refine AllReadyH.cons rfl (fun K hK => ?_) (AllReadyH.nil)
  go_simp
  go_at_call 37
  refine (verifySum_any P0 Q0 G0 H1 a3 hsl lcs hqn B_sb.out QCS_sb.out E_sb.out).mono ?_
  rw [K1.out, K2.out]
  rintro e' Wsbg ⟨rfl, hb⟩
  have HB_sbg := Lib.hid (bt HB_sb.out hb)
  have R_sbg := Lib.hid (R_sb.out.below hb)
  have V_sbg := Lib.hid (V_sb.out.below hb)
  have J_sbg := Lib.hid (J_sb.out.below hb)
  have Q_sbg := Lib.hid (Q_sb.out.below hb)
  have A_sbg := Lib.hid (A_sb.out.below hb)
  have CS_sbg := Lib.hid (CS_sb.out.below hb)
  have X_sbg := Lib.hid (X_sb.out.below hb)
  have B_sbg := Lib.hid (B_sb.out.below hb)
  have QCS_sbg := Lib.hid (QCS_sb.out.below hb)
  have K_sbg := Lib.hid (K_sb.out.below hb)
  have E_sbg := Lib.hid (E_sb.out.below hb)
  clear hb
  go_wp2_with fail
  refine hK.out _ _ (show _ from ⟨⟨R_sbg.out.1, R_sbg.out.2.1, R_sbg.out.2.2⟩, ⟨X_sbg.out.1, X_sbg.out.2⟩, ⟨K_sbg.out.1, K_sbg.out.2.1, K_sbg.out.2.2.1⟩⟩) (fun hHeld => ?_)
  clear hK K
  try simp only [Act.put, List.getElem_toArray, List.getElem_cons_succ, List.getElem_cons_zero, List.setIfInBounds_toArray, List.set_cons_zero, List.set_cons_succ]
  refine wpAnyH_take (i := 7) (v := ?_) rfl (by kernel_rfl) (by kernel_rfl) (by kernel_rfl) (fun _ _ _ h => h) (Or.inl ⟨by kernel_rfl, ?_⟩) (by assumption) ?_
  rotate_left 1
  · intro w9 hSw
    try dsimp only at hSw
    go_simp
    try with_reducible rfl
  try simp only [Act.put, List.getElem_toArray, List.getElem_cons_succ, List.getElem_cons_zero, List.setIfInBounds_toArray, List.set_cons_zero, List.set_cons_succ]
  refine wpAnyH_take (i := 8) (v := ?_) rfl (by kernel_rfl) (by kernel_rfl) (by kernel_rfl) (fun _ _ _ h => h) (Or.inl ⟨by kernel_rfl, ?_⟩) (by assumption) ?_
  rotate_left 1
  · intro w9 hSw
    try dsimp only at hSw
    go_simp
    try with_reducible rfl
  try simp only [Act.put, List.getElem_toArray, List.getElem_cons_succ, List.getElem_cons_zero, List.setIfInBounds_toArray, List.set_cons_zero, List.set_cons_succ]
  refine wpAnyH_take (i := 9) (v := ?_) rfl (by kernel_rfl) (by kernel_rfl) (by kernel_rfl) (fun _ _ _ h => h) (Or.inl ⟨by kernel_rfl, ?_⟩) (by assumption) ?_
  rotate_left 1
  · intro w9 hSw
    try dsimp only at hSw
    go_simp
    try with_reducible rfl
  try simp only [Act.put, List.getElem_toArray, List.getElem_cons_succ, List.getElem_cons_zero, List.setIfInBounds_toArray, List.set_cons_zero, List.set_cons_succ]
  refine wpAnyH_take (i := 10) (v := ?_) rfl (by kernel_rfl) (by kernel_rfl) (by kernel_rfl) (fun _ _ _ h => h) (Or.inl ⟨by kernel_rfl, ?_⟩) (by assumption) ?_
  rotate_left 1
  · intro w9 hSw
    try dsimp only at hSw
    go_simp
    try with_reducible rfl
  try simp only [Act.put, List.getElem_toArray, List.getElem_cons_succ, List.getElem_cons_zero, List.setIfInBounds_toArray, List.set_cons_zero, List.set_cons_succ]
  refine wpAnyH_take (i := 11) (v := ?_) rfl (by kernel_rfl) (by kernel_rfl) (by kernel_rfl) (fun _ _ _ h => h) (Or.inl ⟨by kernel_rfl, ?_⟩) (by assumption) ?_
  rotate_left 1
  · intro w9 hSw
    try dsimp only at hSw
    go_simp
    try with_reducible rfl
  try simp only [Act.put, List.getElem_toArray, List.getElem_cons_succ, List.getElem_cons_zero, List.setIfInBounds_toArray, List.set_cons_zero, List.set_cons_succ]
  refine wpAnyH_done (by kernel_rfl) ?_ _
  have HB_7 := Lib.hid HB_sbg.out
  have R_7 := Lib.hid R_sbg.out
  have V_7 := Lib.hid V_sbg.out
  have J_7 := Lib.hid J_sbg.out
  have Q_7 := Lib.hid Q_sbg.out
  have A_7 := Lib.hid A_sbg.out
  have CS_7 := Lib.hid CS_sbg.out
  have X_7 := Lib.hid X_sbg.out
  have B_7 := Lib.hid B_sbg.out
  have QCS_7 := Lib.hid QCS_sbg.out
  have K_7 := Lib.hid K_sbg.out
  have E_7 := Lib.hid E_sbg.out
  go_wp2_with fail
  have hbd : Below Wsbg.heap.size Wsbg Wsbg.drew := (Below.refl _ Wsbg).drew
  have HB_s := Lib.hid (bt HB_7.out hbd)
  have R_s := Lib.hid (R_7.out.below hbd)
  have V_s := Lib.hid (V_7.out.below hbd)
  have J_s := Lib.hid (J_7.out.below hbd)
  have Q_s := Lib.hid (Q_7.out.below hbd)
  have A_s := Lib.hid (A_7.out.below hbd)
  have CS_s := Lib.hid (CS_7.out.below hbd)
  have X_s := Lib.hid (X_7.out.below hbd)
  have B_s := Lib.hid (B_7.out.below hbd)
  have QCS_s := Lib.hid (QCS_7.out.below hbd)
  have K_s := Lib.hid (K_7.out.below hbd)
  have E_s := Lib.hid (E_7.out.below hbd)
  clear hbd
  refine wp_region_held_drew (S := (fun w' => (w'.cell? ⟨u3.heap.size, 0, none⟩ = some (.int .i64 H1) ∧ w'.cell? ⟨u3.heap.size, 1, none⟩ = some (.slice xa hs.length xc)) ∧ (w'.cell? ⟨w.heap.size + 1, 0, none⟩ = some (.int .i64 H1) ∧ w'.cell? ⟨w.heap.size + 1, 1, none⟩ = some (.slice ya hs.length yc)))) (by kernel_rfl) (show _ from ⟨⟨X_7.out.1, X_7.out.2⟩, ⟨V_7.out.1, V_7.out.2⟩⟩) (fun hHeld => ?_)
  generalize hW0 : Wsbg.drew = Ws at *
  clear hW0
  refine wpAnyH_take (i := 0) (v := ?_) rfl (by kernel_rfl) (by kernel_rfl) (by kernel_rfl) (fun _ _ _ h => h) (Or.inl ⟨by kernel_rfl, ?_⟩) (by assumption) ?_
  rotate_left 1
  · intro w9 hSw
    try dsimp only at hSw
    go_simp
    try with_reducible rfl
  try simp only [Act.put, List.getElem_toArray, List.getElem_cons_succ, List.getElem_cons_zero, List.setIfInBounds_toArray, List.set_cons_zero, List.set_cons_succ]
  refine wpAnyH_take (i := 1) (v := ?_) rfl (by kernel_rfl) (by kernel_rfl) (by kernel_rfl) (fun _ _ _ h => h) (Or.inl ⟨by kernel_rfl, ?_⟩) (by assumption) ?_
  rotate_left 1
  · intro w9 hSw
    try dsimp only at hSw
    go_simp
    try with_reducible rfl
  try simp only [Act.put, List.getElem_toArray, List.getElem_cons_succ, List.getElem_cons_zero, List.setIfInBounds_toArray, List.set_cons_zero, List.set_cons_succ]
  refine wpAnyH_ready (rs := [2]) (by kernel_rfl) (by simp) ?_
  refine AllReadyH.cons rfl (fun K hK => ?_) (AllReadyH.nil)
  go_simp
  go_at_call 13
  refine (toBas_any A_s.out (by omega)).mono ?_
  rintro e' Wsc ⟨yw, rfl, ho, hb⟩
  have HB_sc := Lib.hid (bt HB_s.out hb)
  have R_sc := Lib.hid (R_s.out.below hb)
  have V_sc := Lib.hid (V_s.out.below hb)
  have J_sc := Lib.hid (J_s.out.below hb)
  have Q_sc := Lib.hid (Q_s.out.below hb)
  have A_sc := Lib.hid (A_s.out.below hb)
  have CS_sc := Lib.hid (CS_s.out.below hb)
  have X_sc := Lib.hid (X_s.out.below hb)
  have B_sc := Lib.hid (B_s.out.below hb)
  have QCS_sc := Lib.hid (QCS_s.out.below hb)
  have K_sc := Lib.hid (K_s.out.below hb)
  have E_sc := Lib.hid (E_s.out.below hb)
  have CB_sc := Lib.hid (ho.toIn)
  clear ho
  clear hb
  go_wp2_with fail
  refine hK.out _ _ (show _ from ⟨⟨X_sc.out.1, X_sc.out.2⟩, ⟨V_sc.out.1, V_sc.out.2⟩⟩) (fun hHeld => ?_)
  clear hK K
  try simp only [Act.put, List.getElem_toArray, List.getElem_cons_succ, List.getElem_cons_zero, List.setIfInBounds_toArray, List.set_cons_zero, List.set_cons_succ]
  refine wpAnyH_ready (rs := [3]) (by kernel_rfl) (by simp) ?_
  refine AllReadyH.cons rfl (fun K hK => ?_) (AllReadyH.nil)
  go_simp
  go_at_call 17
  refine (eqBas_any B_sc.out CB_sc.out (by omega)).mono ?_
  rintro e' Wscd ⟨rfl, hb⟩
  have HB_scd := Lib.hid (bt HB_sc.out hb)
  have R_scd := Lib.hid (R_sc.out.below hb)
  have V_scd := Lib.hid (V_sc.out.below hb)
  have J_scd := Lib.hid (J_sc.out.below hb)
  have Q_scd := Lib.hid (Q_sc.out.below hb)
  have A_scd := Lib.hid (A_sc.out.below hb)
  have CS_scd := Lib.hid (CS_sc.out.below hb)
  have X_scd := Lib.hid (X_sc.out.below hb)
  have B_scd := Lib.hid (B_sc.out.below hb)
  have QCS_scd := Lib.hid (QCS_sc.out.below hb)
  have K_scd := Lib.hid (K_sc.out.below hb)
  have E_scd := Lib.hid (E_sc.out.below hb)
  have CB_scd := Lib.hid (CB_sc.out.below hb)
  clear hb
  go_wp2_with fail
  refine hK.out _ _ (show _ from ⟨⟨X_scd.out.1, X_scd.out.2⟩, ⟨V_scd.out.1, V_scd.out.2⟩⟩) (fun hHeld => ?_)
  clear hK K
  try simp only [Act.put, List.getElem_toArray, List.getElem_cons_succ, List.getElem_cons_zero, List.setIfInBounds_toArray, List.set_cons_zero, List.set_cons_succ]
  refine wpAnyH_take (i := 4) (v := ?_) rfl (by kernel_rfl) (by kernel_rfl) (by kernel_rfl) (fun _ _ _ h => h) (Or.inl ⟨by kernel_rfl, ?_⟩) (by assumption) ?_
  rotate_left 1
  · intro w9 hSw
    try dsimp only at hSw
    go_simp
    try with_reducible rfl
  try simp only [Act.put, List.getElem_toArray, List.getElem_cons_succ, List.getElem_cons_zero, List.setIfInBounds_toArray, List.set_cons_zero, List.set_cons_succ]
  refine wpAnyH_done (by kernel_rfl) ?_ _
  have HB_8 := Lib.hid HB_scd.out
  have R_8 := Lib.hid R_scd.out
  have V_8 := Lib.hid V_scd.out
  have J_8 := Lib.hid J_scd.out
  have Q_8 := Lib.hid Q_scd.out
  have A_8 := Lib.hid A_scd.out
  have CS_8 := Lib.hid CS_scd.out
  have X_8 := Lib.hid X_scd.out
  have B_8 := Lib.hid B_scd.out
  have QCS_8 := Lib.hid QCS_scd.out
  have K_8 := Lib.hid K_scd.out
  have E_8 := Lib.hid E_scd.out
  go_wp2_with fail
  refine (toI_any CS_8.out (by omega)).mono ?_
  rintro e u6 ⟨rcs, rfl, ho, hb⟩
  have HB_9 := Lib.hid (bt HB_8.out hb)
  have R_9 := Lib.hid (R_8.out.below hb)
  have V_9 := Lib.hid (V_8.out.below hb)
  have J_9 := Lib.hid (J_8.out.below hb)
  have Q_9 := Lib.hid (Q_8.out.below hb)
  have A_9 := Lib.hid (A_8.out.below hb)
  have CS_9 := Lib.hid (CS_8.out.below hb)
  have X_9 := Lib.hid (X_8.out.below hb)
  have B_9 := Lib.hid (B_8.out.below hb)
  have QCS_9 := Lib.hid (QCS_8.out.below hb)
  have K_9 := Lib.hid (K_8.out.below hb)
  have E_9 := Lib.hid (E_8.out.below hb)
  have CI_9 := Lib.hid (ho.toIn)
  clear hb HB_8 R_8 V_8 J_8 Q_8 A_8 CS_8 X_8 B_8 QCS_8 K_8 E_8
  clear ho
  go_wp2_with fail
  refine (eqI_any QCS_9.out CI_9.out (by omega)).mono ?_
  rintro e u7 ⟨rfl, hb⟩
  have HB_10 := Lib.hid (bt HB_9.out hb)
  have R_10 := Lib.hid (R_9.out.below hb)
  have V_10 := Lib.hid (V_9.out.below hb)
  have J_10 := Lib.hid (J_9.out.below hb)
  have Q_10 := Lib.hid (Q_9.out.below hb)
  have A_10 := Lib.hid (A_9.out.below hb)
  have CS_10 := Lib.hid (CS_9.out.below hb)
  have X_10 := Lib.hid (X_9.out.below hb)
  have B_10 := Lib.hid (B_9.out.below hb)
  have QCS_10 := Lib.hid (QCS_9.out.below hb)
  have K_10 := Lib.hid (K_9.out.below hb)
  have E_10 := Lib.hid (E_9.out.below hb)
  clear hb HB_9 R_9 V_9 J_9 Q_9 A_9 CS_9 X_9 B_9 QCS_9 K_9 E_9 CI_9
  go_wp2_with fail
  have hbd : Below u7.heap.size u7 u7.drew := (Below.refl _ u7).drew
  have HB_s := Lib.hid (bt HB_10.out hbd)
  have R_s := Lib.hid (R_10.out.below hbd)
  have V_s := Lib.hid (V_10.out.below hbd)
  have J_s := Lib.hid (J_10.out.below hbd)
  have Q_s := Lib.hid (Q_10.out.below hbd)
  have A_s := Lib.hid (A_10.out.below hbd)
  have CS_s := Lib.hid (CS_10.out.below hbd)
  have X_s := Lib.hid (X_10.out.below hbd)
  have B_s := Lib.hid (B_10.out.below hbd)
  have QCS_s := Lib.hid (QCS_10.out.below hbd)
  have K_s := Lib.hid (K_10.out.below hbd)
  have E_s := Lib.hid (E_10.out.below hbd)
  clear hbd
  refine wp_region_held_drew (S := (fun w' => (w'.cell? ⟨u5.heap.size, 0, none⟩ = some (.slice pa q.c.length pa1) ∧ w'.cell? ⟨u5.heap.size, 1, none⟩ = some (.slice pb q.h.length pb1) ∧ w'.cell? ⟨u5.heap.size, 2, none⟩ = some (.slice pc q.r.length pc1)) ∧ (w'.cell? ⟨w.heap.size + 2, 0, none⟩ = some (.slice qa q.c.length qa1) ∧ w'.cell? ⟨w.heap.size + 2, 1, none⟩ = some (.slice qb q.h.length qb1) ∧ w'.cell? ⟨w.heap.size + 2, 2, none⟩ = some (.slice qc q.r.length qc1)))) (by kernel_rfl) (show _ from ⟨⟨K_10.out.1, K_10.out.2.1, K_10.out.2.2.1⟩, ⟨J_10.out.1, J_10.out.2.1, J_10.out.2.2.1⟩⟩) (fun hHeld => ?_)
  generalize hW0 : u7.drew = Ws at *
  clear hW0
  refine wpAnyH_take (i := 0) (v := ?_) rfl (by kernel_rfl) (by kernel_rfl) (by kernel_rfl) (fun _ _ _ h => h) (Or.inl ⟨by kernel_rfl, ?_⟩) (by assumption) ?_
  rotate_left 1
  · intro w9 hSw
    try dsimp only at hSw
    go_simp
    try with_reducible rfl
  try simp only [Act.put, List.getElem_toArray, List.getElem_cons_succ, List.getElem_cons_zero, List.setIfInBounds_toArray, List.set_cons_zero, List.set_cons_succ]
  refine wpAnyH_take (i := 1) (v := ?_) rfl (by kernel_rfl) (by kernel_rfl) (by kernel_rfl) (fun _ _ _ h => h) (Or.inl ⟨by kernel_rfl, ?_⟩) (by assumption) ?_
  rotate_left 1
  · intro w9 hSw
    try dsimp only at hSw
    go_simp
    try with_reducible rfl
  try simp only [Act.put, List.getElem_toArray, List.getElem_cons_succ, List.getElem_cons_zero, List.setIfInBounds_toArray, List.set_cons_zero, List.set_cons_succ]
  refine wpAnyH_ready (rs := [2]) (by kernel_rfl) (by simp) ?_
  refine AllReadyH.cons rfl (fun K hK => ?_) (AllReadyH.nil)
  go_simp
  go_at_call 25
  refine (toP_any Q_s.out (by omega)).mono ?_
  rintro e' Wsc ⟨yp, rfl, ho, hb⟩
  have HB_sc := Lib.hid (bt HB_s.out hb)
  have R_sc := Lib.hid (R_s.out.below hb)
  have V_sc := Lib.hid (V_s.out.below hb)
  have J_sc := Lib.hid (J_s.out.below hb)
  have Q_sc := Lib.hid (Q_s.out.below hb)
  have A_sc := Lib.hid (A_s.out.below hb)
  have CS_sc := Lib.hid (CS_s.out.below hb)
  have X_sc := Lib.hid (X_s.out.below hb)
  have B_sc := Lib.hid (B_s.out.below hb)
  have QCS_sc := Lib.hid (QCS_s.out.below hb)
  have K_sc := Lib.hid (K_s.out.below hb)
  have E_sc := Lib.hid (E_s.out.below hb)
  have CP_sc := Lib.hid (ho.toIn)
  clear ho
  clear hb
  go_wp2_with fail
  refine hK.out _ _ (show _ from ⟨⟨K_sc.out.1, K_sc.out.2.1, K_sc.out.2.2.1⟩, ⟨J_sc.out.1, J_sc.out.2.1, J_sc.out.2.2.1⟩⟩) (fun hHeld => ?_)
  clear hK K
  try simp only [Act.put, List.getElem_toArray, List.getElem_cons_succ, List.getElem_cons_zero, List.setIfInBounds_toArray, List.set_cons_zero, List.set_cons_succ]
  refine wpAnyH_ready (rs := [3]) (by kernel_rfl) (by simp) ?_
  refine AllReadyH.cons rfl (fun K hK => ?_) (AllReadyH.nil)
  go_simp
  go_at_call 16
  refine (eqP_any E_sc.out CP_sc.out (by omega)).mono ?_
  rintro e' Wscd ⟨rfl, hb⟩
  have HB_scd := Lib.hid (bt HB_sc.out hb)
  have R_scd := Lib.hid (R_sc.out.below hb)
  have V_scd := Lib.hid (V_sc.out.below hb)
  have J_scd := Lib.hid (J_sc.out.below hb)
  have Q_scd := Lib.hid (Q_sc.out.below hb)
  have A_scd := Lib.hid (A_sc.out.below hb)
  have CS_scd := Lib.hid (CS_sc.out.below hb)
  have X_scd := Lib.hid (X_sc.out.below hb)
  have B_scd := Lib.hid (B_sc.out.below hb)
  have QCS_scd := Lib.hid (QCS_sc.out.below hb)
  have K_scd := Lib.hid (K_sc.out.below hb)
  have E_scd := Lib.hid (E_sc.out.below hb)
  have CP_scd := Lib.hid (CP_sc.out.below hb)
  clear hb
  go_wp2_with fail
  refine hK.out _ _ (show _ from ⟨⟨K_scd.out.1, K_scd.out.2.1, K_scd.out.2.2.1⟩, ⟨J_scd.out.1, J_scd.out.2.1, J_scd.out.2.2.1⟩⟩) (fun hHeld => ?_)
  clear hK K
  try simp only [Act.put, List.getElem_toArray, List.getElem_cons_succ, List.getElem_cons_zero, List.setIfInBounds_toArray, List.set_cons_zero, List.set_cons_succ]
  refine wpAnyH_take (i := 4) (v := ?_) rfl (by kernel_rfl) (by kernel_rfl) (by kernel_rfl) (fun _ _ _ h => h) (Or.inl ⟨by kernel_rfl, ?_⟩) (by assumption) ?_
  rotate_left 1
  · intro w9 hSw
    try dsimp only at hSw
    go_simp
    try with_reducible rfl
  try simp only [Act.put, List.getElem_toArray, List.getElem_cons_succ, List.getElem_cons_zero, List.setIfInBounds_toArray, List.set_cons_zero, List.set_cons_succ]
  refine wpAnyH_done (by kernel_rfl) ?_ _
  have HB_11 := Lib.hid HB_scd.out
  have R_11 := Lib.hid R_scd.out
  have V_11 := Lib.hid V_scd.out
  have J_11 := Lib.hid J_scd.out
  have Q_11 := Lib.hid Q_scd.out
  have A_11 := Lib.hid A_scd.out
  have CS_11 := Lib.hid CS_scd.out
  have X_11 := Lib.hid X_scd.out
  have B_11 := Lib.hid B_scd.out
  have QCS_11 := Lib.hid QCS_scd.out
  have K_11 := Lib.hid K_scd.out
  have E_11 := Lib.hid E_scd.out
  go_wp2
  go_ret
  exact ⟨rfl, HB_11.out⟩

/-! ### The row's step -/
set_option maxRecDepth 100000 in
theorem lifted (os : Os) (started : os.Started) (H : Type) (enc : TypeId × Value → H) :
    ReturnsInHanded {} Try.checked os 8 .any (Rows.fnExactVerifySumSpec.pre6 enc Try.prog Try.f8 Rows.fnExactVerifySumRow.domain false) (Rows.fnExactVerifySumSpec.post enc Try.prog Try.f8 false true false false) := by
  refine returnsInHanded_of_change (C := Try.checked) own started (by kernel_rfl) Try.func8
    (ChangeSpec.witness6 (enc := enc) (C := Try.checked) false ⟨#[], #[.agg #[.int .i64 0, .int .i64 0, .int .i64 0], .agg #[.int .i64 0, .slice none 0 0], .slice none 0 0, .int .i64 0, .agg #[.slice none 0 0, .slice none 0 0, .slice none 0 0]], []⟩ 8 (by kernel_rfl) (by kernel_rfl) (by kernel_rfl) (by kernel_rfl)) ?_
  intro W base args ds gs before hval0 hW hcnd _
  have hval : ∀ (j : Nat) t v, Try.f8.params[j]? = some t → args[j]? = some v → Value.okWide Try.prog W .any base t v := hval0
  have hW' := hW
  obtain ⟨p, q, hA0, hV, rfl, hfz, hnd⟩ := hW
  have hA : DataW.TrodAll enc Try.prog W 0 (fun _ => true) true Try.f8.params.toList args.toList ds p := hA0
  rw [Try.params8] at hA hval
  obtain ⟨v0, vs0, d0, ds0, p0, q0, hargs, rfl, rfl, h0, r0⟩ := trodAll_cons hA
  obtain ⟨v1, vs1, d1, ds1, p1, q1, rfl, rfl, rfl, h1, r1⟩ := trodAll_cons r0
  obtain ⟨v2, vs2, d2, ds2, p2, q2, rfl, rfl, rfl, h2, r2⟩ := trodAll_cons r1
  obtain ⟨v3, vs3, d3, ds3, p3, q3, rfl, rfl, rfl, h3, r3⟩ := trodAll_cons r2
  obtain ⟨v4, vs4, d4, ds4, p4, q4, rfl, rfl, rfl, h4, r4⟩ := trodAll_cons r3
  obtain ⟨rfl, rfl, rfl⟩ := trodAll_nil r4
  obtain rfl : args = #[v0, v1, v2, v3, v4] := by cases args; simp_all
  obtain ⟨rfl, rfl⟩ := trodVars_none hV
  have k0 := h0
  have lt0 : ∀ x ∈ p0, x.block < W.heap.size := by obtain ⟨m, hm⟩ := k0; exact DataW.trod_lt m _ _ _ hm
  obtain ⟨c0_0, c0_1, c0_2, y0_0, y0_1, y0_2, m0, rfl, rfl, rfl, hy0_0, hy0_1, hy0_2⟩ := open_agg3 Try.underlying23 (by kernel_rfl) (by kernel_rfl) (hval 0 23 v0 rfl rfl) h0
  obtain ⟨P0, e0_0, _, wP0⟩ := DataW.trod_int Try.underlying3 hy0_0
  obtain rfl := (List.cons.inj e0_0).1
  obtain ⟨Q0, e0_1, _, wQ0⟩ := DataW.trod_int Try.underlying3 hy0_1
  obtain rfl := (List.cons.inj e0_1).1
  obtain ⟨G0, e0_2, _, wG0⟩ := DataW.trod_int Try.underlying3 hy0_2
  obtain rfl := (List.cons.inj e0_2).1
  have k1 := h1
  have lt1 : ∀ x ∈ p1, x.block < W.heap.size := by obtain ⟨m, hm⟩ := k1; exact DataW.trod_lt m _ _ _ hm
  obtain ⟨H1, y1, hs1, rfl, bl1, bm1⟩ := inBas_open (hval 1 26 v1 rfl rfl) h1
  have k2 := h2
  have lt2 : ∀ x ∈ p2, x.block < W.heap.size := by obtain ⟨m, hm⟩ := k2; exact DataW.trod_lt m _ _ _ hm
  obtain ⟨a2, len2, cap2, rfl⟩ := okWide_slice Try.underlying24 (hval 2 24 v2 rfl rfl)
  obtain ⟨z2, w2⟩ : ∃ zs, IsRow .i64 W a2 len2 cap2 zs := by
    obtain ⟨fuel, hf⟩ := h2
    rcases open_ints Try.underlying24 Try.underlying3 (by kernel_rfl) hf with ⟨hcs, _⟩ | ⟨x, l, c, zs, hcs, _, hl, hm, hz, _, hcell, hwz⟩
    · simp [Value.cells] at hcs
      obtain ⟨rfl, rfl, rfl⟩ := hcs
      exact ⟨[], .inl ⟨rfl, rfl, rfl, rfl⟩⟩
    · simp [Value.cells] at hcs
      obtain ⟨rfl, rfl, rfl⟩ := hcs
      exact ⟨zs, .inr ⟨_, rfl, hl, hm, by simpa using hz, hcell, hwz⟩⟩
  obtain ⟨a3, rfl, rfl, rfl, w3⟩ := open_int Try.underlying3 (hval 3 3 v3 rfl rfl) h3
  have k4 := h4
  have lt4 : ∀ x ∈ p4, x.block < W.heap.size := by obtain ⟨m, hm⟩ := k4; exact DataW.trod_lt m _ _ _ hm
  have w4 := inP_open (hval 4 44 v4 rfl rfl) h4
  clear hA0 hval0
  refine (walk P0 Q0 G0 H1 y1 a2 len2 cap2 z2 a3 _ W wP0 wQ0 wG0 ⟨hs1, bl1, bm1⟩ w2 w3 w4).mono fun e W' ⟨he, bel⟩ => ?_
  subst he
  exact ⟨_, rfl, _, _, _, [], _, [], hW', trodAll_mk1 (shut_bool Try.underlying4 _), (trodAll_cons_mk (Below.trod laidOut (by kernel_rfl) (of_decide_eq_true (by kernel_rfl)) k0 bel lt0) (trodAll_cons_mk (Below.trod laidOut (by kernel_rfl) (of_decide_eq_true (by kernel_rfl)) k1 bel lt1) (trodAll_cons_mk (Below.trod laidOut (by kernel_rfl) (of_decide_eq_true (by kernel_rfl)) k2 bel lt2) (trodAll_cons_mk (shut_int Try.underlying3 w3) (trodAll_cons_mk (Below.trod laidOut (by kernel_rfl) (of_decide_eq_true (by kernel_rfl)) k4 bel lt4) trodAll_mk0))))), rfl, bel.frame _, fun h => by cases h⟩

theorem over : Rows.fnExactVerifySumRow.holds Try.pinned (OpenSpec.ofChange Rows.fnExactVerifySumSpec) :=
  OpenClaim.holds_of_wide 8 Try.f8 rfl rfl rfl rfl rfl rfl rfl ⟨rfl, rfl, rfl, rfl, rfl⟩ rfl rfl rfl rfl rfl (by kernel_rfl) Try.func8
    (show joinedFacts Try.prog 8 Try.f8 Rows.fnExactVerifySumSpec Rows.fnExactVerifySumRow = true by unfold joinedFacts; rw [Head.make, Head.lifts, Head.enters]; kernel_rfl)
    (of_decide_eq_true (by kernel_rfl)) (by unfold Func.isWrapper; first | (rw [if_pos (by decide +kernel)]; kernel_rfl) | (rw [if_neg (by decide +kernel)]; exact ⟨rfl, rfl⟩))
    (fun os started H enc _ => lifted os started H enc)

/-- The statement. -/
theorem proved : Rows.FnExactVerifySumSaid := over
#print axioms proved
end Go.Proofs.Ytblclghbabhdlaa.fnExactVerifySum
