/-
For every group, all bases and every further argument the law FnExactVerifyOpening returns true: the program's VerifyOpening answers as the reference's does, and leaves its arguments as they were.
No condition.
-/
import Derived.Test.YtdnofcpobpoehaaRows
import Derived.WalkKit
import Derived.ProofKit
import Derived.OpenShut
import Derived.ShutString
import Derived.ChangeOld
import Derived.Below
import Derived.Lib.SmallJoins
import Derived.Test.YtdnofcpobpoehaaComG
import Derived.Test.YtdnofcpobpoehaaComR
import Derived.Test.YtdnofcpobpoehaaOpP
import Derived.Deep.RegionHeld3
import Derived.Test.YtdnofcpobpoehaaFacts
namespace Go.Proofs.Ytdnofcpobpoehaa.fnExactVerifyOpening
open Go.Joins Go.ChangeShapes Go.WideShapes Go.ChangeAt Go.RowKit Go.Deep
open Go.ChangeMaps (open_string shut_string)
set_option linter.unusedVariables false

theorem own : ownKnob Try.prog.godebug = none := by kernel_rfl
theorem laidOut : laidOutB Try.prog = true := by kernel_rfl

/-- What the walk is told of a slice of integers that came in: it is nil; or it leads to a row of 'cap' cells that hold the numbers 'zs'. -/
def IsRow (k : IntKind) (w : World) (a : Option Addr) (len cap : Nat) (zs : List Int) : Prop :=
  (a = none ∧ len = 0 ∧ cap = 0 ∧ zs = []) ∨
  ∃ x, a = some x ∧ len ≤ cap ∧ cap ≤ maxLen ∧ zs.length = cap ∧ (∀ i, i < zs.length → w.cell? (x.add i) = some (.int k (zs.getD i 0))) ∧ ∀ n ∈ zs, (Lit.int k n).wf = true

set_option linter.unusedSimpArgs false

/-! ### STEP 1: the walk: the Go text returns true and writes nothing that was there -/
set_option maxRecDepth 100000 in
set_option maxHeartbeats 3200000 in
theorem walk (P0 Q0 G0 : Int) (H1 : Int) (y1 : Value) (a2 : Int) (a3 : Value) (w : World) (wP0 : (Lit.int .i64 P0).wf = true) (wQ0 : (Lit.int .i64 Q0).wf = true) (wG0 : (Lit.int .i64 G0).wf = true) (w1 : ∃ hs, InI w.heap.size w y1 hs ∧ hs.length ≤ maxLen) (w2 : (Lit.int .i64 a2).wf = true) (w3 : ∃ q : PrD, InP w.heap.size w a3 q ∧ q.c.length ≤ maxLen ∧ q.h.length ≤ maxLen ∧ q.r.length ≤ maxLen) :
    Calls Try.prog 10 #[.agg #[.int .i64 P0, .int .i64 Q0, .int .i64 G0], .agg #[.int .i64 H1, y1], .int .i64 a2, a3] w fun e w' => e = .returned (.bool true) ∧ Below w.heap.size w w' := by
  obtain ⟨hs, hz, hm⟩ := w1
  obtain ⟨ya, yc, rfl⟩ := hz.shape
  obtain ⟨q, hq, hq1, hq2, hq3⟩ := w3
  obtain ⟨qa, qa1, qb, qb1, qc, qc1, rfl, _, _, _⟩ := hq.parts
  have hal : Below w.heap.size w (((w.alloc (.cells #[.int .i64 P0, .int .i64 Q0, .int .i64 G0] 23)).alloc (.cells #[.int .i64 H1, .slice ya hs.length yc] 26)).alloc (.cells #[.slice qa q.c.length qa1, .slice qb q.h.length qb1, .slice qc q.r.length qc1] 58)) := bt (bt (ba _ _) (ba _ _)) (ba _ _)
  have R_0 := Lib.hid (((gr_at w w.heap.size rfl P0 Q0 G0 23).below (ba _ (.cells #[.int .i64 H1, .slice ya hs.length yc] 26))).below (ba _ (.cells #[.slice qa q.c.length qa1, .slice qb q.h.length qb1, .slice qc q.r.length qc1] 58)))
  have V_0 := Lib.hid ((d2_at (w.alloc (.cells #[.int .i64 P0, .int .i64 Q0, .int .i64 G0] 23)) (w.heap.size + 1) (by simp) (.int .i64 H1) (.slice ya hs.length yc) 26).below (ba _ (.cells #[.slice qa q.c.length qa1, .slice qb q.h.length qb1, .slice qc q.r.length qc1] 58)))
  have hv := b3_new ((w.alloc (.cells #[.int .i64 P0, .int .i64 Q0, .int .i64 G0] 23)).alloc (.cells #[.int .i64 H1, .slice ya hs.length yc] 26)) (.slice qa q.c.length qa1) (.slice qb q.h.length qb1) (.slice qc q.r.length qc1) 58
  rw [show ((w.alloc (.cells #[.int .i64 P0, .int .i64 Q0, .int .i64 G0] 23)).alloc (.cells #[.int .i64 H1, .slice ya hs.length yc] 26)).heap.size = w.heap.size + 2 by simp] at hv
  have J_0 := Lib.hid hv
  have Q_0 := Lib.hid (hq.below hal)
  clear hv
  have A_0 := Lib.hid (hz.below hal)
  have HB_0 := Lib.hid hal
  clear hal hz hq 
  by_cases bq : 1048576 < (hs.length : Int)
  · have E2 := Lib.hid (show szV hs.length 1048576 = -1 by unfold szV; rw [if_neg (by omega)])
    obtain ⟨v0, v1⟩ := V_0.out
    go_enter Try.func10, Try.ntmps10
    go_wp2_with fail
    refine (szBas_any A_0.out (by omega) (by omega) hm).mono ?_
    rw [E2.out]
    rintro e u1 ⟨rfl, hb⟩
    have HB_1 := Lib.hid (bt HB_0.out hb)
    clear hb v0 v1
    go_wp2
    go_ret
    exact ⟨rfl, HB_1.out⟩
  have E2 := Lib.hid (show szV hs.length 1048576 = 1048576 - (hs.length : Int) by unfold szV; rw [if_pos (by omega)])
  have hsl : hs.length ≤ 1048576 := by omega
  have hqi : 0 ≤ 1048576 - (hs.length : Int) := by omega
  obtain ⟨lf, hlf⟩ : ∃ lf : Int, 1048576 - (hs.length : Int) = lf := ⟨_, rfl⟩
  rw [hlf] at hqi
  have E3 := E2.out
  rw [hlf] at E3
  clear E2
  have E2 := Lib.hid E3
  have hlf1 : lf ≤ 1048576 := by omega
  clear E3 hlf
  by_cases bp : lf < (q.n : Int)
  · have E4 := Lib.hid (show szV q.n lf = -1 by unfold szV; rw [if_neg (by omega)])
    obtain ⟨v0, v1⟩ := V_0.out
    go_enter Try.func10, Try.ntmps10
    go_wp2_with fail
    refine (szBas_any A_0.out (by omega) (by omega) hm).mono ?_
    rw [E2.out]
    rintro e u1 ⟨rfl, hb⟩
    have HB_1 := Lib.hid (bt HB_0.out hb)
    have Q_1 := Lib.hid (Q_0.out.below hb)
    have J_1 := Lib.hid (J_0.out.below hb)
    clear hb v0 v1
    obtain ⟨j0, j1, j2, _⟩ := J_1.out
    go_wp2_with fail
    refine (szP_any Q_1.out hqi hlf1 hq1 hq2 hq3).mono ?_
    rw [E4.out]
    rintro e u2 ⟨rfl, hb⟩
    have HB_2 := Lib.hid (bt HB_1.out hb)
    clear hb j0 j1 j2
    go_wp2
    go_ret
    exact ⟨rfl, HB_2.out⟩
  have E4 := Lib.hid (show szV q.n lf = lf - (q.n : Int) by unfold szV; rw [if_pos (by omega)])
  have hqn : q.n ≤ 1048576 := by omega
  have hqj : 0 ≤ lf - (q.n : Int) := by omega
  obtain ⟨k1, hk1⟩ : ∃ k, voV P0 Q0 G0 H1 hs a2 q = k := ⟨_, rfl⟩
  have K1 := Lib.hid hk1
  clear hk1
  obtain ⟨k2, hk2⟩ : ∃ k, voB P0 Q0 G0 H1 hs a2 = k := ⟨_, rfl⟩
  have K2 := Lib.hid hk2
  clear hk2
  obtain ⟨v0, v1⟩ := V_0.out
  go_enter Try.func10, Try.ntmps10
  go_wp2_with fail
  refine (szBas_any A_0.out (by omega) (by omega) hm).mono ?_
  rw [E2.out]
  rintro e u1 ⟨rfl, hb⟩
  clear v0 v1
  have HB_1 := Lib.hid (bt HB_0.out hb)
  have R_1 := Lib.hid (R_0.out.below hb)
  have V_1 := Lib.hid (V_0.out.below hb)
  have J_1 := Lib.hid (J_0.out.below hb)
  have Q_1 := Lib.hid (Q_0.out.below hb)
  have A_1 := Lib.hid (A_0.out.below hb)
  clear hb HB_0 R_0 V_0 J_0 Q_0 A_0
  obtain ⟨j0, j1, j2, _⟩ := J_1.out
  go_wp2_with fail
  refine (szP_any Q_1.out hqi hlf1 hq1 hq2 hq3).mono ?_
  rw [E4.out]
  rintro e u2 ⟨rfl, hb⟩
  have HB_2 := Lib.hid (bt HB_1.out hb)
  have R_2 := Lib.hid (R_1.out.below hb)
  have V_2 := Lib.hid (V_1.out.below hb)
  have J_2 := Lib.hid (J_1.out.below hb)
  have Q_2 := Lib.hid (Q_1.out.below hb)
  have A_2 := Lib.hid (A_1.out.below hb)
  clear hb HB_1 R_1 V_1 J_1 Q_1 A_1
  clear j0 j1 j2
  go_wp2_with fail
  have hbd : Below u2.heap.size u2 u2.drew := (Below.refl _ u2).drew
  have HB_s := Lib.hid (bt HB_2.out hbd)
  have R_s := Lib.hid (R_2.out.below hbd)
  have V_s := Lib.hid (V_2.out.below hbd)
  have J_s := Lib.hid (J_2.out.below hbd)
  have Q_s := Lib.hid (Q_2.out.below hbd)
  have A_s := Lib.hid (A_2.out.below hbd)
  clear hbd
  refine wp_region_held_drew (S := (fun w' => (w'.cell? ⟨w.heap.size, 0, none⟩ = some (.int .i64 P0) ∧ w'.cell? ⟨w.heap.size, 1, none⟩ = some (.int .i64 Q0) ∧ w'.cell? ⟨w.heap.size, 2, none⟩ = some (.int .i64 G0)) ∧ (w'.cell? ⟨w.heap.size + 1, 0, none⟩ = some (.int .i64 H1) ∧ w'.cell? ⟨w.heap.size + 1, 1, none⟩ = some (.slice ya hs.length yc)) ∧ (w'.cell? ⟨w.heap.size + 2, 0, none⟩ = some (.slice qa q.c.length qa1) ∧ w'.cell? ⟨w.heap.size + 2, 1, none⟩ = some (.slice qb q.h.length qb1) ∧ w'.cell? ⟨w.heap.size + 2, 2, none⟩ = some (.slice qc q.r.length qc1)))) (by kernel_rfl) (show _ from ⟨⟨R_2.out.1, R_2.out.2.1, R_2.out.2.2⟩, ⟨V_2.out.1, V_2.out.2⟩, ⟨J_2.out.1, J_2.out.2.1, J_2.out.2.2.1⟩⟩) (fun hHeld => ?_)
  generalize hW0 : u2.drew = Ws at *
  clear hW0
  refine wpAnyH_take (i := 0) (v := ?_) rfl (by kernel_rfl) (by kernel_rfl) (by kernel_rfl) (fun _ _ _ h => h) (Or.inl ⟨by kernel_rfl, ?_⟩) (by assumption) ?_
  rotate_left 1
  · intro w9 hSw
    try dsimp only at hSw
    go_simp
    try with_reducible rfl
  try simp only [Act.put, List.getElem_toArray, List.getElem_cons_succ, List.getElem_cons_zero, List.setIfInBounds_toArray, List.set_cons_zero, List.set_cons_succ]
  refine wpAnyH_take (i := 2) (v := ?_) rfl (by kernel_rfl) (by kernel_rfl) (by kernel_rfl) (fun _ _ _ h => h) (Or.inl ⟨by kernel_rfl, ?_⟩) (by assumption) ?_
  rotate_left 1
  · intro w9 hSw
    try dsimp only at hSw
    go_simp
    try with_reducible rfl
  try simp only [Act.put, List.getElem_toArray, List.getElem_cons_succ, List.getElem_cons_zero, List.setIfInBounds_toArray, List.set_cons_zero, List.set_cons_succ]
  refine wpAnyH_take (i := 4) (v := ?_) rfl (by kernel_rfl) (by kernel_rfl) (by kernel_rfl) (fun _ _ _ h => h) (Or.inl ⟨by kernel_rfl, ?_⟩) (by assumption) ?_
  rotate_left 1
  · intro w9 hSw
    try dsimp only at hSw
    go_simp
    try with_reducible rfl
  try simp only [Act.put, List.getElem_toArray, List.getElem_cons_succ, List.getElem_cons_zero, List.setIfInBounds_toArray, List.set_cons_zero, List.set_cons_succ]
  refine wpAnyH_take (i := 5) (v := ?_) rfl (by kernel_rfl) (by kernel_rfl) (by kernel_rfl) (fun _ _ _ h => h) (Or.inl ⟨by kernel_rfl, ?_⟩) (by assumption) ?_
  rotate_left 1
  · intro w9 hSw
    try dsimp only at hSw
    go_simp
    try with_reducible rfl
  try simp only [Act.put, List.getElem_toArray, List.getElem_cons_succ, List.getElem_cons_zero, List.setIfInBounds_toArray, List.set_cons_zero, List.set_cons_succ]
  refine wpAnyH_ready (rs := [1]) (by kernel_rfl) (by simp) ?_
  refine AllReadyH.cons rfl (fun K hK => ?_) (AllReadyH.nil)
  go_simp
  go_at_call 17
  refine (toGroup_any _ _ _ _).mono ?_
  rintro e' Wsb ⟨rfl, hb⟩
  have HB_sb := Lib.hid (bt HB_s.out hb)
  have R_sb := Lib.hid (R_s.out.below hb)
  have V_sb := Lib.hid (V_s.out.below hb)
  have J_sb := Lib.hid (J_s.out.below hb)
  have Q_sb := Lib.hid (Q_s.out.below hb)
  have A_sb := Lib.hid (A_s.out.below hb)
  clear hb
  go_wp2_with fail
  refine hK.out _ _ (show _ from ⟨⟨R_sb.out.1, R_sb.out.2.1, R_sb.out.2.2⟩, ⟨V_sb.out.1, V_sb.out.2⟩, ⟨J_sb.out.1, J_sb.out.2.1, J_sb.out.2.2.1⟩⟩) (fun hHeld => ?_)
  clear hK K
  try simp only [Act.put, List.getElem_toArray, List.getElem_cons_succ, List.getElem_cons_zero, List.setIfInBounds_toArray, List.set_cons_zero, List.set_cons_succ]
  refine wpAnyH_ready (rs := [3]) (by kernel_rfl) (by simp) ?_
  refine AllReadyH.cons rfl (fun K hK => ?_) (AllReadyH.nil)
  go_simp
  go_at_call 18
  refine (toBas_any A_sb.out (by omega)).mono ?_
  rintro e' Wsbd ⟨yw, rfl, ho, hb⟩
  have HB_sbd := Lib.hid (bt HB_sb.out hb)
  have R_sbd := Lib.hid (R_sb.out.below hb)
  have V_sbd := Lib.hid (V_sb.out.below hb)
  have J_sbd := Lib.hid (J_sb.out.below hb)
  have Q_sbd := Lib.hid (Q_sb.out.below hb)
  have A_sbd := Lib.hid (A_sb.out.below hb)
  have CB_sbd := Lib.hid (ho.toIn)
  clear ho
  clear hb
  go_wp2_with fail
  refine hK.out _ _ (show _ from ⟨⟨R_sbd.out.1, R_sbd.out.2.1, R_sbd.out.2.2⟩, ⟨V_sbd.out.1, V_sbd.out.2⟩, ⟨J_sbd.out.1, J_sbd.out.2.1, J_sbd.out.2.2.1⟩⟩) (fun hHeld => ?_)
  clear hK K
  try simp only [Act.put, List.getElem_toArray, List.getElem_cons_succ, List.getElem_cons_zero, List.setIfInBounds_toArray, List.set_cons_zero, List.set_cons_succ]
  refine wpAnyH_ready (rs := [6]) (by kernel_rfl) (by simp) ?_
  refine AllReadyH.cons rfl (fun K hK => ?_) (AllReadyH.nil)
  go_simp
  go_at_call 42
  refine (toP_any Q_sbd.out (by omega)).mono ?_
  rintro e' Wsbdg ⟨yp, rfl, ho, hb⟩
  have HB_sbdg := Lib.hid (bt HB_sbd.out hb)
  have R_sbdg := Lib.hid (R_sbd.out.below hb)
  have V_sbdg := Lib.hid (V_sbd.out.below hb)
  have J_sbdg := Lib.hid (J_sbd.out.below hb)
  have Q_sbdg := Lib.hid (Q_sbd.out.below hb)
  have A_sbdg := Lib.hid (A_sbd.out.below hb)
  have CB_sbdg := Lib.hid (CB_sbd.out.below hb)
  have CP_sbdg := Lib.hid (ho.toIn)
  clear ho
  clear hb
  go_wp2_with fail
  refine hK.out _ _ (show _ from ⟨⟨R_sbdg.out.1, R_sbdg.out.2.1, R_sbdg.out.2.2⟩, ⟨V_sbdg.out.1, V_sbdg.out.2⟩, ⟨J_sbdg.out.1, J_sbdg.out.2.1, J_sbdg.out.2.2.1⟩⟩) (fun hHeld => ?_)
  clear hK K
  try simp only [Act.put, List.getElem_toArray, List.getElem_cons_succ, List.getElem_cons_zero, List.setIfInBounds_toArray, List.set_cons_zero, List.set_cons_succ]
  refine wpAnyH_ready (rs := [7]) (by kernel_rfl) (by simp) ?_
  refine AllReadyH.cons rfl (fun K hK => ?_) (AllReadyH.nil)
  go_simp
  go_at_call 41
  refine (sVerifyOpening_any P0 Q0 G0 H1 a2 hsl hqn CB_sbdg.out CP_sbdg.out).mono ?_
  rw [K1.out, K2.out]
  rintro e' Wsbdgh ⟨rfl, hb⟩
  have HB_sbdgh := Lib.hid (bt HB_sbdg.out hb)
  have R_sbdgh := Lib.hid (R_sbdg.out.below hb)
  have V_sbdgh := Lib.hid (V_sbdg.out.below hb)
  have J_sbdgh := Lib.hid (J_sbdg.out.below hb)
  have Q_sbdgh := Lib.hid (Q_sbdg.out.below hb)
  have A_sbdgh := Lib.hid (A_sbdg.out.below hb)
  have CB_sbdgh := Lib.hid (CB_sbdg.out.below hb)
  have CP_sbdgh := Lib.hid (CP_sbdg.out.below hb)
  clear hb
  go_wp2_with fail
  refine hK.out _ _ (show _ from ⟨⟨R_sbdgh.out.1, R_sbdgh.out.2.1, R_sbdgh.out.2.2⟩, ⟨V_sbdgh.out.1, V_sbdgh.out.2⟩, ⟨J_sbdgh.out.1, J_sbdgh.out.2.1, J_sbdgh.out.2.2.1⟩⟩) (fun hHeld => ?_)
  clear hK K
  try simp only [Act.put, List.getElem_toArray, List.getElem_cons_succ, List.getElem_cons_zero, List.setIfInBounds_toArray, List.set_cons_zero, List.set_cons_succ]
  refine wpAnyH_take (i := 8) (v := ?_) rfl (by kernel_rfl) (by kernel_rfl) (by kernel_rfl) (fun _ _ _ h => h) (Or.inl ⟨by kernel_rfl, ?_⟩) (by assumption) ?_
  rotate_left 1
  · intro w9 hSw
    try dsimp only at hSw
    go_simp
    try with_reducible rfl
  try simp only [Act.put, List.getElem_toArray, List.getElem_cons_succ, List.getElem_cons_zero, List.setIfInBounds_toArray, List.set_cons_zero, List.set_cons_succ]
  refine wpAnyH_take (i := 9) (v := ?_) rfl (by kernel_rfl) (by kernel_rfl) (by kernel_rfl) (fun _ _ _ h => h) (Or.inl ⟨by kernel_rfl, ?_⟩) (by assumption) ?_
  rotate_left 1
  · intro w9 hSw
    try dsimp only at hSw
    go_simp
    try with_reducible rfl
  try simp only [Act.put, List.getElem_toArray, List.getElem_cons_succ, List.getElem_cons_zero, List.setIfInBounds_toArray, List.set_cons_zero, List.set_cons_succ]
  refine wpAnyH_take (i := 10) (v := ?_) rfl (by kernel_rfl) (by kernel_rfl) (by kernel_rfl) (fun _ _ _ h => h) (Or.inl ⟨by kernel_rfl, ?_⟩) (by assumption) ?_
  rotate_left 1
  · intro w9 hSw
    try dsimp only at hSw
    go_simp
    try with_reducible rfl
  try simp only [Act.put, List.getElem_toArray, List.getElem_cons_succ, List.getElem_cons_zero, List.setIfInBounds_toArray, List.set_cons_zero, List.set_cons_succ]
  refine wpAnyH_take (i := 11) (v := ?_) rfl (by kernel_rfl) (by kernel_rfl) (by kernel_rfl) (fun _ _ _ h => h) (Or.inl ⟨by kernel_rfl, ?_⟩) (by assumption) ?_
  rotate_left 1
  · intro w9 hSw
    try dsimp only at hSw
    go_simp
    try with_reducible rfl
  try simp only [Act.put, List.getElem_toArray, List.getElem_cons_succ, List.getElem_cons_zero, List.setIfInBounds_toArray, List.set_cons_zero, List.set_cons_succ]
  refine wpAnyH_take (i := 12) (v := ?_) rfl (by kernel_rfl) (by kernel_rfl) (by kernel_rfl) (fun _ _ _ h => h) (Or.inl ⟨by kernel_rfl, ?_⟩) (by assumption) ?_
  rotate_left 1
  · intro w9 hSw
    try dsimp only at hSw
    go_simp
    try with_reducible rfl
  try simp only [Act.put, List.getElem_toArray, List.getElem_cons_succ, List.getElem_cons_zero, List.setIfInBounds_toArray, List.set_cons_zero, List.set_cons_succ]
  refine wpAnyH_done (by kernel_rfl) ?_ _
  have HB_3 := Lib.hid HB_sbdgh.out
  have R_3 := Lib.hid R_sbdgh.out
  have V_3 := Lib.hid V_sbdgh.out
  have J_3 := Lib.hid J_sbdgh.out
  have Q_3 := Lib.hid Q_sbdgh.out
  have A_3 := Lib.hid A_sbdgh.out
  obtain ⟨v0, v1⟩ := V_3.out
  go_wp2_with fail
  refine (toBas_any A_3.out (by omega)).mono ?_
  rintro e u3 ⟨yx, rfl, ho, hb1⟩
  obtain ⟨xa, xc, rfl⟩ := ho.toIn.shape
  clear v0 v1
  have hba := ba u3 (.cells #[.int .i64 H1, .slice xa hs.length xc] 31)
  have hb := bt hb1 hba
  have HB_4 := Lib.hid (bt HB_3.out hb)
  have R_4 := Lib.hid (R_3.out.below hb)
  have V_4 := Lib.hid (V_3.out.below hb)
  have J_4 := Lib.hid (J_3.out.below hb)
  have Q_4 := Lib.hid (Q_3.out.below hb)
  have A_4 := Lib.hid (A_3.out.below hb)
  have X_4 := Lib.hid (d2_at u3 u3.heap.size rfl (.int .i64 H1) (.slice xa hs.length xc) 31)
  have B_4 := Lib.hid (ho.toIn.below hba)
  clear hb HB_3 R_3 V_3 J_3 Q_3 A_3
  clear ho hb1 hba
  obtain ⟨j0, j1, j2, _⟩ := J_4.out
  obtain ⟨x0, x1⟩ := X_4.out
  go_wp2_with fail
  refine (toP_any Q_4.out (by omega)).mono ?_
  rintro e u4 ⟨yy, rfl, ho, hb1⟩
  obtain ⟨pa, pa1, pb, pb1, pc, pc1, rfl, _, _, _⟩ := ho.toIn.parts
  clear j0 j1 j2
  clear x0 x1
  have hba := ba u4 (.cells #[.slice pa q.c.length pa1, .slice pb q.h.length pb1, .slice pc q.r.length pc1] 50)
  have hb := bt hb1 hba
  have HB_5 := Lib.hid (bt HB_4.out hb)
  have R_5 := Lib.hid (R_4.out.below hb)
  have V_5 := Lib.hid (V_4.out.below hb)
  have J_5 := Lib.hid (J_4.out.below hb)
  have Q_5 := Lib.hid (Q_4.out.below hb)
  have A_5 := Lib.hid (A_4.out.below hb)
  have X_5 := Lib.hid (X_4.out.below hb)
  have B_5 := Lib.hid (B_4.out.below hb)
  have K_5 := Lib.hid (b3_new u4 (.slice pa q.c.length pa1) (.slice pb q.h.length pb1) (.slice pc q.r.length pc1) 50)
  have E_5 := Lib.hid (ho.toIn.below hba)
  clear hb HB_4 R_4 V_4 J_4 Q_4 A_4 X_4 B_4
  clear ho hb1 hba
  obtain ⟨k0, k1, k2, _⟩ := K_5.out
  go_wp2_with fail
  clear k0 k1 k2
  generalize hW9 : (u4.alloc (.cells #[.slice pa q.c.length pa1, .slice pb q.h.length pb1, .slice pc q.r.length pc1] 50)) = u9 at *
  clear hW9
  go_wp2_with fail
  have hbd : Below u9.heap.size u9 u9.drew := (Below.refl _ u9).drew
  have HB_s := Lib.hid (bt HB_5.out hbd)
  have R_s := Lib.hid (R_5.out.below hbd)
  have V_s := Lib.hid (V_5.out.below hbd)
  have J_s := Lib.hid (J_5.out.below hbd)
  have Q_s := Lib.hid (Q_5.out.below hbd)
  have A_s := Lib.hid (A_5.out.below hbd)
  have X_s := Lib.hid (X_5.out.below hbd)
  have B_s := Lib.hid (B_5.out.below hbd)
  have K_s := Lib.hid (K_5.out.below hbd)
  have E_s := Lib.hid (E_5.out.below hbd)
  clear hbd
  refine wp_region_held_drew (S := (fun w' => (w'.cell? ⟨w.heap.size, 0, none⟩ = some (.int .i64 P0) ∧ w'.cell? ⟨w.heap.size, 1, none⟩ = some (.int .i64 Q0) ∧ w'.cell? ⟨w.heap.size, 2, none⟩ = some (.int .i64 G0)) ∧ (w'.cell? ⟨u3.heap.size, 0, none⟩ = some (.int .i64 H1) ∧ w'.cell? ⟨u3.heap.size, 1, none⟩ = some (.slice xa hs.length xc)) ∧ (w'.cell? ⟨u4.heap.size, 0, none⟩ = some (.slice pa q.c.length pa1) ∧ w'.cell? ⟨u4.heap.size, 1, none⟩ = some (.slice pb q.h.length pb1) ∧ w'.cell? ⟨u4.heap.size, 2, none⟩ = some (.slice pc q.r.length pc1)))) (by kernel_rfl) (show _ from ⟨⟨R_5.out.1, R_5.out.2.1, R_5.out.2.2⟩, ⟨X_5.out.1, X_5.out.2⟩, ⟨K_5.out.1, K_5.out.2.1, K_5.out.2.2.1⟩⟩) (fun hHeld => ?_)
  generalize hW0 : u9.drew = Ws at *
  clear hW0
  refine wpAnyH_take (i := 0) (v := ?_) rfl (by kernel_rfl) (by kernel_rfl) (by kernel_rfl) (fun _ _ _ h => h) (Or.inl ⟨by kernel_rfl, ?_⟩) (by assumption) ?_
  rotate_left 1
  · intro w9 hSw
    try dsimp only at hSw
    go_simp
    try with_reducible rfl
  try simp only [Act.put, List.getElem_toArray, List.getElem_cons_succ, List.getElem_cons_zero, List.setIfInBounds_toArray, List.set_cons_zero, List.set_cons_succ]
  refine wpAnyH_take (i := 2) (v := ?_) rfl (by kernel_rfl) (by kernel_rfl) (by kernel_rfl) (fun _ _ _ h => h) (Or.inl ⟨by kernel_rfl, ?_⟩) (by assumption) ?_
  rotate_left 1
  · intro w9 hSw
    try dsimp only at hSw
    go_simp
    try with_reducible rfl
  try simp only [Act.put, List.getElem_toArray, List.getElem_cons_succ, List.getElem_cons_zero, List.setIfInBounds_toArray, List.set_cons_zero, List.set_cons_succ]
  refine wpAnyH_take (i := 3) (v := ?_) rfl (by kernel_rfl) (by kernel_rfl) (by kernel_rfl) (fun _ _ _ h => h) (Or.inl ⟨by kernel_rfl, ?_⟩) (by assumption) ?_
  rotate_left 1
  · intro w9 hSw
    try dsimp only at hSw
    go_simp
    try with_reducible rfl
  try simp only [Act.put, List.getElem_toArray, List.getElem_cons_succ, List.getElem_cons_zero, List.setIfInBounds_toArray, List.set_cons_zero, List.set_cons_succ]
  refine wpAnyH_take (i := 4) (v := ?_) rfl (by kernel_rfl) (by kernel_rfl) (by kernel_rfl) (fun _ _ _ h => h) (Or.inl ⟨by kernel_rfl, ?_⟩) (by assumption) ?_
  rotate_left 1
  · intro w9 hSw
    try dsimp only at hSw
    go_simp
    try with_reducible rfl
  try simp only [Act.put, List.getElem_toArray, List.getElem_cons_succ, List.getElem_cons_zero, List.setIfInBounds_toArray, List.set_cons_zero, List.set_cons_succ]
  refine wpAnyH_ready (rs := [1]) (by kernel_rfl) (by simp) ?_
  refine AllReadyH.cons rfl (fun K hK => ?_) (AllReadyH.nil)
  go_simp
  go_at_call 17
  refine (toGroup_any _ _ _ _).mono ?_
  rintro e' Wsb ⟨rfl, hb⟩
  have HB_sb := Lib.hid (bt HB_s.out hb)
  have R_sb := Lib.hid (R_s.out.below hb)
  have V_sb := Lib.hid (V_s.out.below hb)
  have J_sb := Lib.hid (J_s.out.below hb)
  have Q_sb := Lib.hid (Q_s.out.below hb)
  have A_sb := Lib.hid (A_s.out.below hb)
  have X_sb := Lib.hid (X_s.out.below hb)
  have B_sb := Lib.hid (B_s.out.below hb)
  have K_sb := Lib.hid (K_s.out.below hb)
  have E_sb := Lib.hid (E_s.out.below hb)
  clear hb
  go_wp2_with fail
  refine hK.out _ _ (show _ from ⟨⟨R_sb.out.1, R_sb.out.2.1, R_sb.out.2.2⟩, ⟨X_sb.out.1, X_sb.out.2⟩, ⟨K_sb.out.1, K_sb.out.2.1, K_sb.out.2.2.1⟩⟩) (fun hHeld => ?_)
  clear hK K
  try simp only [Act.put, List.getElem_toArray, List.getElem_cons_succ, List.getElem_cons_zero, List.setIfInBounds_toArray, List.set_cons_zero, List.set_cons_succ]
  refine wpAnyH_ready (rs := [5]) (by kernel_rfl) (by simp) ?_
  refine AllReadyH.cons rfl (fun K hK => ?_) (AllReadyH.nil)
  go_simp
  go_at_call 43
  refine (verifyOpening_any P0 Q0 G0 H1 a2 hsl hqn B_sb.out E_sb.out).mono ?_
  rw [K1.out, K2.out]
  rintro e' Wsbf ⟨rfl, hb⟩
  have HB_sbf := Lib.hid (bt HB_sb.out hb)
  have R_sbf := Lib.hid (R_sb.out.below hb)
  have V_sbf := Lib.hid (V_sb.out.below hb)
  have J_sbf := Lib.hid (J_sb.out.below hb)
  have Q_sbf := Lib.hid (Q_sb.out.below hb)
  have A_sbf := Lib.hid (A_sb.out.below hb)
  have X_sbf := Lib.hid (X_sb.out.below hb)
  have B_sbf := Lib.hid (B_sb.out.below hb)
  have K_sbf := Lib.hid (K_sb.out.below hb)
  have E_sbf := Lib.hid (E_sb.out.below hb)
  clear hb
  go_wp2_with fail
  refine hK.out _ _ (show _ from ⟨⟨R_sbf.out.1, R_sbf.out.2.1, R_sbf.out.2.2⟩, ⟨X_sbf.out.1, X_sbf.out.2⟩, ⟨K_sbf.out.1, K_sbf.out.2.1, K_sbf.out.2.2.1⟩⟩) (fun hHeld => ?_)
  clear hK K
  try simp only [Act.put, List.getElem_toArray, List.getElem_cons_succ, List.getElem_cons_zero, List.setIfInBounds_toArray, List.set_cons_zero, List.set_cons_succ]
  refine wpAnyH_take (i := 6) (v := ?_) rfl (by kernel_rfl) (by kernel_rfl) (by kernel_rfl) (fun _ _ _ h => h) (Or.inl ⟨by kernel_rfl, ?_⟩) (by assumption) ?_
  rotate_left 1
  · intro w9 hSw
    try dsimp only at hSw
    go_simp
    try with_reducible rfl
  try simp only [Act.put, List.getElem_toArray, List.getElem_cons_succ, List.getElem_cons_zero, List.setIfInBounds_toArray, List.set_cons_zero, List.set_cons_succ]
  refine wpAnyH_take (i := 7) (v := ?_) rfl (by kernel_rfl) (by kernel_rfl) (by kernel_rfl) (fun _ _ _ h => h) (Or.inl ⟨by kernel_rfl, ?_⟩) (by assumption) ?_
  rotate_left 1
  · intro w9 hSw
    try dsimp only at hSw
    go_simp
    try with_reducible rfl
  try simp only [Act.put, List.getElem_toArray, List.getElem_cons_succ, List.getElem_cons_zero, List.setIfInBounds_toArray, List.set_cons_zero, List.set_cons_succ]
  refine wpAnyH_take (i := 8) (v := ?_) rfl (by kernel_rfl) (by kernel_rfl) (by kernel_rfl) (fun _ _ _ h => h) (Or.inl ⟨by kernel_rfl, ?_⟩) (by assumption) ?_
  rotate_left 1
  · intro w9 hSw
    try dsimp only at hSw
    go_simp
    try with_reducible rfl
  try simp only [Act.put, List.getElem_toArray, List.getElem_cons_succ, List.getElem_cons_zero, List.setIfInBounds_toArray, List.set_cons_zero, List.set_cons_succ]
  refine wpAnyH_take (i := 9) (v := ?_) rfl (by kernel_rfl) (by kernel_rfl) (by kernel_rfl) (fun _ _ _ h => h) (Or.inl ⟨by kernel_rfl, ?_⟩) (by assumption) ?_
  rotate_left 1
  · intro w9 hSw
    try dsimp only at hSw
    go_simp
    try with_reducible rfl
  try simp only [Act.put, List.getElem_toArray, List.getElem_cons_succ, List.getElem_cons_zero, List.setIfInBounds_toArray, List.set_cons_zero, List.set_cons_succ]
  refine wpAnyH_take (i := 10) (v := ?_) rfl (by kernel_rfl) (by kernel_rfl) (by kernel_rfl) (fun _ _ _ h => h) (Or.inl ⟨by kernel_rfl, ?_⟩) (by assumption) ?_
  rotate_left 1
  · intro w9 hSw
    try dsimp only at hSw
    go_simp
    try with_reducible rfl
  try simp only [Act.put, List.getElem_toArray, List.getElem_cons_succ, List.getElem_cons_zero, List.setIfInBounds_toArray, List.set_cons_zero, List.set_cons_succ]
  refine wpAnyH_done (by kernel_rfl) ?_ _
  have HB_6 := Lib.hid HB_sbf.out
  have R_6 := Lib.hid R_sbf.out
  have V_6 := Lib.hid V_sbf.out
  have J_6 := Lib.hid J_sbf.out
  have Q_6 := Lib.hid Q_sbf.out
  have A_6 := Lib.hid A_sbf.out
  have X_6 := Lib.hid X_sbf.out
  have B_6 := Lib.hid B_sbf.out
  have K_6 := Lib.hid K_sbf.out
  have E_6 := Lib.hid E_sbf.out
  go_wp2_with fail
  have hbd : Below Wsbf.heap.size Wsbf Wsbf.drew := (Below.refl _ Wsbf).drew
  have HB_s := Lib.hid (bt HB_6.out hbd)
  have R_s := Lib.hid (R_6.out.below hbd)
  have V_s := Lib.hid (V_6.out.below hbd)
  have J_s := Lib.hid (J_6.out.below hbd)
  have Q_s := Lib.hid (Q_6.out.below hbd)
  have A_s := Lib.hid (A_6.out.below hbd)
  have X_s := Lib.hid (X_6.out.below hbd)
  have B_s := Lib.hid (B_6.out.below hbd)
  have K_s := Lib.hid (K_6.out.below hbd)
  have E_s := Lib.hid (E_6.out.below hbd)
  clear hbd
  refine wp_region_held_drew (S := (fun w' => (w'.cell? ⟨u3.heap.size, 0, none⟩ = some (.int .i64 H1) ∧ w'.cell? ⟨u3.heap.size, 1, none⟩ = some (.slice xa hs.length xc)) ∧ (w'.cell? ⟨w.heap.size + 1, 0, none⟩ = some (.int .i64 H1) ∧ w'.cell? ⟨w.heap.size + 1, 1, none⟩ = some (.slice ya hs.length yc)))) (by kernel_rfl) (show _ from ⟨⟨X_6.out.1, X_6.out.2⟩, ⟨V_6.out.1, V_6.out.2⟩⟩) (fun hHeld => ?_)
  generalize hW0 : Wsbf.drew = Ws at *
  clear hW0
  refine wpAnyH_take (i := 0) (v := ?_) rfl (by kernel_rfl) (by kernel_rfl) (by kernel_rfl) (fun _ _ _ h => h) (Or.inl ⟨by kernel_rfl, ?_⟩) (by assumption) ?_
  rotate_left 1
  · intro w9 hSw
    try dsimp only at hSw
    go_simp
    try with_reducible rfl
  try simp only [Act.put, List.getElem_toArray, List.getElem_cons_succ, List.getElem_cons_zero, List.setIfInBounds_toArray, List.set_cons_zero, List.set_cons_succ]
  refine wpAnyH_take (i := 1) (v := ?_) rfl (by kernel_rfl) (by kernel_rfl) (by kernel_rfl) (fun _ _ _ h => h) (Or.inl ⟨by kernel_rfl, ?_⟩) (by assumption) ?_
  rotate_left 1
  · intro w9 hSw
    try dsimp only at hSw
    go_simp
    try with_reducible rfl
  try simp only [Act.put, List.getElem_toArray, List.getElem_cons_succ, List.getElem_cons_zero, List.setIfInBounds_toArray, List.set_cons_zero, List.set_cons_succ]
  refine wpAnyH_ready (rs := [2]) (by kernel_rfl) (by simp) ?_
  refine AllReadyH.cons rfl (fun K hK => ?_) (AllReadyH.nil)
  go_simp
  go_at_call 18
  refine (toBas_any A_s.out (by omega)).mono ?_
  rintro e' Wsc ⟨yw, rfl, ho, hb⟩
  have HB_sc := Lib.hid (bt HB_s.out hb)
  have R_sc := Lib.hid (R_s.out.below hb)
  have V_sc := Lib.hid (V_s.out.below hb)
  have J_sc := Lib.hid (J_s.out.below hb)
  have Q_sc := Lib.hid (Q_s.out.below hb)
  have A_sc := Lib.hid (A_s.out.below hb)
  have X_sc := Lib.hid (X_s.out.below hb)
  have B_sc := Lib.hid (B_s.out.below hb)
  have K_sc := Lib.hid (K_s.out.below hb)
  have E_sc := Lib.hid (E_s.out.below hb)
  have CB_sc := Lib.hid (ho.toIn)
  clear ho
  clear hb
  go_wp2_with fail
  refine hK.out _ _ (show _ from ⟨⟨X_sc.out.1, X_sc.out.2⟩, ⟨V_sc.out.1, V_sc.out.2⟩⟩) (fun hHeld => ?_)
  clear hK K
  try simp only [Act.put, List.getElem_toArray, List.getElem_cons_succ, List.getElem_cons_zero, List.setIfInBounds_toArray, List.set_cons_zero, List.set_cons_succ]
  refine wpAnyH_ready (rs := [3]) (by kernel_rfl) (by simp) ?_
  refine AllReadyH.cons rfl (fun K hK => ?_) (AllReadyH.nil)
  go_simp
  go_at_call 20
  refine (eqBas_any B_sc.out CB_sc.out (by omega)).mono ?_
  rintro e' Wscd ⟨rfl, hb⟩
  have HB_scd := Lib.hid (bt HB_sc.out hb)
  have R_scd := Lib.hid (R_sc.out.below hb)
  have V_scd := Lib.hid (V_sc.out.below hb)
  have J_scd := Lib.hid (J_sc.out.below hb)
  have Q_scd := Lib.hid (Q_sc.out.below hb)
  have A_scd := Lib.hid (A_sc.out.below hb)
  have X_scd := Lib.hid (X_sc.out.below hb)
  have B_scd := Lib.hid (B_sc.out.below hb)
  have K_scd := Lib.hid (K_sc.out.below hb)
  have E_scd := Lib.hid (E_sc.out.below hb)
  have CB_scd := Lib.hid (CB_sc.out.below hb)
  clear hb
  go_wp2_with fail
  refine hK.out _ _ (show _ from ⟨⟨X_scd.out.1, X_scd.out.2⟩, ⟨V_scd.out.1, V_scd.out.2⟩⟩) (fun hHeld => ?_)
  clear hK K
  try simp only [Act.put, List.getElem_toArray, List.getElem_cons_succ, List.getElem_cons_zero, List.setIfInBounds_toArray, List.set_cons_zero, List.set_cons_succ]
  refine wpAnyH_take (i := 4) (v := ?_) rfl (by kernel_rfl) (by kernel_rfl) (by kernel_rfl) (fun _ _ _ h => h) (Or.inl ⟨by kernel_rfl, ?_⟩) (by assumption) ?_
  rotate_left 1
  · intro w9 hSw
    try dsimp only at hSw
    go_simp
    try with_reducible rfl
  try simp only [Act.put, List.getElem_toArray, List.getElem_cons_succ, List.getElem_cons_zero, List.setIfInBounds_toArray, List.set_cons_zero, List.set_cons_succ]
  refine wpAnyH_done (by kernel_rfl) ?_ _
  have HB_7 := Lib.hid HB_scd.out
  have R_7 := Lib.hid R_scd.out
  have V_7 := Lib.hid V_scd.out
  have J_7 := Lib.hid J_scd.out
  have Q_7 := Lib.hid Q_scd.out
  have A_7 := Lib.hid A_scd.out
  have X_7 := Lib.hid X_scd.out
  have B_7 := Lib.hid B_scd.out
  have K_7 := Lib.hid K_scd.out
  have E_7 := Lib.hid E_scd.out
  go_wp2_with fail
  have hbd : Below Wscd.heap.size Wscd Wscd.drew := (Below.refl _ Wscd).drew
  have HB_s := Lib.hid (bt HB_7.out hbd)
  have R_s := Lib.hid (R_7.out.below hbd)
  have V_s := Lib.hid (V_7.out.below hbd)
  have J_s := Lib.hid (J_7.out.below hbd)
  have Q_s := Lib.hid (Q_7.out.below hbd)
  have A_s := Lib.hid (A_7.out.below hbd)
  have X_s := Lib.hid (X_7.out.below hbd)
  have B_s := Lib.hid (B_7.out.below hbd)
  have K_s := Lib.hid (K_7.out.below hbd)
  have E_s := Lib.hid (E_7.out.below hbd)
  clear hbd
  refine wp_region_held_drew (S := (fun w' => (w'.cell? ⟨u4.heap.size, 0, none⟩ = some (.slice pa q.c.length pa1) ∧ w'.cell? ⟨u4.heap.size, 1, none⟩ = some (.slice pb q.h.length pb1) ∧ w'.cell? ⟨u4.heap.size, 2, none⟩ = some (.slice pc q.r.length pc1)) ∧ (w'.cell? ⟨w.heap.size + 2, 0, none⟩ = some (.slice qa q.c.length qa1) ∧ w'.cell? ⟨w.heap.size + 2, 1, none⟩ = some (.slice qb q.h.length qb1) ∧ w'.cell? ⟨w.heap.size + 2, 2, none⟩ = some (.slice qc q.r.length qc1)))) (by kernel_rfl) (show _ from ⟨⟨K_7.out.1, K_7.out.2.1, K_7.out.2.2.1⟩, ⟨J_7.out.1, J_7.out.2.1, J_7.out.2.2.1⟩⟩) (fun hHeld => ?_)
  generalize hW0 : Wscd.drew = Ws at *
  clear hW0
  refine wpAnyH_take (i := 0) (v := ?_) rfl (by kernel_rfl) (by kernel_rfl) (by kernel_rfl) (fun _ _ _ h => h) (Or.inl ⟨by kernel_rfl, ?_⟩) (by assumption) ?_
  rotate_left 1
  · intro w9 hSw
    try dsimp only at hSw
    go_simp
    try with_reducible rfl
  try simp only [Act.put, List.getElem_toArray, List.getElem_cons_succ, List.getElem_cons_zero, List.setIfInBounds_toArray, List.set_cons_zero, List.set_cons_succ]
  refine wpAnyH_take (i := 1) (v := ?_) rfl (by kernel_rfl) (by kernel_rfl) (by kernel_rfl) (fun _ _ _ h => h) (Or.inl ⟨by kernel_rfl, ?_⟩) (by assumption) ?_
  rotate_left 1
  · intro w9 hSw
    try dsimp only at hSw
    go_simp
    try with_reducible rfl
  try simp only [Act.put, List.getElem_toArray, List.getElem_cons_succ, List.getElem_cons_zero, List.setIfInBounds_toArray, List.set_cons_zero, List.set_cons_succ]
  refine wpAnyH_ready (rs := [2]) (by kernel_rfl) (by simp) ?_
  refine AllReadyH.cons rfl (fun K hK => ?_) (AllReadyH.nil)
  go_simp
  go_at_call 42
  refine (toP_any Q_s.out (by omega)).mono ?_
  rintro e' Wsc ⟨yp, rfl, ho, hb⟩
  have HB_sc := Lib.hid (bt HB_s.out hb)
  have R_sc := Lib.hid (R_s.out.below hb)
  have V_sc := Lib.hid (V_s.out.below hb)
  have J_sc := Lib.hid (J_s.out.below hb)
  have Q_sc := Lib.hid (Q_s.out.below hb)
  have A_sc := Lib.hid (A_s.out.below hb)
  have X_sc := Lib.hid (X_s.out.below hb)
  have B_sc := Lib.hid (B_s.out.below hb)
  have K_sc := Lib.hid (K_s.out.below hb)
  have E_sc := Lib.hid (E_s.out.below hb)
  have CP_sc := Lib.hid (ho.toIn)
  clear ho
  clear hb
  go_wp2_with fail
  refine hK.out _ _ (show _ from ⟨⟨K_sc.out.1, K_sc.out.2.1, K_sc.out.2.2.1⟩, ⟨J_sc.out.1, J_sc.out.2.1, J_sc.out.2.2.1⟩⟩) (fun hHeld => ?_)
  clear hK K
  try simp only [Act.put, List.getElem_toArray, List.getElem_cons_succ, List.getElem_cons_zero, List.setIfInBounds_toArray, List.set_cons_zero, List.set_cons_succ]
  refine wpAnyH_ready (rs := [3]) (by kernel_rfl) (by simp) ?_
  refine AllReadyH.cons rfl (fun K hK => ?_) (AllReadyH.nil)
  go_simp
  go_at_call 35
  refine (eqP_any E_sc.out CP_sc.out (by omega)).mono ?_
  rintro e' Wscd ⟨rfl, hb⟩
  have HB_scd := Lib.hid (bt HB_sc.out hb)
  have R_scd := Lib.hid (R_sc.out.below hb)
  have V_scd := Lib.hid (V_sc.out.below hb)
  have J_scd := Lib.hid (J_sc.out.below hb)
  have Q_scd := Lib.hid (Q_sc.out.below hb)
  have A_scd := Lib.hid (A_sc.out.below hb)
  have X_scd := Lib.hid (X_sc.out.below hb)
  have B_scd := Lib.hid (B_sc.out.below hb)
  have K_scd := Lib.hid (K_sc.out.below hb)
  have E_scd := Lib.hid (E_sc.out.below hb)
  have CP_scd := Lib.hid (CP_sc.out.below hb)
  clear hb
  go_wp2_with fail
  refine hK.out _ _ (show _ from ⟨⟨K_scd.out.1, K_scd.out.2.1, K_scd.out.2.2.1⟩, ⟨J_scd.out.1, J_scd.out.2.1, J_scd.out.2.2.1⟩⟩) (fun hHeld => ?_)
  clear hK K
  try simp only [Act.put, List.getElem_toArray, List.getElem_cons_succ, List.getElem_cons_zero, List.setIfInBounds_toArray, List.set_cons_zero, List.set_cons_succ]
  refine wpAnyH_take (i := 4) (v := ?_) rfl (by kernel_rfl) (by kernel_rfl) (by kernel_rfl) (fun _ _ _ h => h) (Or.inl ⟨by kernel_rfl, ?_⟩) (by assumption) ?_
  rotate_left 1
  · intro w9 hSw
    try dsimp only at hSw
    go_simp
    try with_reducible rfl
  try simp only [Act.put, List.getElem_toArray, List.getElem_cons_succ, List.getElem_cons_zero, List.setIfInBounds_toArray, List.set_cons_zero, List.set_cons_succ]
  refine wpAnyH_done (by kernel_rfl) ?_ _
  have HB_8 := Lib.hid HB_scd.out
  have R_8 := Lib.hid R_scd.out
  have V_8 := Lib.hid V_scd.out
  have J_8 := Lib.hid J_scd.out
  have Q_8 := Lib.hid Q_scd.out
  have A_8 := Lib.hid A_scd.out
  have X_8 := Lib.hid X_scd.out
  have B_8 := Lib.hid B_scd.out
  have K_8 := Lib.hid K_scd.out
  have E_8 := Lib.hid E_scd.out
  go_wp2
  go_ret
  exact ⟨rfl, HB_8.out⟩

/-! ### The row's step -/
set_option maxRecDepth 100000 in
theorem lifted (os : Os) (started : os.Started) (H : Type) (enc : TypeId × Value → H) :
    ReturnsInHanded {} Try.checked os 10 .any (Rows.fnExactVerifyOpeningSpec.pre6 enc Try.prog Try.f10 Rows.fnExactVerifyOpeningRow.domain false) (Rows.fnExactVerifyOpeningSpec.post enc Try.prog Try.f10 false true false false) := by
  refine returnsInHanded_of_change (C := Try.checked) own started (by kernel_rfl) Try.func10
    (ChangeSpec.witness6 (enc := enc) (C := Try.checked) false ⟨#[], #[.agg #[.int .i64 0, .int .i64 0, .int .i64 0], .agg #[.int .i64 0, .slice none 0 0], .int .i64 0, .agg #[.slice none 0 0, .slice none 0 0, .slice none 0 0]], []⟩ 8 (by kernel_rfl) (by kernel_rfl) (by kernel_rfl) (by kernel_rfl)) ?_
  intro W base args ds gs before hval0 hW hcnd _
  have hval : ∀ (j : Nat) t v, Try.f10.params[j]? = some t → args[j]? = some v → Value.okWide Try.prog W .any base t v := hval0
  have hW' := hW
  obtain ⟨p, q, hA0, hV, rfl, hfz, hnd⟩ := hW
  have hA : DataW.TrodAll enc Try.prog W 0 (fun _ => true) true Try.f10.params.toList args.toList ds p := hA0
  rw [Try.params10] at hA hval
  obtain ⟨v0, vs0, d0, ds0, p0, q0, hargs, rfl, rfl, h0, r0⟩ := trodAll_cons hA
  obtain ⟨v1, vs1, d1, ds1, p1, q1, rfl, rfl, rfl, h1, r1⟩ := trodAll_cons r0
  obtain ⟨v2, vs2, d2, ds2, p2, q2, rfl, rfl, rfl, h2, r2⟩ := trodAll_cons r1
  obtain ⟨v3, vs3, d3, ds3, p3, q3, rfl, rfl, rfl, h3, r3⟩ := trodAll_cons r2
  obtain ⟨rfl, rfl, rfl⟩ := trodAll_nil r3
  obtain rfl : args = #[v0, v1, v2, v3] := by cases args; simp_all
  obtain ⟨rfl, rfl⟩ := trodVars_none hV
  have k0 := h0
  have lt0 : ∀ x ∈ p0, x.block < W.heap.size := by obtain ⟨m, hm⟩ := k0; exact DataW.trod_lt m _ _ _ hm
  obtain ⟨c0_0, c0_1, c0_2, y0_0, y0_1, y0_2, m0, rfl, rfl, rfl, hy0_0, hy0_1, hy0_2⟩ := open_agg3 Try.underlying23 (by kernel_rfl) (by kernel_rfl) (hval 0 23 v0 rfl rfl) h0
  obtain ⟨P0, e0_0, _, wP0⟩ := DataW.trod_int Try.underlying3 hy0_0
  obtain rfl := (List.cons.inj e0_0).1
  obtain ⟨Q0, e0_1, _, wQ0⟩ := DataW.trod_int Try.underlying3 hy0_1
  obtain rfl := (List.cons.inj e0_1).1
  obtain ⟨G0, e0_2, _, wG0⟩ := DataW.trod_int Try.underlying3 hy0_2
  obtain rfl := (List.cons.inj e0_2).1
  have k1 := h1
  have lt1 : ∀ x ∈ p1, x.block < W.heap.size := by obtain ⟨m, hm⟩ := k1; exact DataW.trod_lt m _ _ _ hm
  obtain ⟨H1, y1, hs1, rfl, bl1, bm1⟩ := inBas_open (hval 1 26 v1 rfl rfl) h1
  obtain ⟨a2, rfl, rfl, rfl, w2⟩ := open_int Try.underlying3 (hval 2 3 v2 rfl rfl) h2
  have k3 := h3
  have lt3 : ∀ x ∈ p3, x.block < W.heap.size := by obtain ⟨m, hm⟩ := k3; exact DataW.trod_lt m _ _ _ hm
  have w3 := inP_open (hval 3 58 v3 rfl rfl) h3
  clear hA0 hval0
  refine (walk P0 Q0 G0 H1 y1 a2 _ W wP0 wQ0 wG0 ⟨hs1, bl1, bm1⟩ w2 w3).mono fun e W' ⟨he, bel⟩ => ?_
  subst he
  exact ⟨_, rfl, _, _, _, [], _, [], hW', trodAll_mk1 (shut_bool Try.underlying4 _), (trodAll_cons_mk (Below.trod laidOut (by kernel_rfl) (of_decide_eq_true (by kernel_rfl)) k0 bel lt0) (trodAll_cons_mk (Below.trod laidOut (by kernel_rfl) (of_decide_eq_true (by kernel_rfl)) k1 bel lt1) (trodAll_cons_mk (shut_int Try.underlying3 w2) (trodAll_cons_mk (Below.trod laidOut (by kernel_rfl) (of_decide_eq_true (by kernel_rfl)) k3 bel lt3) trodAll_mk0)))), rfl, bel.frame _, fun h => by cases h⟩

theorem over : Rows.fnExactVerifyOpeningRow.holds Try.pinned (OpenSpec.ofChange Rows.fnExactVerifyOpeningSpec) :=
  OpenClaim.holds_of_wide 10 Try.f10 rfl rfl rfl rfl rfl rfl rfl ⟨rfl, rfl, rfl, rfl, rfl⟩ rfl rfl rfl rfl rfl (by kernel_rfl) Try.func10
    (show joinedFacts Try.prog 10 Try.f10 Rows.fnExactVerifyOpeningSpec Rows.fnExactVerifyOpeningRow = true by unfold joinedFacts; rw [Head.make, Head.lifts, Head.enters]; kernel_rfl)
    (of_decide_eq_true (by kernel_rfl)) (by unfold Func.isWrapper; first | (rw [if_pos (by decide +kernel)]; kernel_rfl) | (rw [if_neg (by decide +kernel)]; exact ⟨rfl, rfl⟩))
    (fun os started H enc _ => lifted os started H enc)

/-- The statement. -/
theorem proved : Rows.FnExactVerifyOpeningSaid := over
#print axioms proved
end Go.Proofs.Ytdnofcpobpoehaa.fnExactVerifyOpening
