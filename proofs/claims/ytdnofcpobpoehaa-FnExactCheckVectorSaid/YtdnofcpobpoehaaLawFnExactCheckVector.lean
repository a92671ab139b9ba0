/-
For every group, all bases and every further argument the law FnExactCheckVector returns true: the program's CheckVector answers as the reference's does, and leaves its arguments as they were.
No condition.
-/
import Derived.Test.YtdnofcpobpoehaaRows
import Derived.WalkKit
import Derived.ProofKit
import Derived.OpenShut
import Derived.ShutString
import Derived.ChangeOld
import Derived.Below
import Derived.Lib.SmallJoins
import Derived.Test.YtdnofcpobpoehaaComF
import Derived.Deep.RegionHeld3
import Derived.Test.YtdnofcpobpoehaaFacts
namespace Go.Proofs.Ytdnofcpobpoehaa.fnExactCheckVector
open Go.Joins Go.ChangeShapes Go.WideShapes Go.ChangeAt Go.RowKit Go.Deep
open Go.ChangeMaps (open_string shut_string)
set_option linter.unusedVariables false

theorem own : ownKnob Try.prog.godebug = none := by kernel_rfl
theorem laidOut : laidOutB Try.prog = true := by kernel_rfl

/-- What the walk is told of a slice of integers that came in: it is nil; or it leads to a row of 'cap' cells that hold the numbers 'zs'. -/
def IsRow (k : IntKind) (w : World) (a : Option Addr) (len cap : Nat) (zs : List Int) : Prop :=
  (a = none ∧ len = 0 ∧ cap = 0 ∧ zs = []) ∨
  ∃ x, a = some x ∧ len ≤ cap ∧ cap ≤ maxLen ∧ zs.length = cap ∧ (∀ i, i < zs.length → w.cell? (x.add i) = some (.int k (zs.getD i 0))) ∧ ∀ n ∈ zs, (Lit.int k n).wf = true

set_option linter.unusedSimpArgs false

/-! ### STEP 1: the walk: the Go text returns true and writes nothing that was there -/
set_option maxRecDepth 100000 in
set_option maxHeartbeats 3200000 in
theorem walk (P0 Q0 G0 : Int) (H1 : Int) (y1 : Value) (a2 : Int) (a3 : Option Addr) (len3 cap3 : Nat) (z3 : List Int) (a4 : Int) (w : World) (wP0 : (Lit.int .i64 P0).wf = true) (wQ0 : (Lit.int .i64 Q0).wf = true) (wG0 : (Lit.int .i64 G0).wf = true) (w1 : ∃ hs, InI w.heap.size w y1 hs ∧ hs.length ≤ maxLen) (w2 : (Lit.int .i64 a2).wf = true) (w3 : IsRow .i64 w a3 len3 cap3 z3) (w4 : (Lit.int .i64 a4).wf = true) :
    Calls Try.prog 7 #[.agg #[.int .i64 P0, .int .i64 Q0, .int .i64 G0], .agg #[.int .i64 H1, y1], .int .i64 a2, .slice a3 len3 cap3, .int .i64 a4] w fun e w' => e = .returned (.bool true) ∧ Below w.heap.size w w' := by
  obtain ⟨hs, hz, hm⟩ := w1
  obtain ⟨ya, yc, rfl⟩ := hz.shape
  obtain ⟨hxs, nxs, mxs⟩ := inI_of_row w3
  generalize z3.take len3 = xs at hxs nxs
  clear w3
  have hal : Below w.heap.size w ((w.alloc (.cells #[.int .i64 P0, .int .i64 Q0, .int .i64 G0] 23)).alloc (.cells #[.int .i64 H1, .slice ya hs.length yc] 26)) := bt (ba _ _) (ba _ _)
  have R_0 := Lib.hid ((gr_at w w.heap.size rfl P0 Q0 G0 23).below (ba _ (.cells #[.int .i64 H1, .slice ya hs.length yc] 26)))
  have V_0 := Lib.hid (d2_at (w.alloc (.cells #[.int .i64 P0, .int .i64 Q0, .int .i64 G0] 23)) (w.heap.size + 1) (by simp) (.int .i64 H1) (.slice ya hs.length yc) 26)
  have A_0 := Lib.hid (hz.below hal)
  have XS_0 := Lib.hid (hxs.below hal)
  have HB_0 := Lib.hid hal
  clear hal hz hxs
  by_cases b3 : 1048576 < len3
  · have c3 : (1048576 : Int) < (len3 : Int) := by omega
    unfold maxLen at mxs
    go_enter Try.func7, Try.ntmps7
    go_wp2
    go_ret
    exact ⟨rfl, HB_0.out⟩
  have c3 : (len3 : Int) ≤ 1048576 := by omega
  have lxs : xs.length ≤ 1048576 := by omega
  by_cases bq : 1048576 < (hs.length : Int)
  · have E2 := Lib.hid (show szV hs.length 1048576 = -1 by unfold szV; rw [if_neg (by omega)])
    obtain ⟨v0, v1⟩ := V_0.out
    go_enter Try.func7, Try.ntmps7
    go_wp2_with fail
    refine (szBas_any A_0.out (by omega) (by omega) hm).mono ?_
    rw [E2.out]
    rintro e u1 ⟨rfl, hb⟩
    have HB_1 := Lib.hid (bt HB_0.out hb)
    clear hb v0 v1
    go_wp2
    go_ret
    exact ⟨rfl, HB_1.out⟩
  have E2 := Lib.hid (show szV hs.length 1048576 = 1048576 - (hs.length : Int) by unfold szV; rw [if_pos (by omega)])
  have hsl : hs.length ≤ 1048576 := by omega
  have hqi : 0 ≤ 1048576 - (hs.length : Int) := by omega
  obtain ⟨k1, hk1⟩ : ∃ k, coV P0 Q0 a2 (cvB P0 Q0 G0 H1 hs xs a4) (cvV P0 Q0 G0 H1 hs xs a4) = k := ⟨_, rfl⟩
  have K1 := Lib.hid hk1
  clear hk1
  obtain ⟨k2, hk2⟩ : ∃ k, coB P0 Q0 a2 (cvB P0 Q0 G0 H1 hs xs a4) = k := ⟨_, rfl⟩
  have K2 := Lib.hid hk2
  clear hk2
  obtain ⟨v0, v1⟩ := V_0.out
  go_enter Try.func7, Try.ntmps7
  go_wp2_with fail
  refine (szBas_any A_0.out (by omega) (by omega) hm).mono ?_
  rw [E2.out]
  rintro e u1 ⟨rfl, hb⟩
  clear v0 v1
  have HB_1 := Lib.hid (bt HB_0.out hb)
  have R_1 := Lib.hid (R_0.out.below hb)
  have V_1 := Lib.hid (V_0.out.below hb)
  have A_1 := Lib.hid (A_0.out.below hb)
  have XS_1 := Lib.hid (XS_0.out.below hb)
  clear hb HB_0 R_0 V_0 A_0 XS_0
  go_wp2_with fail
  have hbd : Below u1.heap.size u1 u1.drew := (Below.refl _ u1).drew
  have HB_s := Lib.hid (bt HB_1.out hbd)
  have R_s := Lib.hid (R_1.out.below hbd)
  have V_s := Lib.hid (V_1.out.below hbd)
  have A_s := Lib.hid (A_1.out.below hbd)
  have XS_s := Lib.hid (XS_1.out.below hbd)
  clear hbd
  refine wp_region_held_drew (S := (fun w' => (w'.cell? ⟨w.heap.size, 0, none⟩ = some (.int .i64 P0) ∧ w'.cell? ⟨w.heap.size, 1, none⟩ = some (.int .i64 Q0) ∧ w'.cell? ⟨w.heap.size, 2, none⟩ = some (.int .i64 G0)) ∧ (w'.cell? ⟨w.heap.size + 1, 0, none⟩ = some (.int .i64 H1) ∧ w'.cell? ⟨w.heap.size + 1, 1, none⟩ = some (.slice ya hs.length yc)))) (by kernel_rfl) (show _ from ⟨⟨R_1.out.1, R_1.out.2.1, R_1.out.2.2⟩, ⟨V_1.out.1, V_1.out.2⟩⟩) (fun hHeld => ?_)
  generalize hW0 : u1.drew = Ws at *
  clear hW0
  refine wpAnyH_take (i := 0) (v := ?_) rfl (by kernel_rfl) (by kernel_rfl) (by kernel_rfl) (fun _ _ _ h => h) (Or.inl ⟨by kernel_rfl, ?_⟩) (by assumption) ?_
  rotate_left 1
  · intro w9 hSw
    try dsimp only at hSw
    go_simp
    try with_reducible rfl
  try simp only [Act.put, List.getElem_toArray, List.getElem_cons_succ, List.getElem_cons_zero, List.setIfInBounds_toArray, List.set_cons_zero, List.set_cons_succ]
  refine wpAnyH_take (i := 2) (v := ?_) rfl (by kernel_rfl) (by kernel_rfl) (by kernel_rfl) (fun _ _ _ h => h) (Or.inl ⟨by kernel_rfl, ?_⟩) (by assumption) ?_
  rotate_left 1
  · intro w9 hSw
    try dsimp only at hSw
    go_simp
    try with_reducible rfl
  try simp only [Act.put, List.getElem_toArray, List.getElem_cons_succ, List.getElem_cons_zero, List.setIfInBounds_toArray, List.set_cons_zero, List.set_cons_succ]
  refine wpAnyH_take (i := 4) (v := ?_) rfl (by kernel_rfl) (by kernel_rfl) (by kernel_rfl) (fun _ _ _ h => h) (Or.inl ⟨by kernel_rfl, ?_⟩) (by assumption) ?_
  rotate_left 1
  · intro w9 hSw
    try dsimp only at hSw
    go_simp
    try with_reducible rfl
  try simp only [Act.put, List.getElem_toArray, List.getElem_cons_succ, List.getElem_cons_zero, List.setIfInBounds_toArray, List.set_cons_zero, List.set_cons_succ]
  refine wpAnyH_take (i := 5) (v := ?_) rfl (by kernel_rfl) (by kernel_rfl) (by kernel_rfl) (fun _ _ _ h => h) (Or.inl ⟨by kernel_rfl, ?_⟩) (by assumption) ?_
  rotate_left 1
  · intro w9 hSw
    try dsimp only at hSw
    go_simp
    try with_reducible rfl
  try simp only [Act.put, List.getElem_toArray, List.getElem_cons_succ, List.getElem_cons_zero, List.setIfInBounds_toArray, List.set_cons_zero, List.set_cons_succ]
  refine wpAnyH_take (i := 7) (v := ?_) rfl (by kernel_rfl) (by kernel_rfl) (by kernel_rfl) (fun _ _ _ h => h) (Or.inl ⟨by kernel_rfl, ?_⟩) (by assumption) ?_
  rotate_left 1
  · intro w9 hSw
    try dsimp only at hSw
    go_simp
    try with_reducible rfl
  try simp only [Act.put, List.getElem_toArray, List.getElem_cons_succ, List.getElem_cons_zero, List.setIfInBounds_toArray, List.set_cons_zero, List.set_cons_succ]
  refine wpAnyH_ready (rs := [1]) (by kernel_rfl) (by simp) ?_
  refine AllReadyH.cons rfl (fun K hK => ?_) (AllReadyH.nil)
  go_simp
  go_at_call 17
  refine (toGroup_any _ _ _ _).mono ?_
  rintro e' Wsb ⟨rfl, hb⟩
  have HB_sb := Lib.hid (bt HB_s.out hb)
  have R_sb := Lib.hid (R_s.out.below hb)
  have V_sb := Lib.hid (V_s.out.below hb)
  have A_sb := Lib.hid (A_s.out.below hb)
  have XS_sb := Lib.hid (XS_s.out.below hb)
  clear hb
  go_wp2_with fail
  refine hK.out _ _ (show _ from ⟨⟨R_sb.out.1, R_sb.out.2.1, R_sb.out.2.2⟩, ⟨V_sb.out.1, V_sb.out.2⟩⟩) (fun hHeld => ?_)
  clear hK K
  try simp only [Act.put, List.getElem_toArray, List.getElem_cons_succ, List.getElem_cons_zero, List.setIfInBounds_toArray, List.set_cons_zero, List.set_cons_succ]
  refine wpAnyH_ready (rs := [3]) (by kernel_rfl) (by simp) ?_
  refine AllReadyH.cons rfl (fun K hK => ?_) (AllReadyH.nil)
  go_simp
  go_at_call 18
  refine (toBas_any A_sb.out (by omega)).mono ?_
  rintro e' Wsbd ⟨yw, rfl, ho, hb⟩
  have HB_sbd := Lib.hid (bt HB_sb.out hb)
  have R_sbd := Lib.hid (R_sb.out.below hb)
  have V_sbd := Lib.hid (V_sb.out.below hb)
  have A_sbd := Lib.hid (A_sb.out.below hb)
  have XS_sbd := Lib.hid (XS_sb.out.below hb)
  have CB_sbd := Lib.hid (ho.toIn)
  clear ho
  clear hb
  go_wp2_with fail
  refine hK.out _ _ (show _ from ⟨⟨R_sbd.out.1, R_sbd.out.2.1, R_sbd.out.2.2⟩, ⟨V_sbd.out.1, V_sbd.out.2⟩⟩) (fun hHeld => ?_)
  clear hK K
  try simp only [Act.put, List.getElem_toArray, List.getElem_cons_succ, List.getElem_cons_zero, List.setIfInBounds_toArray, List.set_cons_zero, List.set_cons_succ]
  refine wpAnyH_ready (rs := [6]) (by kernel_rfl) (by simp) ?_
  refine AllReadyH.cons rfl (fun K hK => ?_) (AllReadyH.nil)
  go_simp
  go_at_call 26
  refine (toI_any XS_sbd.out (by omega)).mono ?_
  rintro e' Wsbdg ⟨xxs, rfl, ho, hb⟩
  have HB_sbdg := Lib.hid (bt HB_sbd.out hb)
  have R_sbdg := Lib.hid (R_sbd.out.below hb)
  have V_sbdg := Lib.hid (V_sbd.out.below hb)
  have A_sbdg := Lib.hid (A_sbd.out.below hb)
  have XS_sbdg := Lib.hid (XS_sbd.out.below hb)
  have CB_sbdg := Lib.hid (CB_sbd.out.below hb)
  have CXS_sbdg := Lib.hid (ho.toIn)
  clear ho
  clear hb
  go_wp2_with fail
  refine hK.out _ _ (show _ from ⟨⟨R_sbdg.out.1, R_sbdg.out.2.1, R_sbdg.out.2.2⟩, ⟨V_sbdg.out.1, V_sbdg.out.2⟩⟩) (fun hHeld => ?_)
  clear hK K
  try simp only [Act.put, List.getElem_toArray, List.getElem_cons_succ, List.getElem_cons_zero, List.setIfInBounds_toArray, List.set_cons_zero, List.set_cons_succ]
  refine wpAnyH_ready (rs := [8]) (by kernel_rfl) (by simp) ?_
  refine AllReadyH.cons rfl (fun K hK => ?_) (AllReadyH.nil)
  go_simp
  go_at_call 29
  refine (sCheckVector_any P0 Q0 G0 H1 hsl a2 lxs a4 CB_sbdg.out CXS_sbdg.out).mono ?_
  rw [K1.out, K2.out]
  rintro e' Wsbdgi ⟨rfl, hb⟩
  have HB_sbdgi := Lib.hid (bt HB_sbdg.out hb)
  have R_sbdgi := Lib.hid (R_sbdg.out.below hb)
  have V_sbdgi := Lib.hid (V_sbdg.out.below hb)
  have A_sbdgi := Lib.hid (A_sbdg.out.below hb)
  have XS_sbdgi := Lib.hid (XS_sbdg.out.below hb)
  have CB_sbdgi := Lib.hid (CB_sbdg.out.below hb)
  have CXS_sbdgi := Lib.hid (CXS_sbdg.out.below hb)
  clear hb
  go_wp2_with fail
  refine hK.out _ _ (show _ from ⟨⟨R_sbdgi.out.1, R_sbdgi.out.2.1, R_sbdgi.out.2.2⟩, ⟨V_sbdgi.out.1, V_sbdgi.out.2⟩⟩) (fun hHeld => ?_)
  clear hK K
  try simp only [Act.put, List.getElem_toArray, List.getElem_cons_succ, List.getElem_cons_zero, List.setIfInBounds_toArray, List.set_cons_zero, List.set_cons_succ]
  refine wpAnyH_take (i := 9) (v := ?_) rfl (by kernel_rfl) (by kernel_rfl) (by kernel_rfl) (fun _ _ _ h => h) (Or.inl ⟨by kernel_rfl, ?_⟩) (by assumption) ?_
  rotate_left 1
  · intro w9 hSw
    try dsimp only at hSw
    go_simp
    try with_reducible rfl
  try simp only [Act.put, List.getElem_toArray, List.getElem_cons_succ, List.getElem_cons_zero, List.setIfInBounds_toArray, List.set_cons_zero, List.set_cons_succ]
  refine wpAnyH_take (i := 10) (v := ?_) rfl (by kernel_rfl) (by kernel_rfl) (by kernel_rfl) (fun _ _ _ h => h) (Or.inl ⟨by kernel_rfl, ?_⟩) (by assumption) ?_
  rotate_left 1
  · intro w9 hSw
    try dsimp only at hSw
    go_simp
    try with_reducible rfl
  try simp only [Act.put, List.getElem_toArray, List.getElem_cons_succ, List.getElem_cons_zero, List.setIfInBounds_toArray, List.set_cons_zero, List.set_cons_succ]
  refine wpAnyH_take (i := 11) (v := ?_) rfl (by kernel_rfl) (by kernel_rfl) (by kernel_rfl) (fun _ _ _ h => h) (Or.inl ⟨by kernel_rfl, ?_⟩) (by assumption) ?_
  rotate_left 1
  · intro w9 hSw
    try dsimp only at hSw
    go_simp
    try with_reducible rfl
  try simp only [Act.put, List.getElem_toArray, List.getElem_cons_succ, List.getElem_cons_zero, List.setIfInBounds_toArray, List.set_cons_zero, List.set_cons_succ]
  refine wpAnyH_take (i := 12) (v := ?_) rfl (by kernel_rfl) (by kernel_rfl) (by kernel_rfl) (fun _ _ _ h => h) (Or.inl ⟨by kernel_rfl, ?_⟩) (by assumption) ?_
  rotate_left 1
  · intro w9 hSw
    try dsimp only at hSw
    go_simp
    try with_reducible rfl
  try simp only [Act.put, List.getElem_toArray, List.getElem_cons_succ, List.getElem_cons_zero, List.setIfInBounds_toArray, List.set_cons_zero, List.set_cons_succ]
  refine wpAnyH_take (i := 13) (v := ?_) rfl (by kernel_rfl) (by kernel_rfl) (by kernel_rfl) (fun _ _ _ h => h) (Or.inl ⟨by kernel_rfl, ?_⟩) (by assumption) ?_
  rotate_left 1
  · intro w9 hSw
    try dsimp only at hSw
    go_simp
    try with_reducible rfl
  try simp only [Act.put, List.getElem_toArray, List.getElem_cons_succ, List.getElem_cons_zero, List.setIfInBounds_toArray, List.set_cons_zero, List.set_cons_succ]
  refine wpAnyH_done (by kernel_rfl) ?_ _
  have HB_2 := Lib.hid HB_sbdgi.out
  have R_2 := Lib.hid R_sbdgi.out
  have V_2 := Lib.hid V_sbdgi.out
  have A_2 := Lib.hid A_sbdgi.out
  have XS_2 := Lib.hid XS_sbdgi.out
  obtain ⟨v0, v1⟩ := V_2.out
  go_wp2_with fail
  refine (toBas_any A_2.out (by omega)).mono ?_
  rintro e u2 ⟨yx, rfl, ho, hb1⟩
  obtain ⟨xa, xc, rfl⟩ := ho.toIn.shape
  clear v0 v1
  have hba := ba u2 (.cells #[.int .i64 H1, .slice xa hs.length xc] 31)
  have hb := bt hb1 hba
  have HB_3 := Lib.hid (bt HB_2.out hb)
  have R_3 := Lib.hid (R_2.out.below hb)
  have V_3 := Lib.hid (V_2.out.below hb)
  have A_3 := Lib.hid (A_2.out.below hb)
  have XS_3 := Lib.hid (XS_2.out.below hb)
  have X_3 := Lib.hid (d2_at u2 u2.heap.size rfl (.int .i64 H1) (.slice xa hs.length xc) 31)
  have B_3 := Lib.hid (ho.toIn.below hba)
  clear hb HB_2 R_2 V_2 A_2 XS_2
  clear ho hb1 hba
  go_wp2_with fail
  refine (toI_any XS_3.out (by omega)).mono ?_
  rintro e u3 ⟨qxs, rfl, ho, hb⟩
  have HB_4 := Lib.hid (bt HB_3.out hb)
  have R_4 := Lib.hid (R_3.out.below hb)
  have V_4 := Lib.hid (V_3.out.below hb)
  have A_4 := Lib.hid (A_3.out.below hb)
  have XS_4 := Lib.hid (XS_3.out.below hb)
  have X_4 := Lib.hid (X_3.out.below hb)
  have B_4 := Lib.hid (B_3.out.below hb)
  have QXS_4 := Lib.hid (ho.toIn)
  clear hb HB_3 R_3 V_3 A_3 XS_3 X_3 B_3
  clear ho
  go_wp2_with fail
  have hbd : Below u3.heap.size u3 u3.drew := (Below.refl _ u3).drew
  have HB_s := Lib.hid (bt HB_4.out hbd)
  have R_s := Lib.hid (R_4.out.below hbd)
  have V_s := Lib.hid (V_4.out.below hbd)
  have A_s := Lib.hid (A_4.out.below hbd)
  have XS_s := Lib.hid (XS_4.out.below hbd)
  have X_s := Lib.hid (X_4.out.below hbd)
  have B_s := Lib.hid (B_4.out.below hbd)
  have QXS_s := Lib.hid (QXS_4.out.below hbd)
  clear hbd
  refine wp_region_held_drew (S := (fun w' => (w'.cell? ⟨w.heap.size, 0, none⟩ = some (.int .i64 P0) ∧ w'.cell? ⟨w.heap.size, 1, none⟩ = some (.int .i64 Q0) ∧ w'.cell? ⟨w.heap.size, 2, none⟩ = some (.int .i64 G0)) ∧ (w'.cell? ⟨u2.heap.size, 0, none⟩ = some (.int .i64 H1) ∧ w'.cell? ⟨u2.heap.size, 1, none⟩ = some (.slice xa hs.length xc)))) (by kernel_rfl) (show _ from ⟨⟨R_4.out.1, R_4.out.2.1, R_4.out.2.2⟩, ⟨X_4.out.1, X_4.out.2⟩⟩) (fun hHeld => ?_)
  generalize hW0 : u3.drew = Ws at *
  clear hW0
  refine wpAnyH_take (i := 0) (v := ?_) rfl (by kernel_rfl) (by kernel_rfl) (by kernel_rfl) (fun _ _ _ h => h) (Or.inl ⟨by kernel_rfl, ?_⟩) (by assumption) ?_
  rotate_left 1
  · intro w9 hSw
    try dsimp only at hSw
    go_simp
    try with_reducible rfl
  try simp only [Act.put, List.getElem_toArray, List.getElem_cons_succ, List.getElem_cons_zero, List.setIfInBounds_toArray, List.set_cons_zero, List.set_cons_succ]
  refine wpAnyH_take (i := 2) (v := ?_) rfl (by kernel_rfl) (by kernel_rfl) (by kernel_rfl) (fun _ _ _ h => h) (Or.inl ⟨by kernel_rfl, ?_⟩) (by assumption) ?_
  rotate_left 1
  · intro w9 hSw
    try dsimp only at hSw
    go_simp
    try with_reducible rfl
  try simp only [Act.put, List.getElem_toArray, List.getElem_cons_succ, List.getElem_cons_zero, List.setIfInBounds_toArray, List.set_cons_zero, List.set_cons_succ]
  refine wpAnyH_take (i := 3) (v := ?_) rfl (by kernel_rfl) (by kernel_rfl) (by kernel_rfl) (fun _ _ _ h => h) (Or.inl ⟨by kernel_rfl, ?_⟩) (by assumption) ?_
  rotate_left 1
  · intro w9 hSw
    try dsimp only at hSw
    go_simp
    try with_reducible rfl
  try simp only [Act.put, List.getElem_toArray, List.getElem_cons_succ, List.getElem_cons_zero, List.setIfInBounds_toArray, List.set_cons_zero, List.set_cons_succ]
  refine wpAnyH_take (i := 4) (v := ?_) rfl (by kernel_rfl) (by kernel_rfl) (by kernel_rfl) (fun _ _ _ h => h) (Or.inl ⟨by kernel_rfl, ?_⟩) (by assumption) ?_
  rotate_left 1
  · intro w9 hSw
    try dsimp only at hSw
    go_simp
    try with_reducible rfl
  try simp only [Act.put, List.getElem_toArray, List.getElem_cons_succ, List.getElem_cons_zero, List.setIfInBounds_toArray, List.set_cons_zero, List.set_cons_succ]
  refine wpAnyH_take (i := 5) (v := ?_) rfl (by kernel_rfl) (by kernel_rfl) (by kernel_rfl) (fun _ _ _ h => h) (Or.inl ⟨by kernel_rfl, ?_⟩) (by assumption) ?_
  rotate_left 1
  · intro w9 hSw
    try dsimp only at hSw
    go_simp
    try with_reducible rfl
  try simp only [Act.put, List.getElem_toArray, List.getElem_cons_succ, List.getElem_cons_zero, List.setIfInBounds_toArray, List.set_cons_zero, List.set_cons_succ]
  refine wpAnyH_ready (rs := [1]) (by kernel_rfl) (by simp) ?_
  refine AllReadyH.cons rfl (fun K hK => ?_) (AllReadyH.nil)
  go_simp
  go_at_call 17
  refine (toGroup_any _ _ _ _).mono ?_
  rintro e' Wsb ⟨rfl, hb⟩
  have HB_sb := Lib.hid (bt HB_s.out hb)
  have R_sb := Lib.hid (R_s.out.below hb)
  have V_sb := Lib.hid (V_s.out.below hb)
  have A_sb := Lib.hid (A_s.out.below hb)
  have XS_sb := Lib.hid (XS_s.out.below hb)
  have X_sb := Lib.hid (X_s.out.below hb)
  have B_sb := Lib.hid (B_s.out.below hb)
  have QXS_sb := Lib.hid (QXS_s.out.below hb)
  clear hb
  go_wp2_with fail
  refine hK.out _ _ (show _ from ⟨⟨R_sb.out.1, R_sb.out.2.1, R_sb.out.2.2⟩, ⟨X_sb.out.1, X_sb.out.2⟩⟩) (fun hHeld => ?_)
  clear hK K
  try simp only [Act.put, List.getElem_toArray, List.getElem_cons_succ, List.getElem_cons_zero, List.setIfInBounds_toArray, List.set_cons_zero, List.set_cons_succ]
  refine wpAnyH_ready (rs := [6]) (by kernel_rfl) (by simp) ?_
  refine AllReadyH.cons rfl (fun K hK => ?_) (AllReadyH.nil)
  go_simp
  go_at_call 30
  refine (checkVector_any P0 Q0 G0 H1 hsl a2 lxs a4 B_sb.out QXS_sb.out).mono ?_
  rw [K1.out, K2.out]
  rintro e' Wsbg ⟨rfl, hb⟩
  have HB_sbg := Lib.hid (bt HB_sb.out hb)
  have R_sbg := Lib.hid (R_sb.out.below hb)
  have V_sbg := Lib.hid (V_sb.out.below hb)
  have A_sbg := Lib.hid (A_sb.out.below hb)
  have XS_sbg := Lib.hid (XS_sb.out.below hb)
  have X_sbg := Lib.hid (X_sb.out.below hb)
  have B_sbg := Lib.hid (B_sb.out.below hb)
  have QXS_sbg := Lib.hid (QXS_sb.out.below hb)
  clear hb
  go_wp2_with fail
  refine hK.out _ _ (show _ from ⟨⟨R_sbg.out.1, R_sbg.out.2.1, R_sbg.out.2.2⟩, ⟨X_sbg.out.1, X_sbg.out.2⟩⟩) (fun hHeld => ?_)
  clear hK K
  try simp only [Act.put, List.getElem_toArray, List.getElem_cons_succ, List.getElem_cons_zero, List.setIfInBounds_toArray, List.set_cons_zero, List.set_cons_succ]
  refine wpAnyH_take (i := 7) (v := ?_) rfl (by kernel_rfl) (by kernel_rfl) (by kernel_rfl) (fun _ _ _ h => h) (Or.inl ⟨by kernel_rfl, ?_⟩) (by assumption) ?_
  rotate_left 1
  · intro w9 hSw
    try dsimp only at hSw
    go_simp
    try with_reducible rfl
  try simp only [Act.put, List.getElem_toArray, List.getElem_cons_succ, List.getElem_cons_zero, List.setIfInBounds_toArray, List.set_cons_zero, List.set_cons_succ]
  refine wpAnyH_take (i := 8) (v := ?_) rfl (by kernel_rfl) (by kernel_rfl) (by kernel_rfl) (fun _ _ _ h => h) (Or.inl ⟨by kernel_rfl, ?_⟩) (by assumption) ?_
  rotate_left 1
  · intro w9 hSw
    try dsimp only at hSw
    go_simp
    try with_reducible rfl
  try simp only [Act.put, List.getElem_toArray, List.getElem_cons_succ, List.getElem_cons_zero, List.setIfInBounds_toArray, List.set_cons_zero, List.set_cons_succ]
  refine wpAnyH_take (i := 9) (v := ?_) rfl (by kernel_rfl) (by kernel_rfl) (by kernel_rfl) (fun _ _ _ h => h) (Or.inl ⟨by kernel_rfl, ?_⟩) (by assumption) ?_
  rotate_left 1
  · intro w9 hSw
    try dsimp only at hSw
    go_simp
    try with_reducible rfl
  try simp only [Act.put, List.getElem_toArray, List.getElem_cons_succ, List.getElem_cons_zero, List.setIfInBounds_toArray, List.set_cons_zero, List.set_cons_succ]
  refine wpAnyH_take (i := 10) (v := ?_) rfl (by kernel_rfl) (by kernel_rfl) (by kernel_rfl) (fun _ _ _ h => h) (Or.inl ⟨by kernel_rfl, ?_⟩) (by assumption) ?_
  rotate_left 1
  · intro w9 hSw
    try dsimp only at hSw
    go_simp
    try with_reducible rfl
  try simp only [Act.put, List.getElem_toArray, List.getElem_cons_succ, List.getElem_cons_zero, List.setIfInBounds_toArray, List.set_cons_zero, List.set_cons_succ]
  refine wpAnyH_take (i := 11) (v := ?_) rfl (by kernel_rfl) (by kernel_rfl) (by kernel_rfl) (fun _ _ _ h => h) (Or.inl ⟨by kernel_rfl, ?_⟩) (by assumption) ?_
  rotate_left 1
  · intro w9 hSw
    try dsimp only at hSw
    go_simp
    try with_reducible rfl
  try simp only [Act.put, List.getElem_toArray, List.getElem_cons_succ, List.getElem_cons_zero, List.setIfInBounds_toArray, List.set_cons_zero, List.set_cons_succ]
  refine wpAnyH_done (by kernel_rfl) ?_ _
  have HB_5 := Lib.hid HB_sbg.out
  have R_5 := Lib.hid R_sbg.out
  have V_5 := Lib.hid V_sbg.out
  have A_5 := Lib.hid A_sbg.out
  have XS_5 := Lib.hid XS_sbg.out
  have X_5 := Lib.hid X_sbg.out
  have B_5 := Lib.hid B_sbg.out
  have QXS_5 := Lib.hid QXS_sbg.out
  go_wp2_with fail
  have hbd : Below Wsbg.heap.size Wsbg Wsbg.drew := (Below.refl _ Wsbg).drew
  have HB_s := Lib.hid (bt HB_5.out hbd)
  have R_s := Lib.hid (R_5.out.below hbd)
  have V_s := Lib.hid (V_5.out.below hbd)
  have A_s := Lib.hid (A_5.out.below hbd)
  have XS_s := Lib.hid (XS_5.out.below hbd)
  have X_s := Lib.hid (X_5.out.below hbd)
  have B_s := Lib.hid (B_5.out.below hbd)
  have QXS_s := Lib.hid (QXS_5.out.below hbd)
  clear hbd
  refine wp_region_held_drew (S := (fun w' => (w'.cell? ⟨u2.heap.size, 0, none⟩ = some (.int .i64 H1) ∧ w'.cell? ⟨u2.heap.size, 1, none⟩ = some (.slice xa hs.length xc)) ∧ (w'.cell? ⟨w.heap.size + 1, 0, none⟩ = some (.int .i64 H1) ∧ w'.cell? ⟨w.heap.size + 1, 1, none⟩ = some (.slice ya hs.length yc)))) (by kernel_rfl) (show _ from ⟨⟨X_5.out.1, X_5.out.2⟩, ⟨V_5.out.1, V_5.out.2⟩⟩) (fun hHeld => ?_)
  generalize hW0 : Wsbg.drew = Ws at *
  clear hW0
  refine wpAnyH_take (i := 0) (v := ?_) rfl (by kernel_rfl) (by kernel_rfl) (by kernel_rfl) (fun _ _ _ h => h) (Or.inl ⟨by kernel_rfl, ?_⟩) (by assumption) ?_
  rotate_left 1
  · intro w9 hSw
    try dsimp only at hSw
    go_simp
    try with_reducible rfl
  try simp only [Act.put, List.getElem_toArray, List.getElem_cons_succ, List.getElem_cons_zero, List.setIfInBounds_toArray, List.set_cons_zero, List.set_cons_succ]
  refine wpAnyH_take (i := 1) (v := ?_) rfl (by kernel_rfl) (by kernel_rfl) (by kernel_rfl) (fun _ _ _ h => h) (Or.inl ⟨by kernel_rfl, ?_⟩) (by assumption) ?_
  rotate_left 1
  · intro w9 hSw
    try dsimp only at hSw
    go_simp
    try with_reducible rfl
  try simp only [Act.put, List.getElem_toArray, List.getElem_cons_succ, List.getElem_cons_zero, List.setIfInBounds_toArray, List.set_cons_zero, List.set_cons_succ]
  refine wpAnyH_ready (rs := [2]) (by kernel_rfl) (by simp) ?_
  refine AllReadyH.cons rfl (fun K hK => ?_) (AllReadyH.nil)
  go_simp
  go_at_call 18
  refine (toBas_any A_s.out (by omega)).mono ?_
  rintro e' Wsc ⟨yz, rfl, ho, hb⟩
  have HB_sc := Lib.hid (bt HB_s.out hb)
  have R_sc := Lib.hid (R_s.out.below hb)
  have V_sc := Lib.hid (V_s.out.below hb)
  have A_sc := Lib.hid (A_s.out.below hb)
  have XS_sc := Lib.hid (XS_s.out.below hb)
  have X_sc := Lib.hid (X_s.out.below hb)
  have B_sc := Lib.hid (B_s.out.below hb)
  have QXS_sc := Lib.hid (QXS_s.out.below hb)
  have CB_sc := Lib.hid (ho.toIn)
  clear ho
  clear hb
  go_wp2_with fail
  refine hK.out _ _ (show _ from ⟨⟨X_sc.out.1, X_sc.out.2⟩, ⟨V_sc.out.1, V_sc.out.2⟩⟩) (fun hHeld => ?_)
  clear hK K
  try simp only [Act.put, List.getElem_toArray, List.getElem_cons_succ, List.getElem_cons_zero, List.setIfInBounds_toArray, List.set_cons_zero, List.set_cons_succ]
  refine wpAnyH_ready (rs := [3]) (by kernel_rfl) (by simp) ?_
  refine AllReadyH.cons rfl (fun K hK => ?_) (AllReadyH.nil)
  go_simp
  go_at_call 20
  refine (eqBas_any B_sc.out CB_sc.out (by omega)).mono ?_
  rintro e' Wscd ⟨rfl, hb⟩
  have HB_scd := Lib.hid (bt HB_sc.out hb)
  have R_scd := Lib.hid (R_sc.out.below hb)
  have V_scd := Lib.hid (V_sc.out.below hb)
  have A_scd := Lib.hid (A_sc.out.below hb)
  have XS_scd := Lib.hid (XS_sc.out.below hb)
  have X_scd := Lib.hid (X_sc.out.below hb)
  have B_scd := Lib.hid (B_sc.out.below hb)
  have QXS_scd := Lib.hid (QXS_sc.out.below hb)
  have CB_scd := Lib.hid (CB_sc.out.below hb)
  clear hb
  go_wp2_with fail
  refine hK.out _ _ (show _ from ⟨⟨X_scd.out.1, X_scd.out.2⟩, ⟨V_scd.out.1, V_scd.out.2⟩⟩) (fun hHeld => ?_)
  clear hK K
  try simp only [Act.put, List.getElem_toArray, List.getElem_cons_succ, List.getElem_cons_zero, List.setIfInBounds_toArray, List.set_cons_zero, List.set_cons_succ]
  refine wpAnyH_take (i := 4) (v := ?_) rfl (by kernel_rfl) (by kernel_rfl) (by kernel_rfl) (fun _ _ _ h => h) (Or.inl ⟨by kernel_rfl, ?_⟩) (by assumption) ?_
  rotate_left 1
  · intro w9 hSw
    try dsimp only at hSw
    go_simp
    try with_reducible rfl
  try simp only [Act.put, List.getElem_toArray, List.getElem_cons_succ, List.getElem_cons_zero, List.setIfInBounds_toArray, List.set_cons_zero, List.set_cons_succ]
  refine wpAnyH_done (by kernel_rfl) ?_ _
  have HB_6 := Lib.hid HB_scd.out
  have R_6 := Lib.hid R_scd.out
  have V_6 := Lib.hid V_scd.out
  have A_6 := Lib.hid A_scd.out
  have XS_6 := Lib.hid XS_scd.out
  have X_6 := Lib.hid X_scd.out
  have B_6 := Lib.hid B_scd.out
  have QXS_6 := Lib.hid QXS_scd.out
  go_wp2_with fail
  refine (toI_any XS_6.out (by omega)).mono ?_
  rintro e u4 ⟨rxs, rfl, ho, hb⟩
  have HB_7 := Lib.hid (bt HB_6.out hb)
  have R_7 := Lib.hid (R_6.out.below hb)
  have V_7 := Lib.hid (V_6.out.below hb)
  have A_7 := Lib.hid (A_6.out.below hb)
  have XS_7 := Lib.hid (XS_6.out.below hb)
  have X_7 := Lib.hid (X_6.out.below hb)
  have B_7 := Lib.hid (B_6.out.below hb)
  have QXS_7 := Lib.hid (QXS_6.out.below hb)
  have CI_7 := Lib.hid (ho.toIn)
  clear hb HB_6 R_6 V_6 A_6 XS_6 X_6 B_6 QXS_6
  clear ho
  go_wp2_with fail
  refine (eqI_any QXS_7.out CI_7.out (by omega)).mono ?_
  rintro e u5 ⟨rfl, hb⟩
  have HB_8 := Lib.hid (bt HB_7.out hb)
  have R_8 := Lib.hid (R_7.out.below hb)
  have V_8 := Lib.hid (V_7.out.below hb)
  have A_8 := Lib.hid (A_7.out.below hb)
  have XS_8 := Lib.hid (XS_7.out.below hb)
  have X_8 := Lib.hid (X_7.out.below hb)
  have B_8 := Lib.hid (B_7.out.below hb)
  have QXS_8 := Lib.hid (QXS_7.out.below hb)
  clear hb HB_7 R_7 V_7 A_7 XS_7 X_7 B_7 QXS_7 CI_7
  go_wp2
  go_ret
  exact ⟨rfl, HB_8.out⟩

/-! ### The row's step -/
set_option maxRecDepth 100000 in
theorem lifted (os : Os) (started : os.Started) (H : Type) (enc : TypeId × Value → H) :
    ReturnsInHanded {} Try.checked os 7 .any (Rows.fnExactCheckVectorSpec.pre6 enc Try.prog Try.f7 Rows.fnExactCheckVectorRow.domain false) (Rows.fnExactCheckVectorSpec.post enc Try.prog Try.f7 false true false false) := by
  refine returnsInHanded_of_change (C := Try.checked) own started (by kernel_rfl) Try.func7
    (ChangeSpec.witness6 (enc := enc) (C := Try.checked) false ⟨#[], #[.agg #[.int .i64 0, .int .i64 0, .int .i64 0], .agg #[.int .i64 0, .slice none 0 0], .int .i64 0, .slice none 0 0, .int .i64 0], []⟩ 8 (by kernel_rfl) (by kernel_rfl) (by kernel_rfl) (by kernel_rfl)) ?_
  intro W base args ds gs before hval0 hW hcnd _
  have hval : ∀ (j : Nat) t v, Try.f7.params[j]? = some t → args[j]? = some v → Value.okWide Try.prog W .any base t v := hval0
  have hW' := hW
  obtain ⟨p, q, hA0, hV, rfl, hfz, hnd⟩ := hW
  have hA : DataW.TrodAll enc Try.prog W 0 (fun _ => true) true Try.f7.params.toList args.toList ds p := hA0
  rw [Try.params7] at hA hval
  obtain ⟨v0, vs0, d0, ds0, p0, q0, hargs, rfl, rfl, h0, r0⟩ := trodAll_cons hA
  obtain ⟨v1, vs1, d1, ds1, p1, q1, rfl, rfl, rfl, h1, r1⟩ := trodAll_cons r0
  obtain ⟨v2, vs2, d2, ds2, p2, q2, rfl, rfl, rfl, h2, r2⟩ := trodAll_cons r1
  obtain ⟨v3, vs3, d3, ds3, p3, q3, rfl, rfl, rfl, h3, r3⟩ := trodAll_cons r2
  obtain ⟨v4, vs4, d4, ds4, p4, q4, rfl, rfl, rfl, h4, r4⟩ := trodAll_cons r3
  obtain ⟨rfl, rfl, rfl⟩ := trodAll_nil r4
  obtain rfl : args = #[v0, v1, v2, v3, v4] := by cases args; simp_all
  obtain ⟨rfl, rfl⟩ := trodVars_none hV
  have k0 := h0
  have lt0 : ∀ x ∈ p0, x.block < W.heap.size := by obtain ⟨m, hm⟩ := k0; exact DataW.trod_lt m _ _ _ hm
  obtain ⟨c0_0, c0_1, c0_2, y0_0, y0_1, y0_2, m0, rfl, rfl, rfl, hy0_0, hy0_1, hy0_2⟩ := open_agg3 Try.underlying23 (by kernel_rfl) (by kernel_rfl) (hval 0 23 v0 rfl rfl) h0
  obtain ⟨P0, e0_0, _, wP0⟩ := DataW.trod_int Try.underlying3 hy0_0
  obtain rfl := (List.cons.inj e0_0).1
  obtain ⟨Q0, e0_1, _, wQ0⟩ := DataW.trod_int Try.underlying3 hy0_1
  obtain rfl := (List.cons.inj e0_1).1
  obtain ⟨G0, e0_2, _, wG0⟩ := DataW.trod_int Try.underlying3 hy0_2
  obtain rfl := (List.cons.inj e0_2).1
  have k1 := h1
  have lt1 : ∀ x ∈ p1, x.block < W.heap.size := by obtain ⟨m, hm⟩ := k1; exact DataW.trod_lt m _ _ _ hm
  obtain ⟨H1, y1, hs1, rfl, bl1, bm1⟩ := inBas_open (hval 1 26 v1 rfl rfl) h1
  obtain ⟨a2, rfl, rfl, rfl, w2⟩ := open_int Try.underlying3 (hval 2 3 v2 rfl rfl) h2
  have k3 := h3
  have lt3 : ∀ x ∈ p3, x.block < W.heap.size := by obtain ⟨m, hm⟩ := k3; exact DataW.trod_lt m _ _ _ hm
  obtain ⟨a3, len3, cap3, rfl⟩ := okWide_slice Try.underlying24 (hval 3 24 v3 rfl rfl)
  obtain ⟨z3, w3⟩ : ∃ zs, IsRow .i64 W a3 len3 cap3 zs := by
    obtain ⟨fuel, hf⟩ := h3
    rcases open_ints Try.underlying24 Try.underlying3 (by kernel_rfl) hf with ⟨hcs, _⟩ | ⟨x, l, c, zs, hcs, _, hl, hm, hz, _, hcell, hwz⟩
    · simp [Value.cells] at hcs
      obtain ⟨rfl, rfl, rfl⟩ := hcs
      exact ⟨[], .inl ⟨rfl, rfl, rfl, rfl⟩⟩
    · simp [Value.cells] at hcs
      obtain ⟨rfl, rfl, rfl⟩ := hcs
      exact ⟨zs, .inr ⟨_, rfl, hl, hm, by simpa using hz, hcell, hwz⟩⟩
  obtain ⟨a4, rfl, rfl, rfl, w4⟩ := open_int Try.underlying3 (hval 4 3 v4 rfl rfl) h4
  clear hA0 hval0
  refine (walk P0 Q0 G0 H1 y1 a2 a3 len3 cap3 z3 a4 W wP0 wQ0 wG0 ⟨hs1, bl1, bm1⟩ w2 w3 w4).mono fun e W' ⟨he, bel⟩ => ?_
  subst he
  exact ⟨_, rfl, _, _, _, [], _, [], hW', trodAll_mk1 (shut_bool Try.underlying4 _), (trodAll_cons_mk (Below.trod laidOut (by kernel_rfl) (of_decide_eq_true (by kernel_rfl)) k0 bel lt0) (trodAll_cons_mk (Below.trod laidOut (by kernel_rfl) (of_decide_eq_true (by kernel_rfl)) k1 bel lt1) (trodAll_cons_mk (shut_int Try.underlying3 w2) (trodAll_cons_mk (Below.trod laidOut (by kernel_rfl) (of_decide_eq_true (by kernel_rfl)) k3 bel lt3) (trodAll_cons_mk (shut_int Try.underlying3 w4) trodAll_mk0))))), rfl, bel.frame _, fun h => by cases h⟩

theorem over : Rows.fnExactCheckVectorRow.holds Try.pinned (OpenSpec.ofChange Rows.fnExactCheckVectorSpec) :=
  OpenClaim.holds_of_wide 7 Try.f7 rfl rfl rfl rfl rfl rfl rfl ⟨rfl, rfl, rfl, rfl, rfl⟩ rfl rfl rfl rfl rfl (by kernel_rfl) Try.func7
    (show joinedFacts Try.prog 7 Try.f7 Rows.fnExactCheckVectorSpec Rows.fnExactCheckVectorRow = true by unfold joinedFacts; rw [Head.make, Head.lifts, Head.enters]; kernel_rfl)
    (of_decide_eq_true (by kernel_rfl)) (by unfold Func.isWrapper; first | (rw [if_pos (by decide +kernel)]; kernel_rfl) | (rw [if_neg (by decide +kernel)]; exact ⟨rfl, rfl⟩))
    (fun os started H enc _ => lifted os started H enc)

/-- The statement. -/
theorem proved : Rows.FnExactCheckVectorSaid := over
#print axioms proved
end Go.Proofs.Ytdnofcpobpoehaa.fnExactCheckVector
