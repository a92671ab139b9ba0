/-
For all bytes the law FnCommitments returns true: for what is drawn the program commits as the reference does, openings are checked, commitments multiply to commitments to sums, and a trapdoor opens to any value.
No condition.
-/
import Derived.Test.YtglfbhkdmkneoaaRows
import Derived.WalkKit
import Derived.ProofKit
import Derived.OpenShut
import Derived.SizedLaws
import Derived.ShutString
import Derived.ChangeOld
import Derived.Below
import Derived.Deep.RegionHeld3
import Derived.Test.YtglfbhkdmkneoaaComX
import Derived.Test.YtglfbhkdmkneoaaFacts
namespace Go.Proofs.Ytglfbhkdmkneoaa.fnCommitments
open Go.ChangeShapes Go.WideShapes Go.ChangeAt Go.RowKit
open Go.ChangeMaps (open_string shut_string)
set_option linter.unusedVariables false

theorem own : ownKnob Try.prog.godebug = none := by kernel_rfl
theorem laidOut : laidOutB Try.prog = true := by kernel_rfl

theorem bytes5 : Try.prog.bytesOf 5 = 1 := by kernel_rfl

/-- WHAT THE WALK IS TOLD OF A SLICE OF INTEGERS THAT CAME IN: it is nil; or it leads to a row of 'cap' cells, the numbers 'zs' (the first 'len' are its elements, the rest its spare room), each fitting its kind. -/
def IsRow (k : IntKind) (w : World) (a : Option Addr) (len cap : Nat) (zs : List Int) : Prop :=
  (a = none ∧ len = 0 ∧ cap = 0 ∧ zs = []) ∨
  ∃ x, a = some x ∧ len ≤ cap ∧ cap ≤ maxLen ∧ zs.length = cap ∧ (∀ i, i < zs.length → w.cell? (x.add i) = some (.int k (zs.getD i 0))) ∧ ∀ n ∈ zs, (Lit.int k n).wf = true

set_option linter.unusedVariables false
set_option linter.unusedSimpArgs false

/-! ### STEP 1: THE WALK: the Go text returns true, AND WRITES NOTHING THAT WAS THERE: 'Below w.heap.size w w'' (Derived/Below.lean: '.refl', '.alloc', '.drew', '.setCell' at a new block, '.trans'). Open each 'IsRow' by 'rcases' AHEAD of 'go_enter'; part every test ahead of the walk. -/
set_option maxRecDepth 100000 in
set_option maxHeartbeats 25600000 in
theorem walk (a0 : Option Addr) (len0 cap0 : Nat) (z0 : List Int) (a1 : Option Addr) (len1 cap1 : Nat) (z1 : List Int) (w : World) (w0 : IsRow .u8 w a0 len0 cap0 z0) (w1 : IsRow .u8 w a1 len1 cap1 z1) (s0 : len0 ≤ 140737488351232) (s1 : len1 ≤ 140737488351232) :
    Calls Try.prog 12 #[.slice a0 len0 cap0, .slice a1 len1 cap1] w fun e w' => e = .returned (.bool true) ∧ Below w.heap.size w w' := by
  have hb0 := isB_of_row w0
  have hb1 := isB_of_row w1
  clear w0 w1
  by_cases hbig : 1048576 < (len0 : Int) + len1
  · go_enter Try.func12, Try.ntmps12
    go_wp2_with fail
    refine (big_yes _ _ _ _ _ _ _ s0 hbig).mono ?_
    rintro e w' ⟨rfl, rfl⟩
    go_wp2
    go_ret
    exact ⟨rfl, Below.refl _ _⟩
  have HB0 := Lib.hid hb0
  have HB1 := Lib.hid hb1
  have HBIG := Lib.hid (show (len0 : Int) + len1 ≤ 1048576 by omega)
  clear hb0 hb1 hbig
  go_enter Try.func12, Try.ntmps12
  go_wp2_with fail
  refine (big_no _ _ _ _ _ _ _ HBIG.out).mono ?_
  rintro e w9 ⟨rfl, rfl⟩
  clear HBIG
  go_wp2_with fail
  refine (drawCommit_any _ _ _ _ HB0.out).mono ?_
  rintro e v1 ⟨P, Q, G, H, m, r, y, hs, rfl, _, hn, hy, ⟨⟨m0, m1⟩, r0, r1⟩, hv1⟩
  obtain ⟨ya, yc, rfl⟩ := hy.shape
  have hal := bt (ba v1 (.cells #[.int .i64 P, .int .i64 Q, .int .i64 G] 29)) (ba (v1.alloc (.cells #[.int .i64 P, .int .i64 Q, .int .i64 G] 29)) (.cells #[.int .i64 H, .slice ya hs.length yc] 26))
  have HV_0 := Lib.hid (bt hv1 hal)
  have HR_0 := Lib.hid ((gr_new v1 P Q G 29).below (ba _ (.cells #[.int .i64 H, .slice ya hs.length yc] 26)))
  have HB_0 := Lib.hid (d2_at (v1.alloc (.cells #[.int .i64 P, .int .i64 Q, .int .i64 G] 29)) (v1.heap.size + 1) (by simp) (.int .i64 H) (.slice ya hs.length yc) 26)
  have HA_0 := Lib.hid (hy.below hal)
  clear hv1 hal hy
  obtain ⟨k1, hk1⟩ : ∃ k, cmV P Q G H hs m r = k := ⟨_, rfl⟩
  have K1 := Lib.hid hk1
  clear hk1
  obtain ⟨k2, hk2⟩ : ∃ k, cmB P Q G H hs m r = k := ⟨_, rfl⟩
  have K2 := Lib.hid hk2
  clear hk2
  obtain ⟨c0, c1, c2⟩ := HR_0.out
  obtain ⟨d0, d1⟩ := HB_0.out
  go_wp2_with fail
  refine (commit_any P Q G H (by omega) m r HA_0.out).mono ?_
  rw [K1.out, K2.out]
  rintro e v10 ⟨rfl, hb⟩
  clear c0 c1 c2 d0 d1
  have HV_1 := Lib.hid (bt HV_0.out hb)
  have HR_1 := Lib.hid (HR_0.out.below hb)
  have HB_1 := Lib.hid (HB_0.out.below hb)
  have HA_1 := Lib.hid (HA_0.out.below hb)
  clear hb HV_0 HR_0 HB_0 HA_0
  obtain ⟨c0, c1, c2⟩ := HR_1.out
  obtain ⟨d0, d1⟩ := HB_1.out
  go_wp2_with fail
  refine (sCommit_any P Q G H (by omega) m r HA_1.out).mono ?_
  rw [K1.out, K2.out]
  rintro e v11 ⟨rfl, hb⟩
  clear c0 c1 c2 d0 d1
  have HV_2 := Lib.hid (bt HV_1.out hb)
  have HR_2 := Lib.hid (HR_1.out.below hb)
  have HB_2 := Lib.hid (HB_1.out.below hb)
  have HA_2 := Lib.hid (HA_1.out.below hb)
  clear hb HV_1 HR_1 HB_1 HA_1
  cases k2
  · skip
    clear HR_2 HB_2 HA_2
    go_wp2_with fail
    refine (drawCommitVector_any _ _ _ _ (HB1.out.below HV_2.out)).mono ?_
    rintro e x1 ⟨P1, Q1, G1, H1, s1, y1, z1, hs1, zs1, rfl, _, ⟨hn1, hn2⟩, hy1, hz1, hv1⟩
    obtain ⟨ya1, yc1, rfl⟩ := hy1.shape
    obtain ⟨za1, zc1, rfl⟩ := hz1.shape
    have hal := bt (ba x1 (.cells #[.int .i64 P1, .int .i64 Q1, .int .i64 G1] 29)) (ba (x1.alloc (.cells #[.int .i64 P1, .int .i64 Q1, .int .i64 G1] 29)) (.cells #[.int .i64 H1, .slice ya1 hs1.length yc1] 26))
    have HV_3 := Lib.hid (bt (bt HV_2.out hv1) hal)
    have HR_3 := Lib.hid ((gr_new x1 P1 Q1 G1 29).below (ba _ (.cells #[.int .i64 H1, .slice ya1 hs1.length yc1] 26)))
    have HB_3 := Lib.hid (d2_at (x1.alloc (.cells #[.int .i64 P1, .int .i64 Q1, .int .i64 G1] 29)) (x1.heap.size + 1) (by simp) (.int .i64 H1) (.slice ya1 hs1.length yc1) 26)
    have HA_3 := Lib.hid (hy1.below hal)
    have HZ_3 := Lib.hid (hz1.below hal)
    clear hv1 hal hy1 hz1 HV_2
    obtain ⟨k5, hk5⟩ : ∃ k, cvV P1 Q1 G1 H1 hs1 zs1 s1 = k := ⟨_, rfl⟩
    have K5 := Lib.hid hk5
    clear hk5
    obtain ⟨k6, hk6⟩ : ∃ k, cvB P1 Q1 G1 H1 hs1 zs1 s1 = k := ⟨_, rfl⟩
    have K6 := Lib.hid hk6
    clear hk6
    obtain ⟨c0, c1, c2⟩ := HR_3.out
    obtain ⟨d0, d1⟩ := HB_3.out
    go_wp2_with fail
    refine (commitVector_any P1 Q1 G1 H1 (by omega) (by omega) s1 HA_3.out HZ_3.out).mono ?_
    rw [K5.out, K6.out]
    rintro e v13 ⟨rfl, hb⟩
    clear c0 c1 c2 d0 d1
    have HV_4 := Lib.hid (bt HV_3.out hb)
    have HR_4 := Lib.hid (HR_3.out.below hb)
    have HB_4 := Lib.hid (HB_3.out.below hb)
    have HA_4 := Lib.hid (HA_3.out.below hb)
    have HZ_4 := Lib.hid (HZ_3.out.below hb)
    clear hb HV_3 HR_3 HB_3 HA_3 HZ_3
    obtain ⟨c0, c1, c2⟩ := HR_4.out
    obtain ⟨d0, d1⟩ := HB_4.out
    go_wp2_with fail
    refine (sCommitVector_any P1 Q1 G1 H1 (by omega) (by omega) s1 HA_4.out HZ_4.out).mono ?_
    rw [K5.out, K6.out]
    rintro e v14 ⟨rfl, hb⟩
    clear c0 c1 c2 d0 d1
    have HV_5 := Lib.hid (bt HV_4.out hb)
    have HR_5 := Lib.hid (HR_4.out.below hb)
    have HB_5 := Lib.hid (HB_4.out.below hb)
    have HA_5 := Lib.hid (HA_4.out.below hb)
    have HZ_5 := Lib.hid (HZ_4.out.below hb)
    clear hb HV_4 HR_4 HB_4 HA_4 HZ_4
    clear HR_5 HB_5 HA_5 HZ_5 K5 K6
    go_wp2_with fail
    refine (drawEquivocate_any _ _ _ _ (HB1.out.below HV_5.out)).mono ?_
    rintro e x2 ⟨P2, Q2, G2, t2, a2, r2, o2, rfl, _, _, hv2⟩
    have hal := ba x2 (.cells #[.int .i64 P2, .int .i64 Q2, .int .i64 G2] 29)
    have HV_6 := Lib.hid (bt (bt HV_5.out hv2) hal)
    have HR_6 := Lib.hid (gr_new x2 P2 Q2 G2 29)
    clear hv2 hal HV_5
    have HE := Lib.hid (fun h => ev_facts (P := P2) (Q := Q2) (G := G2) (t := t2) (m := a2) (r := r2) (o := o2) h)
    have C1 := Lib.hid (fun v => equivocate_any P2 Q2 G2 t2 a2 r2 o2 v)
    have C2 := Lib.hid (fun v => sEquivocate_any P2 Q2 G2 t2 a2 r2 o2 v)
    generalize evV P2 Q2 G2 t2 a2 r2 o2 = z2 at HE C1 C2
    generalize evB P2 Q2 G2 t2 a2 r2 o2 = b2 at HE C1 C2
    obtain ⟨c0, c1, c2⟩ := HR_6.out
    go_wp2_with fail
    refine (C1.out _).mono ?_
    rintro e v16 ⟨rfl, hb⟩
    clear c0 c1 c2
    have HV_7 := Lib.hid (bt HV_6.out hb)
    have HR_7 := Lib.hid (HR_6.out.below hb)
    clear hb HV_6 HR_6
    obtain ⟨c0, c1, c2⟩ := HR_7.out
    go_wp2_with fail
    refine (C2.out _).mono ?_
    rintro e v17 ⟨rfl, hb⟩
    clear c0 c1 c2
    have HV_8 := Lib.hid (bt HV_7.out hb)
    have HR_8 := Lib.hid (HR_7.out.below hb)
    clear hb HV_7 HR_7
    clear C1 C2
    cases b2
    · go_wp2_with fail
      refine wp_region_held_drew (S := (fun w' => w'.cell? ⟨x2.heap.size, 0, none⟩ = some (.int .i64 P2) ∧ w'.cell? ⟨x2.heap.size, 1, none⟩ = some (.int .i64 Q2) ∧ w'.cell? ⟨x2.heap.size, 2, none⟩ = some (.int .i64 G2))) (by kernel_rfl) (by first | exact ⟨HR_8.out.1, HR_8.out.2.1, HR_8.out.2.2⟩ | (dsimp only; exact ⟨HR_8.out.1, HR_8.out.2.1, HR_8.out.2.2⟩)) (fun hHeld => ?_)
      refine wpAnyH_take (i := 0) (v := ?_) rfl (by kernel_rfl) (by kernel_rfl) (by kernel_rfl) (fun _ _ _ h => h) (Or.inl ⟨by kernel_rfl, ?_⟩) (by assumption) ?_
      rotate_left 1
      · intro w hSw
        try dsimp only at hSw
        go_simp
        try with_reducible rfl
      try simp only [Act.put, List.getElem_toArray, List.getElem_cons_succ, List.getElem_cons_zero, List.setIfInBounds_toArray, List.set_cons_zero, List.set_cons_succ]
      refine wpAnyH_take (i := 1) (v := ?_) rfl (by kernel_rfl) (by kernel_rfl) (by kernel_rfl) (fun _ _ _ h => h) (Or.inl ⟨by kernel_rfl, ?_⟩) (by assumption) ?_
      rotate_left 1
      · intro w hSw
        try dsimp only at hSw
        go_simp
        try with_reducible rfl
      try simp only [Act.put, List.getElem_toArray, List.getElem_cons_succ, List.getElem_cons_zero, List.setIfInBounds_toArray, List.set_cons_zero, List.set_cons_succ]
      refine wpAnyH_take (i := 2) (v := ?_) rfl (by kernel_rfl) (by kernel_rfl) (by kernel_rfl) (fun _ _ _ h => h) (Or.inl ⟨by kernel_rfl, ?_⟩) (by assumption) ?_
      rotate_left 1
      · intro w hSw
        try dsimp only at hSw
        go_simp
        try with_reducible rfl
      try simp only [Act.put, List.getElem_toArray, List.getElem_cons_succ, List.getElem_cons_zero, List.setIfInBounds_toArray, List.set_cons_zero, List.set_cons_succ]
      refine wpAnyH_take (i := 3) (v := undef) rfl (by kernel_rfl) (by kernel_rfl) (by kernel_rfl) (fun _ _ _ h => h) (Or.inr ⟨by kernel_rfl, rfl⟩) (by assumption) ?_
      try simp only [Act.put, List.getElem_toArray, List.getElem_cons_succ, List.getElem_cons_zero, List.setIfInBounds_toArray, List.set_cons_zero, List.set_cons_succ]
      refine wpAnyH_take (i := 4) (v := undef) rfl (by kernel_rfl) (by kernel_rfl) (by kernel_rfl) (fun _ _ _ h => h) (Or.inr ⟨by kernel_rfl, rfl⟩) (by assumption) ?_
      try simp only [Act.put, List.getElem_toArray, List.getElem_cons_succ, List.getElem_cons_zero, List.setIfInBounds_toArray, List.set_cons_zero, List.set_cons_succ]
      refine wpAnyH_take (i := 5) (v := undef) rfl (by kernel_rfl) (by kernel_rfl) (by kernel_rfl) (fun _ _ _ h => h) (Or.inr ⟨by kernel_rfl, rfl⟩) (by assumption) ?_
      try simp only [Act.put, List.getElem_toArray, List.getElem_cons_succ, List.getElem_cons_zero, List.setIfInBounds_toArray, List.set_cons_zero, List.set_cons_succ]
      refine wpAnyH_take (i := 6) (v := undef) rfl (by kernel_rfl) (by kernel_rfl) (by kernel_rfl) (fun _ _ _ h => h) (Or.inr ⟨by kernel_rfl, rfl⟩) (by assumption) ?_
      try simp only [Act.put, List.getElem_toArray, List.getElem_cons_succ, List.getElem_cons_zero, List.setIfInBounds_toArray, List.set_cons_zero, List.set_cons_succ]
      refine wpAnyH_take (i := 7) (v := undef) rfl (by kernel_rfl) (by kernel_rfl) (by kernel_rfl) (fun _ _ _ h => h) (Or.inr ⟨by kernel_rfl, rfl⟩) (by assumption) ?_
      try simp only [Act.put, List.getElem_toArray, List.getElem_cons_succ, List.getElem_cons_zero, List.setIfInBounds_toArray, List.set_cons_zero, List.set_cons_succ]
      refine wpAnyH_take (i := 8) (v := undef) rfl (by kernel_rfl) (by kernel_rfl) (by kernel_rfl) (fun _ _ _ h => h) (Or.inr ⟨by kernel_rfl, rfl⟩) (by assumption) ?_
      try simp only [Act.put, List.getElem_toArray, List.getElem_cons_succ, List.getElem_cons_zero, List.setIfInBounds_toArray, List.set_cons_zero, List.set_cons_succ]
      refine wpAnyH_take (i := 9) (v := undef) rfl (by kernel_rfl) (by kernel_rfl) (by kernel_rfl) (fun _ _ _ h => h) (Or.inr ⟨by kernel_rfl, rfl⟩) (by assumption) ?_
      try simp only [Act.put, List.getElem_toArray, List.getElem_cons_succ, List.getElem_cons_zero, List.setIfInBounds_toArray, List.set_cons_zero, List.set_cons_succ]
      refine wpAnyH_take (i := 10) (v := undef) rfl (by kernel_rfl) (by kernel_rfl) (by kernel_rfl) (fun _ _ _ h => h) (Or.inr ⟨by kernel_rfl, rfl⟩) (by assumption) ?_
      try simp only [Act.put, List.getElem_toArray, List.getElem_cons_succ, List.getElem_cons_zero, List.setIfInBounds_toArray, List.set_cons_zero, List.set_cons_succ]
      refine wpAnyH_take (i := 11) (v := undef) rfl (by kernel_rfl) (by kernel_rfl) (by kernel_rfl) (fun _ _ _ h => h) (Or.inr ⟨by kernel_rfl, rfl⟩) (by assumption) ?_
      try simp only [Act.put, List.getElem_toArray, List.getElem_cons_succ, List.getElem_cons_zero, List.setIfInBounds_toArray, List.set_cons_zero, List.set_cons_succ]
      refine wpAnyH_take (i := 12) (v := undef) rfl (by kernel_rfl) (by kernel_rfl) (by kernel_rfl) (fun _ _ _ h => h) (Or.inr ⟨by kernel_rfl, rfl⟩) (by assumption) ?_
      try simp only [Act.put, List.getElem_toArray, List.getElem_cons_succ, List.getElem_cons_zero, List.setIfInBounds_toArray, List.set_cons_zero, List.set_cons_succ]
      refine wpAnyH_take (i := 13) (v := undef) rfl (by kernel_rfl) (by kernel_rfl) (by kernel_rfl) (fun _ _ _ h => h) (Or.inr ⟨by kernel_rfl, rfl⟩) (by assumption) ?_
      try simp only [Act.put, List.getElem_toArray, List.getElem_cons_succ, List.getElem_cons_zero, List.setIfInBounds_toArray, List.set_cons_zero, List.set_cons_succ]
      refine wpAnyH_take (i := 14) (v := undef) rfl (by kernel_rfl) (by kernel_rfl) (by kernel_rfl) (fun _ _ _ h => h) (Or.inr ⟨by kernel_rfl, rfl⟩) (by assumption) ?_
      try simp only [Act.put, List.getElem_toArray, List.getElem_cons_succ, List.getElem_cons_zero, List.setIfInBounds_toArray, List.set_cons_zero, List.set_cons_succ]
      refine wpAnyH_take (i := 15) (v := undef) rfl (by kernel_rfl) (by kernel_rfl) (by kernel_rfl) (fun _ _ _ h => h) (Or.inr ⟨by kernel_rfl, rfl⟩) (by assumption) ?_
      try simp only [Act.put, List.getElem_toArray, List.getElem_cons_succ, List.getElem_cons_zero, List.setIfInBounds_toArray, List.set_cons_zero, List.set_cons_succ]
      refine wpAnyH_take (i := 16) (v := undef) rfl (by kernel_rfl) (by kernel_rfl) (by kernel_rfl) (fun _ _ _ h => h) (Or.inr ⟨by kernel_rfl, rfl⟩) (by assumption) ?_
      try simp only [Act.put, List.getElem_toArray, List.getElem_cons_succ, List.getElem_cons_zero, List.setIfInBounds_toArray, List.set_cons_zero, List.set_cons_succ]
      refine wpAnyH_take (i := 17) (v := undef) rfl (by kernel_rfl) (by kernel_rfl) (by kernel_rfl) (fun _ _ _ h => h) (Or.inr ⟨by kernel_rfl, rfl⟩) (by assumption) ?_
      try simp only [Act.put, List.getElem_toArray, List.getElem_cons_succ, List.getElem_cons_zero, List.setIfInBounds_toArray, List.set_cons_zero, List.set_cons_succ]
      refine wpAnyH_take (i := 18) (v := undef) rfl (by kernel_rfl) (by kernel_rfl) (by kernel_rfl) (fun _ _ _ h => h) (Or.inr ⟨by kernel_rfl, rfl⟩) (by assumption) ?_
      try simp only [Act.put, List.getElem_toArray, List.getElem_cons_succ, List.getElem_cons_zero, List.setIfInBounds_toArray, List.set_cons_zero, List.set_cons_succ]
      refine wpAnyH_take (i := 19) (v := undef) rfl (by kernel_rfl) (by kernel_rfl) (by kernel_rfl) (fun _ _ _ h => h) (Or.inr ⟨by kernel_rfl, rfl⟩) (by assumption) ?_
      try simp only [Act.put, List.getElem_toArray, List.getElem_cons_succ, List.getElem_cons_zero, List.setIfInBounds_toArray, List.set_cons_zero, List.set_cons_succ]
      refine wpAnyH_take (i := 20) (v := ?_) rfl (by kernel_rfl) (by kernel_rfl) (by kernel_rfl) (fun _ _ _ h => h) (Or.inl ⟨by kernel_rfl, ?_⟩) (by assumption) ?_
      rotate_left 1
      · intro w hSw
        try dsimp only at hSw
        go_simp
        try with_reducible rfl
      try simp only [Act.put, List.getElem_toArray, List.getElem_cons_succ, List.getElem_cons_zero, List.setIfInBounds_toArray, List.set_cons_zero, List.set_cons_succ]
      refine wpAnyH_take (i := 21) (v := ?_) rfl (by kernel_rfl) (by kernel_rfl) (by kernel_rfl) (fun _ _ _ h => h) (Or.inl ⟨by kernel_rfl, ?_⟩) (by assumption) ?_
      rotate_left 1
      · intro w hSw
        try dsimp only at hSw
        go_simp
        try with_reducible rfl
      try simp only [Act.put, List.getElem_toArray, List.getElem_cons_succ, List.getElem_cons_zero, List.setIfInBounds_toArray, List.set_cons_zero, List.set_cons_succ]
      refine wpAnyH_done (by kernel_rfl) ?_ _
      go_wp2
      go_ret
      exact ⟨rfl, HV_8.out.drew⟩
    · obtain ⟨⟨q5, q6⟩, ⟨⟨t3, t4⟩, ⟨a3, a4⟩, ⟨r3, r4⟩, o3, o4⟩, ⟨z3, z4⟩, he⟩ := HE.out rfl
      clear HE
      obtain ⟨n1, n2⟩ := prod_bd (a := t2) (z := r2) t3 (by omega) r3 (by omega)
      obtain ⟨n3, n4⟩ := prod_bd (a := t2) (z := z2) t3 (by omega) z3 (by omega)
      obtain ⟨p1, hp1⟩ : ∃ k, t2 * r2 = k := ⟨_, rfl⟩
      obtain ⟨p2, hp2⟩ : ∃ k, t2 * z2 = k := ⟨_, rfl⟩
      rw [hp1] at n1 n2 he
      rw [hp2] at n3 n4 he
      have hw1 : IntKind.i64.wrap (t2 * r2) = p1 := by rw [hp1, IntKind.wrap_i64]; omega
      have hw2 : IntKind.i64.wrap (t2 * z2) = p2 := by rw [hp2, IntKind.wrap_i64]; omega
      have hw3 : IntKind.i64.wrap (a2 + p1) = a2 + p1 := by rw [IntKind.wrap_i64]; omega
      have hw4 : IntKind.i64.wrap (o2 + p2) = o2 + p2 := by rw [IntKind.wrap_i64]; omega
      have M1 := Lib.hid (fun v => pMod_any (a2 + p1) Q2 (by omega) (by omega) (by omega) (by omega) v)
      have M2 := Lib.hid (fun v => pMod_any (o2 + p2) Q2 (by omega) (by omega) (by omega) (by omega) v)
      rw [he] at M1
      generalize (o2 + p2) % Q2 = u at M1 M2
      clear hp1 hp2 he
      go_wp2_with fail
      refine wp_region_held_drew (S := (fun w' => w'.cell? ⟨x2.heap.size, 0, none⟩ = some (.int .i64 P2) ∧ w'.cell? ⟨x2.heap.size, 1, none⟩ = some (.int .i64 Q2) ∧ w'.cell? ⟨x2.heap.size, 2, none⟩ = some (.int .i64 G2))) (by kernel_rfl) (by first | exact ⟨HR_8.out.1, HR_8.out.2.1, HR_8.out.2.2⟩ | (dsimp only; exact ⟨HR_8.out.1, HR_8.out.2.1, HR_8.out.2.2⟩)) (fun hHeld => ?_)
      refine wpAnyH_take (i := 0) (v := ?_) rfl (by kernel_rfl) (by kernel_rfl) (by kernel_rfl) (fun _ _ _ h => h) (Or.inl ⟨by kernel_rfl, ?_⟩) (by assumption) ?_
      rotate_left 1
      · intro w hSw
        try dsimp only at hSw
        go_simp
        try with_reducible rfl
      try simp only [Act.put, List.getElem_toArray, List.getElem_cons_succ, List.getElem_cons_zero, List.setIfInBounds_toArray, List.set_cons_zero, List.set_cons_succ]
      refine wpAnyH_take (i := 1) (v := ?_) rfl (by kernel_rfl) (by kernel_rfl) (by kernel_rfl) (fun _ _ _ h => h) (Or.inl ⟨by kernel_rfl, ?_⟩) (by assumption) ?_
      rotate_left 1
      · intro w hSw
        try dsimp only at hSw
        go_simp
        try with_reducible rfl
      try simp only [Act.put, List.getElem_toArray, List.getElem_cons_succ, List.getElem_cons_zero, List.setIfInBounds_toArray, List.set_cons_zero, List.set_cons_succ]
      refine wpAnyH_take (i := 2) (v := ?_) rfl (by kernel_rfl) (by kernel_rfl) (by kernel_rfl) (fun _ _ _ h => h) (Or.inl ⟨by kernel_rfl, ?_⟩) (by assumption) ?_
      rotate_left 1
      · intro w hSw
        try dsimp only at hSw
        go_simp
        try with_reducible rfl
      try simp only [Act.put, List.getElem_toArray, List.getElem_cons_succ, List.getElem_cons_zero, List.setIfInBounds_toArray, List.set_cons_zero, List.set_cons_succ]
      refine wpAnyH_take (i := 3) (v := ?_) rfl (by kernel_rfl) (by kernel_rfl) (by kernel_rfl) (fun _ _ _ h => h) (Or.inl ⟨by kernel_rfl, ?_⟩) (by assumption) ?_
      rotate_left 1
      · intro w hSw
        try dsimp only at hSw
        go_simp
        try with_reducible rfl
      try simp only [Act.put, List.getElem_toArray, List.getElem_cons_succ, List.getElem_cons_zero, List.setIfInBounds_toArray, List.set_cons_zero, List.set_cons_succ]
      refine wpAnyH_take (i := 4) (v := ?_) rfl (by kernel_rfl) (by kernel_rfl) (by kernel_rfl) (fun _ _ _ h => h) (Or.inl ⟨by kernel_rfl, ?_⟩) (by assumption) ?_
      rotate_left 1
      · intro w hSw
        try dsimp only at hSw
        go_simp
        try with_reducible rfl
      try simp only [Act.put, List.getElem_toArray, List.getElem_cons_succ, List.getElem_cons_zero, List.setIfInBounds_toArray, List.set_cons_zero, List.set_cons_succ]
      refine wpAnyH_take (i := 5) (v := ?_) rfl (by kernel_rfl) (by kernel_rfl) (by kernel_rfl) (fun _ _ _ h => h) (Or.inl ⟨by kernel_rfl, ?_⟩) (by assumption) ?_
      rotate_left 1
      · intro w hSw
        try dsimp only at hSw
        go_simp
        try with_reducible rfl
      try simp only [Act.put, List.getElem_toArray, List.getElem_cons_succ, List.getElem_cons_zero, List.setIfInBounds_toArray, List.set_cons_zero, List.set_cons_succ]
      refine wpAnyH_take (i := 6) (v := ?_) rfl (by kernel_rfl) (by kernel_rfl) (by kernel_rfl) (fun _ _ _ h => h) (Or.inl ⟨by kernel_rfl, ?_⟩) (by assumption) ?_
      rotate_left 1
      · intro w hSw
        try dsimp only at hSw
        go_simp
        try with_reducible rfl
      try simp only [Act.put, List.getElem_toArray, List.getElem_cons_succ, List.getElem_cons_zero, List.setIfInBounds_toArray, List.set_cons_zero, List.set_cons_succ]
      refine wpAnyH_take (i := 7) (v := ?_) rfl (by kernel_rfl) (by kernel_rfl) (by kernel_rfl) (fun _ _ _ h => h) (Or.inl ⟨by kernel_rfl, ?_⟩) (by assumption) ?_
      rotate_left 1
      · intro w hSw
        try dsimp only at hSw
        go_simp
        try with_reducible rfl
      try simp only [Act.put, List.getElem_toArray, List.getElem_cons_succ, List.getElem_cons_zero, List.setIfInBounds_toArray, List.set_cons_zero, List.set_cons_succ]
      refine wpAnyH_take (i := 8) (v := ?_) rfl (by kernel_rfl) (by kernel_rfl) (by kernel_rfl) (fun _ _ _ h => h) (Or.inl ⟨by kernel_rfl, ?_⟩) (by assumption) ?_
      rotate_left 1
      · intro w hSw
        try dsimp only at hSw
        go_simp
        try with_reducible rfl
      try simp only [Act.put, List.getElem_toArray, List.getElem_cons_succ, List.getElem_cons_zero, List.setIfInBounds_toArray, List.set_cons_zero, List.set_cons_succ]
      refine wpAnyH_take (i := 9) (v := ?_) rfl (by kernel_rfl) (by kernel_rfl) (by kernel_rfl) (fun _ _ _ h => h) (Or.inl ⟨by kernel_rfl, ?_⟩) (by assumption) ?_
      rotate_left 1
      · intro w hSw
        try dsimp only at hSw
        go_simp
        try with_reducible rfl
      try simp only [Act.put, List.getElem_toArray, List.getElem_cons_succ, List.getElem_cons_zero, List.setIfInBounds_toArray, List.set_cons_zero, List.set_cons_succ]
      refine wpAnyH_take (i := 11) (v := ?_) rfl (by kernel_rfl) (by kernel_rfl) (by kernel_rfl) (fun _ _ _ h => h) (Or.inl ⟨by kernel_rfl, ?_⟩) (by assumption) ?_
      rotate_left 1
      · intro w hSw
        try dsimp only at hSw
        go_simp
        try with_reducible rfl
      try simp only [Act.put, List.getElem_toArray, List.getElem_cons_succ, List.getElem_cons_zero, List.setIfInBounds_toArray, List.set_cons_zero, List.set_cons_succ]
      refine wpAnyH_take (i := 12) (v := ?_) rfl (by kernel_rfl) (by kernel_rfl) (by kernel_rfl) (fun _ _ _ h => h) (Or.inl ⟨by kernel_rfl, ?_⟩) (by assumption) ?_
      rotate_left 1
      · intro w hSw
        try dsimp only at hSw
        go_simp
        try with_reducible rfl
      try simp only [Act.put, List.getElem_toArray, List.getElem_cons_succ, List.getElem_cons_zero, List.setIfInBounds_toArray, List.set_cons_zero, List.set_cons_succ]
      refine wpAnyH_take (i := 13) (v := ?_) rfl (by kernel_rfl) (by kernel_rfl) (by kernel_rfl) (fun _ _ _ h => h) (Or.inl ⟨by kernel_rfl, ?_⟩) (by assumption) ?_
      rotate_left 1
      · intro w hSw
        try dsimp only at hSw
        go_simp
        try with_reducible rfl
      try simp only [Act.put, List.getElem_toArray, List.getElem_cons_succ, List.getElem_cons_zero, List.setIfInBounds_toArray, List.set_cons_zero, List.set_cons_succ]
      refine wpAnyH_take (i := 14) (v := ?_) rfl (by kernel_rfl) (by kernel_rfl) (by kernel_rfl) (fun _ _ _ h => h) (Or.inl ⟨by kernel_rfl, ?_⟩) (by assumption) ?_
      rotate_left 1
      · intro w hSw
        try dsimp only at hSw
        go_simp
        try with_reducible rfl
      try simp only [Act.put, List.getElem_toArray, List.getElem_cons_succ, List.getElem_cons_zero, List.setIfInBounds_toArray, List.set_cons_zero, List.set_cons_succ]
      refine wpAnyH_take (i := 15) (v := ?_) rfl (by kernel_rfl) (by kernel_rfl) (by kernel_rfl) (fun _ _ _ h => h) (Or.inl ⟨by kernel_rfl, ?_⟩) (by assumption) ?_
      rotate_left 1
      · intro w hSw
        try dsimp only at hSw
        go_simp
        try with_reducible rfl
      try simp only [Act.put, List.getElem_toArray, List.getElem_cons_succ, List.getElem_cons_zero, List.setIfInBounds_toArray, List.set_cons_zero, List.set_cons_succ]
      refine wpAnyH_take (i := 16) (v := ?_) rfl (by kernel_rfl) (by kernel_rfl) (by kernel_rfl) (fun _ _ _ h => h) (Or.inl ⟨by kernel_rfl, ?_⟩) (by assumption) ?_
      rotate_left 1
      · intro w hSw
        try dsimp only at hSw
        go_simp
        try with_reducible rfl
      try simp only [Act.put, List.getElem_toArray, List.getElem_cons_succ, List.getElem_cons_zero, List.setIfInBounds_toArray, List.set_cons_zero, List.set_cons_succ]
      refine wpAnyH_take (i := 17) (v := ?_) rfl (by kernel_rfl) (by kernel_rfl) (by kernel_rfl) (fun _ _ _ h => h) (Or.inl ⟨by kernel_rfl, ?_⟩) (by assumption) ?_
      rotate_left 1
      · intro w hSw
        try dsimp only at hSw
        go_simp
        try with_reducible rfl
      try simp only [Act.put, List.getElem_toArray, List.getElem_cons_succ, List.getElem_cons_zero, List.setIfInBounds_toArray, List.set_cons_zero, List.set_cons_succ]
      refine wpAnyH_ready (rs := [10]) (by kernel_rfl) (by simp) ?_
      refine AllReadyH.cons rfl (fun K hK => ?_) AllReadyH.nil
      go_simp
      go_at_call 54
      refine (M1.out _).mono ?_
      rintro e wp ⟨rfl, rfl⟩
      go_wp2_with fail
      refine hK.out _ _ (by first | exact ⟨HR_8.out.1, HR_8.out.2.1, HR_8.out.2.2⟩ | (dsimp only; exact ⟨HR_8.out.1, HR_8.out.2.1, HR_8.out.2.2⟩)) (fun hHeld => ?_)
      clear hK K
      try simp only [Act.put, List.getElem_toArray, List.getElem_cons_succ, List.getElem_cons_zero, List.setIfInBounds_toArray, List.set_cons_zero, List.set_cons_succ]
      refine wpAnyH_ready (rs := [18]) (by kernel_rfl) (by simp) ?_
      refine AllReadyH.cons rfl (fun K hK => ?_) AllReadyH.nil
      go_simp
      go_at_call 54
      refine (M2.out _).mono ?_
      rintro e wp ⟨rfl, rfl⟩
      go_wp2_with fail
      refine hK.out _ _ (by first | exact ⟨HR_8.out.1, HR_8.out.2.1, HR_8.out.2.2⟩ | (dsimp only; exact ⟨HR_8.out.1, HR_8.out.2.1, HR_8.out.2.2⟩)) (fun hHeld => ?_)
      clear hK K
      try simp only [Act.put, List.getElem_toArray, List.getElem_cons_succ, List.getElem_cons_zero, List.setIfInBounds_toArray, List.set_cons_zero, List.set_cons_succ]
      refine wpAnyH_take (i := 19) (v := ?_) rfl (by kernel_rfl) (by kernel_rfl) (by kernel_rfl) (fun _ _ _ h => h) (Or.inl ⟨by kernel_rfl, ?_⟩) (by assumption) ?_
      rotate_left 1
      · intro w hSw
        try dsimp only at hSw
        go_simp
        try with_reducible rfl
      try simp only [Act.put, List.getElem_toArray, List.getElem_cons_succ, List.getElem_cons_zero, List.setIfInBounds_toArray, List.set_cons_zero, List.set_cons_succ]
      refine wpAnyH_take (i := 20) (v := ?_) rfl (by kernel_rfl) (by kernel_rfl) (by kernel_rfl) (fun _ _ _ h => h) (Or.inl ⟨by kernel_rfl, ?_⟩) (by assumption) ?_
      rotate_left 1
      · intro w hSw
        try dsimp only at hSw
        go_simp
        try with_reducible rfl
      try simp only [Act.put, List.getElem_toArray, List.getElem_cons_succ, List.getElem_cons_zero, List.setIfInBounds_toArray, List.set_cons_zero, List.set_cons_succ]
      refine wpAnyH_take (i := 21) (v := ?_) rfl (by kernel_rfl) (by kernel_rfl) (by kernel_rfl) (fun _ _ _ h => h) (Or.inl ⟨by kernel_rfl, ?_⟩) (by assumption) ?_
      rotate_left 1
      · intro w hSw
        try dsimp only at hSw
        go_simp
        try with_reducible rfl
      try simp only [Act.put, List.getElem_toArray, List.getElem_cons_succ, List.getElem_cons_zero, List.setIfInBounds_toArray, List.set_cons_zero, List.set_cons_succ]
      refine wpAnyH_done (by kernel_rfl) ?_ _
      go_wp2
      go_ret
      exact ⟨rfl, HV_8.out.drew⟩
  · obtain ⟨⟨f1, f2⟩, ⟨f3, f4⟩, f5, ⟨q1, q2⟩, ⟨hm0, hm1⟩, hr0, hr1⟩ := com_facts K2.out
    rw [K1.out] at f1 f2 f3 f4
    obtain ⟨k3, hk3⟩ : ∃ k, cmV P Q G H hs (2 * m % Q) (2 * r % Q) = k := ⟨_, rfl⟩
    rw [hk3] at f4
    have K3 := Lib.hid hk3
    have F1 := Lib.hid f1
    have F2 := Lib.hid f2
    have F3 := Lib.hid f3
    have F4 := Lib.hid f4
    have F5 := Lib.hid f5
    clear hk3 f1 f2 f3 f4 f5
    obtain ⟨c0, c1, c2⟩ := HR_2.out
    obtain ⟨d0, d1⟩ := HB_2.out
    go_wp2_with fail
    refine (checkOpening_any P Q G H (by omega) k1 m r HA_2.out).mono ?_
    rw [K1.out, K2.out, F1.out, F2.out]
    rintro e v12 ⟨rfl, hb⟩
    clear c0 c1 c2 d0 d1
    have HV_3 := Lib.hid (bt HV_2.out hb)
    have HR_3 := Lib.hid (HR_2.out.below hb)
    have HB_3 := Lib.hid (HB_2.out.below hb)
    have HA_3 := Lib.hid (HA_2.out.below hb)
    clear hb HV_2 HR_2 HB_2 HA_2
    have hl := bt (ba v12 (.cells #[.int .i64 k1, .int .i64 k1] 3)) (ba (v12.alloc (.cells #[.int .i64 k1, .int .i64 k1] 3)) (.cells #[.int .i64 1, .int .i64 1] 3))
    have X1 := Lib.hid ((show InI (v12.alloc (.cells #[.int .i64 k1, .int .i64 k1] 3)).heap.size (v12.alloc (.cells #[.int .i64 k1, .int .i64 k1] 3)) (.slice (some ⟨v12.heap.size, 0, none⟩) 2 2) [k1, k1] from InI.of (ints_spot v12 _ rfl [k1, k1] 3) (fun h => by cases h) (Nat.le_refl _)).below (ba _ (.cells #[.int .i64 1, .int .i64 1] 3)))
    have X2 := Lib.hid (show InI ((v12.alloc (.cells #[.int .i64 k1, .int .i64 k1] 3)).alloc (.cells #[.int .i64 1, .int .i64 1] 3)).heap.size ((v12.alloc (.cells #[.int .i64 k1, .int .i64 k1] 3)).alloc (.cells #[.int .i64 1, .int .i64 1] 3)) (.slice (some ⟨v12.heap.size + 1, 0, none⟩) 2 2) [1, 1] from InI.of (ints_spot (v12.alloc (.cells #[.int .i64 k1, .int .i64 k1] 3)) (v12.heap.size + 1) (by simp) [1, 1] 3) (fun h => by cases h) (Nat.le_refl _))
    have HL := Lib.hid hl
    clear hl
    obtain ⟨c0, c1, c2⟩ := HR_3.out
    go_wp2_with fail
    refine (combineCommits_any P Q G (us := [k1, k1]) (es := [1, 1]) (by simp) (by simp) X1.out X2.out).mono ?_
    rw [F4.out, F3.out]
    rintro e v13 ⟨rfl, hb2⟩
    have hb := bt HL.out hb2
    clear hb2 c0 c1 c2 X1 X2 HL
    have HV_4 := Lib.hid (bt HV_3.out hb)
    have HR_4 := Lib.hid (HR_3.out.below hb)
    have HB_4 := Lib.hid (HB_3.out.below hb)
    have HA_4 := Lib.hid (HA_3.out.below hb)
    clear hb HV_3 HR_3 HB_3 HA_3
    have hbd : Below v13.heap.size v13 v13.drew := (Below.refl _ v13).drew
    have HV_5 := Lib.hid (bt HV_4.out hbd)
    have HR_5 := Lib.hid (HR_4.out.below hbd)
    have HB_5 := Lib.hid (HB_4.out.below hbd)
    have HA_5 := Lib.hid (HA_4.out.below hbd)
    clear hbd HV_4 HR_4 HB_4 HA_4
    have hq0 : Q ≠ 0 := by omega
    have x1 : (2 * m).tmod Q = 2 * m % Q := Int.tmod_eq_emod_of_nonneg (by omega)
    have x2 : (2 * r).tmod Q = 2 * r % Q := Int.tmod_eq_emod_of_nonneg (by omega)
    have y1 := Int.emod_nonneg (2 * m) hq0
    have y2 := Int.emod_lt_of_pos (2 * m) (show 0 < Q by omega)
    have y3 := Int.emod_nonneg (2 * r) hq0
    have y4 := Int.emod_lt_of_pos (2 * r) (show 0 < Q by omega)
    have hw1 : IntKind.i64.wrap (2 * m) = 2 * m := by rw [IntKind.wrap_i64]; omega
    have hw2 : IntKind.i64.wrap (2 * r) = 2 * r := by rw [IntKind.wrap_i64]; omega
    have hw3 : IntKind.i64.wrap (2 * m % Q) = 2 * m % Q := by rw [IntKind.wrap_i64]; omega
    have hw4 : IntKind.i64.wrap (2 * r % Q) = 2 * r % Q := by rw [IntKind.wrap_i64]; omega
    have hw5 : IntKind.i64.wrap ((2 * m).tmod Q) = 2 * m % Q := by rw [x1]; exact hw3
    have hw6 : IntKind.i64.wrap ((2 * r).tmod Q) = 2 * r % Q := by rw [x2]; exact hw4
    clear y1 y2 y3 y4
    go_wp2_with fail
    refine wp_region_held_drew (S := (fun w' => (w'.cell? ⟨v1.heap.size, 0, none⟩ = some (.int .i64 P) ∧ w'.cell? ⟨v1.heap.size, 1, none⟩ = some (.int .i64 Q) ∧ w'.cell? ⟨v1.heap.size, 2, none⟩ = some (.int .i64 G)) ∧ w'.cell? ⟨v1.heap.size + 1, 0, none⟩ = some (.int .i64 H) ∧ w'.cell? ⟨v1.heap.size + 1, 1, none⟩ = some (.slice ya hs.length yc))) (by kernel_rfl) (by first | exact ⟨⟨HR_5.out.1, HR_5.out.2.1, HR_5.out.2.2⟩, HB_5.out.1, HB_5.out.2⟩ | (dsimp only; exact ⟨⟨HR_5.out.1, HR_5.out.2.1, HR_5.out.2.2⟩, HB_5.out.1, HB_5.out.2⟩)) (fun hHeld => ?_)
    refine wpAnyH_take (i := 0) (v := ?_) rfl (by kernel_rfl) (by kernel_rfl) (by kernel_rfl) (fun _ _ _ h => h) (Or.inl ⟨by kernel_rfl, ?_⟩) (by assumption) ?_
    rotate_left 1
    · intro w hSw
      try dsimp only at hSw
      go_simp
      try with_reducible rfl
    try simp only [Act.put, List.getElem_toArray, List.getElem_cons_succ, List.getElem_cons_zero, List.setIfInBounds_toArray, List.set_cons_zero, List.set_cons_succ]
    refine wpAnyH_take (i := 1) (v := ?_) rfl (by kernel_rfl) (by kernel_rfl) (by kernel_rfl) (fun _ _ _ h => h) (Or.inl ⟨by kernel_rfl, ?_⟩) (by assumption) ?_
    rotate_left 1
    · intro w hSw
      try dsimp only at hSw
      go_simp
      try with_reducible rfl
    try simp only [Act.put, List.getElem_toArray, List.getElem_cons_succ, List.getElem_cons_zero, List.setIfInBounds_toArray, List.set_cons_zero, List.set_cons_succ]
    refine wpAnyH_take (i := 2) (v := ?_) rfl (by kernel_rfl) (by kernel_rfl) (by kernel_rfl) (fun _ _ _ h => h) (Or.inl ⟨by kernel_rfl, ?_⟩) (by assumption) ?_
    rotate_left 1
    · intro w hSw
      try dsimp only at hSw
      go_simp
      try with_reducible rfl
    try simp only [Act.put, List.getElem_toArray, List.getElem_cons_succ, List.getElem_cons_zero, List.setIfInBounds_toArray, List.set_cons_zero, List.set_cons_succ]
    refine wpAnyH_take (i := 3) (v := ?_) rfl (by kernel_rfl) (by kernel_rfl) (by kernel_rfl) (fun _ _ _ h => h) (Or.inl ⟨by kernel_rfl, ?_⟩) (by assumption) ?_
    rotate_left 1
    · intro w hSw
      try dsimp only at hSw
      go_simp
      try with_reducible rfl
    try simp only [Act.put, List.getElem_toArray, List.getElem_cons_succ, List.getElem_cons_zero, List.setIfInBounds_toArray, List.set_cons_zero, List.set_cons_succ]
    refine wpAnyH_take (i := 4) (v := ?_) rfl (by kernel_rfl) (by kernel_rfl) (by kernel_rfl) (fun _ _ _ h => h) (Or.inl ⟨by kernel_rfl, ?_⟩) (by assumption) ?_
    rotate_left 1
    · intro w hSw
      try dsimp only at hSw
      go_simp
      try with_reducible rfl
    try simp only [Act.put, List.getElem_toArray, List.getElem_cons_succ, List.getElem_cons_zero, List.setIfInBounds_toArray, List.set_cons_zero, List.set_cons_succ]
    refine wpAnyH_take (i := 5) (v := ?_) rfl (by kernel_rfl) (by kernel_rfl) (by kernel_rfl) (fun _ _ _ h => h) (Or.inl ⟨by kernel_rfl, ?_⟩) (by assumption) ?_
    rotate_left 1
    · intro w hSw
      try dsimp only at hSw
      go_simp
      try with_reducible rfl
    try simp only [Act.put, List.getElem_toArray, List.getElem_cons_succ, List.getElem_cons_zero, List.setIfInBounds_toArray, List.set_cons_zero, List.set_cons_succ]
    refine wpAnyH_take (i := 6) (v := ?_) rfl (by kernel_rfl) (by kernel_rfl) (by kernel_rfl) (fun _ _ _ h => h) (Or.inl ⟨by kernel_rfl, ?_⟩) (by assumption) ?_
    rotate_left 1
    · intro w hSw
      try dsimp only at hSw
      go_simp
      try with_reducible rfl
    try simp only [Act.put, List.getElem_toArray, List.getElem_cons_succ, List.getElem_cons_zero, List.setIfInBounds_toArray, List.set_cons_zero, List.set_cons_succ]
    refine wpAnyH_take (i := 7) (v := ?_) rfl (by kernel_rfl) (by kernel_rfl) (by kernel_rfl) (fun _ _ _ h => h) (Or.inl ⟨by kernel_rfl, ?_⟩) (by assumption) ?_
    rotate_left 1
    · intro w hSw
      try dsimp only at hSw
      go_simp
      try with_reducible rfl
    try simp only [Act.put, List.getElem_toArray, List.getElem_cons_succ, List.getElem_cons_zero, List.setIfInBounds_toArray, List.set_cons_zero, List.set_cons_succ]
    refine wpAnyH_take (i := 8) (v := ?_) rfl (by kernel_rfl) (by kernel_rfl) (by kernel_rfl) (fun _ _ _ h => h) (Or.inl ⟨by kernel_rfl, ?_⟩) (by assumption) ?_
    rotate_left 1
    · intro w hSw
      try dsimp only at hSw
      go_simp
      try with_reducible rfl
    try simp only [Act.put, List.getElem_toArray, List.getElem_cons_succ, List.getElem_cons_zero, List.setIfInBounds_toArray, List.set_cons_zero, List.set_cons_succ]
    refine wpAnyH_take (i := 9) (v := ?_) rfl (by kernel_rfl) (by kernel_rfl) (by kernel_rfl) (fun _ _ _ h => h) (Or.inl ⟨by kernel_rfl, ?_⟩) (by assumption) ?_
    rotate_left 1
    · intro w hSw
      try dsimp only at hSw
      go_simp
      try with_reducible rfl
    try simp only [Act.put, List.getElem_toArray, List.getElem_cons_succ, List.getElem_cons_zero, List.setIfInBounds_toArray, List.set_cons_zero, List.set_cons_succ]
    refine wpAnyH_take (i := 10) (v := ?_) rfl (by kernel_rfl) (by kernel_rfl) (by kernel_rfl) (fun _ _ _ h => h) (Or.inl ⟨by kernel_rfl, ?_⟩) (by assumption) ?_
    rotate_left 1
    · intro w hSw
      try dsimp only at hSw
      go_simp
      try with_reducible rfl
    try simp only [Act.put, List.getElem_toArray, List.getElem_cons_succ, List.getElem_cons_zero, List.setIfInBounds_toArray, List.set_cons_zero, List.set_cons_succ]
    refine wpAnyH_take (i := 11) (v := ?_) rfl (by kernel_rfl) (by kernel_rfl) (by kernel_rfl) (fun _ _ _ h => h) (Or.inl ⟨by kernel_rfl, ?_⟩) (by assumption) ?_
    rotate_left 1
    · intro w hSw
      try dsimp only at hSw
      go_simp
      try with_reducible rfl
    try simp only [Act.put, List.getElem_toArray, List.getElem_cons_succ, List.getElem_cons_zero, List.setIfInBounds_toArray, List.set_cons_zero, List.set_cons_succ]
    refine wpAnyH_ready (rs := [12]) (by kernel_rfl) (by simp) ?_
    refine AllReadyH.cons rfl (fun K hK => ?_) AllReadyH.nil
    go_simp
    go_at_call 25
    refine (commit_any P Q G H (by omega) (2 * m % Q) (2 * r % Q) HA_5.out).mono ?_
    rw [K3.out, F5.out]
    rintro e v15 ⟨rfl, hb⟩
    have HV_6 := Lib.hid (bt HV_5.out hb)
    have HR_6 := Lib.hid (HR_5.out.below hb)
    have HB_6 := Lib.hid (HB_5.out.below hb)
    have HA_6 := Lib.hid (HA_5.out.below hb)
    clear hb
    go_wp2_with fail
    refine hK.out _ _ (by first | exact ⟨⟨HR_6.out.1, HR_6.out.2.1, HR_6.out.2.2⟩, HB_6.out.1, HB_6.out.2⟩ | (dsimp only; exact ⟨⟨HR_6.out.1, HR_6.out.2.1, HR_6.out.2.2⟩, HB_6.out.1, HB_6.out.2⟩)) (fun hHeld => ?_)
    clear hK K
    try simp only [Act.put, List.getElem_toArray, List.getElem_cons_succ, List.getElem_cons_zero, List.setIfInBounds_toArray, List.set_cons_zero, List.set_cons_succ]
    refine wpAnyH_take (i := 13) (v := ?_) rfl (by kernel_rfl) (by kernel_rfl) (by kernel_rfl) (fun _ _ _ h => h) (Or.inl ⟨by kernel_rfl, ?_⟩) (by assumption) ?_
    rotate_left 1
    · intro w hSw
      try dsimp only at hSw
      go_simp
      try with_reducible rfl
    try simp only [Act.put, List.getElem_toArray, List.getElem_cons_succ, List.getElem_cons_zero, List.setIfInBounds_toArray, List.set_cons_zero, List.set_cons_succ]
    refine wpAnyH_take (i := 14) (v := ?_) rfl (by kernel_rfl) (by kernel_rfl) (by kernel_rfl) (fun _ _ _ h => h) (Or.inl ⟨by kernel_rfl, ?_⟩) (by assumption) ?_
    rotate_left 1
    · intro w hSw
      try dsimp only at hSw
      go_simp
      try with_reducible rfl
    try simp only [Act.put, List.getElem_toArray, List.getElem_cons_succ, List.getElem_cons_zero, List.setIfInBounds_toArray, List.set_cons_zero, List.set_cons_succ]
    refine wpAnyH_take (i := 15) (v := ?_) rfl (by kernel_rfl) (by kernel_rfl) (by kernel_rfl) (fun _ _ _ h => h) (Or.inl ⟨by kernel_rfl, ?_⟩) (by assumption) ?_
    rotate_left 1
    · intro w hSw
      try dsimp only at hSw
      go_simp
      try with_reducible rfl
    try simp only [Act.put, List.getElem_toArray, List.getElem_cons_succ, List.getElem_cons_zero, List.setIfInBounds_toArray, List.set_cons_zero, List.set_cons_succ]
    refine wpAnyH_take (i := 16) (v := ?_) rfl (by kernel_rfl) (by kernel_rfl) (by kernel_rfl) (fun _ _ _ h => h) (Or.inl ⟨by kernel_rfl, ?_⟩) (by assumption) ?_
    rotate_left 1
    · intro w hSw
      try dsimp only at hSw
      go_simp
      try with_reducible rfl
    try simp only [Act.put, List.getElem_toArray, List.getElem_cons_succ, List.getElem_cons_zero, List.setIfInBounds_toArray, List.set_cons_zero, List.set_cons_succ]
    refine wpAnyH_take (i := 17) (v := ?_) rfl (by kernel_rfl) (by kernel_rfl) (by kernel_rfl) (fun _ _ _ h => h) (Or.inl ⟨by kernel_rfl, ?_⟩) (by assumption) ?_
    rotate_left 1
    · intro w hSw
      try dsimp only at hSw
      go_simp
      try with_reducible rfl
    try simp only [Act.put, List.getElem_toArray, List.getElem_cons_succ, List.getElem_cons_zero, List.setIfInBounds_toArray, List.set_cons_zero, List.set_cons_succ]
    refine wpAnyH_done (by kernel_rfl) ?_ _
    clear HV_5 HR_5 HB_5 HA_5 x1 x2 hw1 hw2 hw3 hw4 hw5 hw6 hHeld
    clear hq0
    clear HR_6 HB_6 HA_6
    go_wp2_with fail
    refine (drawCommitVector_any _ _ _ _ (HB1.out.below HV_6.out)).mono ?_
    rintro e x1 ⟨P1, Q1, G1, H1, s1, y1, z1, hs1, zs1, rfl, _, ⟨hn1, hn2⟩, hy1, hz1, hv1⟩
    obtain ⟨ya1, yc1, rfl⟩ := hy1.shape
    obtain ⟨za1, zc1, rfl⟩ := hz1.shape
    have hal := bt (ba x1 (.cells #[.int .i64 P1, .int .i64 Q1, .int .i64 G1] 29)) (ba (x1.alloc (.cells #[.int .i64 P1, .int .i64 Q1, .int .i64 G1] 29)) (.cells #[.int .i64 H1, .slice ya1 hs1.length yc1] 26))
    have HV_7 := Lib.hid (bt (bt HV_6.out hv1) hal)
    have HR_7 := Lib.hid ((gr_new x1 P1 Q1 G1 29).below (ba _ (.cells #[.int .i64 H1, .slice ya1 hs1.length yc1] 26)))
    have HB_7 := Lib.hid (d2_at (x1.alloc (.cells #[.int .i64 P1, .int .i64 Q1, .int .i64 G1] 29)) (x1.heap.size + 1) (by simp) (.int .i64 H1) (.slice ya1 hs1.length yc1) 26)
    have HA_7 := Lib.hid (hy1.below hal)
    have HZ_7 := Lib.hid (hz1.below hal)
    clear hv1 hal hy1 hz1 HV_6
    obtain ⟨k5, hk5⟩ : ∃ k, cvV P1 Q1 G1 H1 hs1 zs1 s1 = k := ⟨_, rfl⟩
    have K5 := Lib.hid hk5
    clear hk5
    obtain ⟨k6, hk6⟩ : ∃ k, cvB P1 Q1 G1 H1 hs1 zs1 s1 = k := ⟨_, rfl⟩
    have K6 := Lib.hid hk6
    clear hk6
    obtain ⟨c0, c1, c2⟩ := HR_7.out
    obtain ⟨d0, d1⟩ := HB_7.out
    go_wp2_with fail
    refine (commitVector_any P1 Q1 G1 H1 (by omega) (by omega) s1 HA_7.out HZ_7.out).mono ?_
    rw [K5.out, K6.out]
    rintro e v17 ⟨rfl, hb⟩
    clear c0 c1 c2 d0 d1
    have HV_8 := Lib.hid (bt HV_7.out hb)
    have HR_8 := Lib.hid (HR_7.out.below hb)
    have HB_8 := Lib.hid (HB_7.out.below hb)
    have HA_8 := Lib.hid (HA_7.out.below hb)
    have HZ_8 := Lib.hid (HZ_7.out.below hb)
    clear hb HV_7 HR_7 HB_7 HA_7 HZ_7
    obtain ⟨c0, c1, c2⟩ := HR_8.out
    obtain ⟨d0, d1⟩ := HB_8.out
    go_wp2_with fail
    refine (sCommitVector_any P1 Q1 G1 H1 (by omega) (by omega) s1 HA_8.out HZ_8.out).mono ?_
    rw [K5.out, K6.out]
    rintro e v18 ⟨rfl, hb⟩
    clear c0 c1 c2 d0 d1
    have HV_9 := Lib.hid (bt HV_8.out hb)
    have HR_9 := Lib.hid (HR_8.out.below hb)
    have HB_9 := Lib.hid (HB_8.out.below hb)
    have HA_9 := Lib.hid (HA_8.out.below hb)
    have HZ_9 := Lib.hid (HZ_8.out.below hb)
    clear hb HV_8 HR_8 HB_8 HA_8 HZ_8
    clear HR_9 HB_9 HA_9 HZ_9 K5 K6
    go_wp2_with fail
    refine (drawEquivocate_any _ _ _ _ (HB1.out.below HV_9.out)).mono ?_
    rintro e x2 ⟨P2, Q2, G2, t2, a2, r2, o2, rfl, _, _, hv2⟩
    have hal := ba x2 (.cells #[.int .i64 P2, .int .i64 Q2, .int .i64 G2] 29)
    have HV_10 := Lib.hid (bt (bt HV_9.out hv2) hal)
    have HR_10 := Lib.hid (gr_new x2 P2 Q2 G2 29)
    clear hv2 hal HV_9
    have HE := Lib.hid (fun h => ev_facts (P := P2) (Q := Q2) (G := G2) (t := t2) (m := a2) (r := r2) (o := o2) h)
    have C1 := Lib.hid (fun v => equivocate_any P2 Q2 G2 t2 a2 r2 o2 v)
    have C2 := Lib.hid (fun v => sEquivocate_any P2 Q2 G2 t2 a2 r2 o2 v)
    generalize evV P2 Q2 G2 t2 a2 r2 o2 = z2 at HE C1 C2
    generalize evB P2 Q2 G2 t2 a2 r2 o2 = b2 at HE C1 C2
    obtain ⟨c0, c1, c2⟩ := HR_10.out
    go_wp2_with fail
    refine (C1.out _).mono ?_
    rintro e v20 ⟨rfl, hb⟩
    clear c0 c1 c2
    have HV_11 := Lib.hid (bt HV_10.out hb)
    have HR_11 := Lib.hid (HR_10.out.below hb)
    clear hb HV_10 HR_10
    obtain ⟨c0, c1, c2⟩ := HR_11.out
    go_wp2_with fail
    refine (C2.out _).mono ?_
    rintro e v21 ⟨rfl, hb⟩
    clear c0 c1 c2
    have HV_12 := Lib.hid (bt HV_11.out hb)
    have HR_12 := Lib.hid (HR_11.out.below hb)
    clear hb HV_11 HR_11
    clear C1 C2
    cases b2
    · go_wp2_with fail
      refine wp_region_held_drew (S := (fun w' => w'.cell? ⟨x2.heap.size, 0, none⟩ = some (.int .i64 P2) ∧ w'.cell? ⟨x2.heap.size, 1, none⟩ = some (.int .i64 Q2) ∧ w'.cell? ⟨x2.heap.size, 2, none⟩ = some (.int .i64 G2))) (by kernel_rfl) (by first | exact ⟨HR_12.out.1, HR_12.out.2.1, HR_12.out.2.2⟩ | (dsimp only; exact ⟨HR_12.out.1, HR_12.out.2.1, HR_12.out.2.2⟩)) (fun hHeld => ?_)
      refine wpAnyH_take (i := 0) (v := ?_) rfl (by kernel_rfl) (by kernel_rfl) (by kernel_rfl) (fun _ _ _ h => h) (Or.inl ⟨by kernel_rfl, ?_⟩) (by assumption) ?_
      rotate_left 1
      · intro w hSw
        try dsimp only at hSw
        go_simp
        try with_reducible rfl
      try simp only [Act.put, List.getElem_toArray, List.getElem_cons_succ, List.getElem_cons_zero, List.setIfInBounds_toArray, List.set_cons_zero, List.set_cons_succ]
      refine wpAnyH_take (i := 1) (v := ?_) rfl (by kernel_rfl) (by kernel_rfl) (by kernel_rfl) (fun _ _ _ h => h) (Or.inl ⟨by kernel_rfl, ?_⟩) (by assumption) ?_
      rotate_left 1
      · intro w hSw
        try dsimp only at hSw
        go_simp
        try with_reducible rfl
      try simp only [Act.put, List.getElem_toArray, List.getElem_cons_succ, List.getElem_cons_zero, List.setIfInBounds_toArray, List.set_cons_zero, List.set_cons_succ]
      refine wpAnyH_take (i := 2) (v := ?_) rfl (by kernel_rfl) (by kernel_rfl) (by kernel_rfl) (fun _ _ _ h => h) (Or.inl ⟨by kernel_rfl, ?_⟩) (by assumption) ?_
      rotate_left 1
      · intro w hSw
        try dsimp only at hSw
        go_simp
        try with_reducible rfl
      try simp only [Act.put, List.getElem_toArray, List.getElem_cons_succ, List.getElem_cons_zero, List.setIfInBounds_toArray, List.set_cons_zero, List.set_cons_succ]
      refine wpAnyH_take (i := 3) (v := undef) rfl (by kernel_rfl) (by kernel_rfl) (by kernel_rfl) (fun _ _ _ h => h) (Or.inr ⟨by kernel_rfl, rfl⟩) (by assumption) ?_
      try simp only [Act.put, List.getElem_toArray, List.getElem_cons_succ, List.getElem_cons_zero, List.setIfInBounds_toArray, List.set_cons_zero, List.set_cons_succ]
      refine wpAnyH_take (i := 4) (v := undef) rfl (by kernel_rfl) (by kernel_rfl) (by kernel_rfl) (fun _ _ _ h => h) (Or.inr ⟨by kernel_rfl, rfl⟩) (by assumption) ?_
      try simp only [Act.put, List.getElem_toArray, List.getElem_cons_succ, List.getElem_cons_zero, List.setIfInBounds_toArray, List.set_cons_zero, List.set_cons_succ]
      refine wpAnyH_take (i := 5) (v := undef) rfl (by kernel_rfl) (by kernel_rfl) (by kernel_rfl) (fun _ _ _ h => h) (Or.inr ⟨by kernel_rfl, rfl⟩) (by assumption) ?_
      try simp only [Act.put, List.getElem_toArray, List.getElem_cons_succ, List.getElem_cons_zero, List.setIfInBounds_toArray, List.set_cons_zero, List.set_cons_succ]
      refine wpAnyH_take (i := 6) (v := undef) rfl (by kernel_rfl) (by kernel_rfl) (by kernel_rfl) (fun _ _ _ h => h) (Or.inr ⟨by kernel_rfl, rfl⟩) (by assumption) ?_
      try simp only [Act.put, List.getElem_toArray, List.getElem_cons_succ, List.getElem_cons_zero, List.setIfInBounds_toArray, List.set_cons_zero, List.set_cons_succ]
      refine wpAnyH_take (i := 7) (v := undef) rfl (by kernel_rfl) (by kernel_rfl) (by kernel_rfl) (fun _ _ _ h => h) (Or.inr ⟨by kernel_rfl, rfl⟩) (by assumption) ?_
      try simp only [Act.put, List.getElem_toArray, List.getElem_cons_succ, List.getElem_cons_zero, List.setIfInBounds_toArray, List.set_cons_zero, List.set_cons_succ]
      refine wpAnyH_take (i := 8) (v := undef) rfl (by kernel_rfl) (by kernel_rfl) (by kernel_rfl) (fun _ _ _ h => h) (Or.inr ⟨by kernel_rfl, rfl⟩) (by assumption) ?_
      try simp only [Act.put, List.getElem_toArray, List.getElem_cons_succ, List.getElem_cons_zero, List.setIfInBounds_toArray, List.set_cons_zero, List.set_cons_succ]
      refine wpAnyH_take (i := 9) (v := undef) rfl (by kernel_rfl) (by kernel_rfl) (by kernel_rfl) (fun _ _ _ h => h) (Or.inr ⟨by kernel_rfl, rfl⟩) (by assumption) ?_
      try simp only [Act.put, List.getElem_toArray, List.getElem_cons_succ, List.getElem_cons_zero, List.setIfInBounds_toArray, List.set_cons_zero, List.set_cons_succ]
      refine wpAnyH_take (i := 10) (v := undef) rfl (by kernel_rfl) (by kernel_rfl) (by kernel_rfl) (fun _ _ _ h => h) (Or.inr ⟨by kernel_rfl, rfl⟩) (by assumption) ?_
      try simp only [Act.put, List.getElem_toArray, List.getElem_cons_succ, List.getElem_cons_zero, List.setIfInBounds_toArray, List.set_cons_zero, List.set_cons_succ]
      refine wpAnyH_take (i := 11) (v := undef) rfl (by kernel_rfl) (by kernel_rfl) (by kernel_rfl) (fun _ _ _ h => h) (Or.inr ⟨by kernel_rfl, rfl⟩) (by assumption) ?_
      try simp only [Act.put, List.getElem_toArray, List.getElem_cons_succ, List.getElem_cons_zero, List.setIfInBounds_toArray, List.set_cons_zero, List.set_cons_succ]
      refine wpAnyH_take (i := 12) (v := undef) rfl (by kernel_rfl) (by kernel_rfl) (by kernel_rfl) (fun _ _ _ h => h) (Or.inr ⟨by kernel_rfl, rfl⟩) (by assumption) ?_
      try simp only [Act.put, List.getElem_toArray, List.getElem_cons_succ, List.getElem_cons_zero, List.setIfInBounds_toArray, List.set_cons_zero, List.set_cons_succ]
      refine wpAnyH_take (i := 13) (v := undef) rfl (by kernel_rfl) (by kernel_rfl) (by kernel_rfl) (fun _ _ _ h => h) (Or.inr ⟨by kernel_rfl, rfl⟩) (by assumption) ?_
      try simp only [Act.put, List.getElem_toArray, List.getElem_cons_succ, List.getElem_cons_zero, List.setIfInBounds_toArray, List.set_cons_zero, List.set_cons_succ]
      refine wpAnyH_take (i := 14) (v := undef) rfl (by kernel_rfl) (by kernel_rfl) (by kernel_rfl) (fun _ _ _ h => h) (Or.inr ⟨by kernel_rfl, rfl⟩) (by assumption) ?_
      try simp only [Act.put, List.getElem_toArray, List.getElem_cons_succ, List.getElem_cons_zero, List.setIfInBounds_toArray, List.set_cons_zero, List.set_cons_succ]
      refine wpAnyH_take (i := 15) (v := undef) rfl (by kernel_rfl) (by kernel_rfl) (by kernel_rfl) (fun _ _ _ h => h) (Or.inr ⟨by kernel_rfl, rfl⟩) (by assumption) ?_
      try simp only [Act.put, List.getElem_toArray, List.getElem_cons_succ, List.getElem_cons_zero, List.setIfInBounds_toArray, List.set_cons_zero, List.set_cons_succ]
      refine wpAnyH_take (i := 16) (v := undef) rfl (by kernel_rfl) (by kernel_rfl) (by kernel_rfl) (fun _ _ _ h => h) (Or.inr ⟨by kernel_rfl, rfl⟩) (by assumption) ?_
      try simp only [Act.put, List.getElem_toArray, List.getElem_cons_succ, List.getElem_cons_zero, List.setIfInBounds_toArray, List.set_cons_zero, List.set_cons_succ]
      refine wpAnyH_take (i := 17) (v := undef) rfl (by kernel_rfl) (by kernel_rfl) (by kernel_rfl) (fun _ _ _ h => h) (Or.inr ⟨by kernel_rfl, rfl⟩) (by assumption) ?_
      try simp only [Act.put, List.getElem_toArray, List.getElem_cons_succ, List.getElem_cons_zero, List.setIfInBounds_toArray, List.set_cons_zero, List.set_cons_succ]
      refine wpAnyH_take (i := 18) (v := undef) rfl (by kernel_rfl) (by kernel_rfl) (by kernel_rfl) (fun _ _ _ h => h) (Or.inr ⟨by kernel_rfl, rfl⟩) (by assumption) ?_
      try simp only [Act.put, List.getElem_toArray, List.getElem_cons_succ, List.getElem_cons_zero, List.setIfInBounds_toArray, List.set_cons_zero, List.set_cons_succ]
      refine wpAnyH_take (i := 19) (v := undef) rfl (by kernel_rfl) (by kernel_rfl) (by kernel_rfl) (fun _ _ _ h => h) (Or.inr ⟨by kernel_rfl, rfl⟩) (by assumption) ?_
      try simp only [Act.put, List.getElem_toArray, List.getElem_cons_succ, List.getElem_cons_zero, List.setIfInBounds_toArray, List.set_cons_zero, List.set_cons_succ]
      refine wpAnyH_take (i := 20) (v := ?_) rfl (by kernel_rfl) (by kernel_rfl) (by kernel_rfl) (fun _ _ _ h => h) (Or.inl ⟨by kernel_rfl, ?_⟩) (by assumption) ?_
      rotate_left 1
      · intro w hSw
        try dsimp only at hSw
        go_simp
        try with_reducible rfl
      try simp only [Act.put, List.getElem_toArray, List.getElem_cons_succ, List.getElem_cons_zero, List.setIfInBounds_toArray, List.set_cons_zero, List.set_cons_succ]
      refine wpAnyH_take (i := 21) (v := ?_) rfl (by kernel_rfl) (by kernel_rfl) (by kernel_rfl) (fun _ _ _ h => h) (Or.inl ⟨by kernel_rfl, ?_⟩) (by assumption) ?_
      rotate_left 1
      · intro w hSw
        try dsimp only at hSw
        go_simp
        try with_reducible rfl
      try simp only [Act.put, List.getElem_toArray, List.getElem_cons_succ, List.getElem_cons_zero, List.setIfInBounds_toArray, List.set_cons_zero, List.set_cons_succ]
      refine wpAnyH_done (by kernel_rfl) ?_ _
      go_wp2
      go_ret
      exact ⟨rfl, HV_12.out.drew⟩
    · obtain ⟨⟨q5, q6⟩, ⟨⟨t3, t4⟩, ⟨a3, a4⟩, ⟨r3, r4⟩, o3, o4⟩, ⟨z3, z4⟩, he⟩ := HE.out rfl
      clear HE
      obtain ⟨n1, n2⟩ := prod_bd (a := t2) (z := r2) t3 (by omega) r3 (by omega)
      obtain ⟨n3, n4⟩ := prod_bd (a := t2) (z := z2) t3 (by omega) z3 (by omega)
      obtain ⟨p1, hp1⟩ : ∃ k, t2 * r2 = k := ⟨_, rfl⟩
      obtain ⟨p2, hp2⟩ : ∃ k, t2 * z2 = k := ⟨_, rfl⟩
      rw [hp1] at n1 n2 he
      rw [hp2] at n3 n4 he
      have hw1 : IntKind.i64.wrap (t2 * r2) = p1 := by rw [hp1, IntKind.wrap_i64]; omega
      have hw2 : IntKind.i64.wrap (t2 * z2) = p2 := by rw [hp2, IntKind.wrap_i64]; omega
      have hw3 : IntKind.i64.wrap (a2 + p1) = a2 + p1 := by rw [IntKind.wrap_i64]; omega
      have hw4 : IntKind.i64.wrap (o2 + p2) = o2 + p2 := by rw [IntKind.wrap_i64]; omega
      have M1 := Lib.hid (fun v => pMod_any (a2 + p1) Q2 (by omega) (by omega) (by omega) (by omega) v)
      have M2 := Lib.hid (fun v => pMod_any (o2 + p2) Q2 (by omega) (by omega) (by omega) (by omega) v)
      rw [he] at M1
      generalize (o2 + p2) % Q2 = u at M1 M2
      clear hp1 hp2 he
      go_wp2_with fail
      refine wp_region_held_drew (S := (fun w' => w'.cell? ⟨x2.heap.size, 0, none⟩ = some (.int .i64 P2) ∧ w'.cell? ⟨x2.heap.size, 1, none⟩ = some (.int .i64 Q2) ∧ w'.cell? ⟨x2.heap.size, 2, none⟩ = some (.int .i64 G2))) (by kernel_rfl) (by first | exact ⟨HR_12.out.1, HR_12.out.2.1, HR_12.out.2.2⟩ | (dsimp only; exact ⟨HR_12.out.1, HR_12.out.2.1, HR_12.out.2.2⟩)) (fun hHeld => ?_)
      refine wpAnyH_take (i := 0) (v := ?_) rfl (by kernel_rfl) (by kernel_rfl) (by kernel_rfl) (fun _ _ _ h => h) (Or.inl ⟨by kernel_rfl, ?_⟩) (by assumption) ?_
      rotate_left 1
      · intro w hSw
        try dsimp only at hSw
        go_simp
        try with_reducible rfl
      try simp only [Act.put, List.getElem_toArray, List.getElem_cons_succ, List.getElem_cons_zero, List.setIfInBounds_toArray, List.set_cons_zero, List.set_cons_succ]
      refine wpAnyH_take (i := 1) (v := ?_) rfl (by kernel_rfl) (by kernel_rfl) (by kernel_rfl) (fun _ _ _ h => h) (Or.inl ⟨by kernel_rfl, ?_⟩) (by assumption) ?_
      rotate_left 1
      · intro w hSw
        try dsimp only at hSw
        go_simp
        try with_reducible rfl
      try simp only [Act.put, List.getElem_toArray, List.getElem_cons_succ, List.getElem_cons_zero, List.setIfInBounds_toArray, List.set_cons_zero, List.set_cons_succ]
      refine wpAnyH_take (i := 2) (v := ?_) rfl (by kernel_rfl) (by kernel_rfl) (by kernel_rfl) (fun _ _ _ h => h) (Or.inl ⟨by kernel_rfl, ?_⟩) (by assumption) ?_
      rotate_left 1
      · intro w hSw
        try dsimp only at hSw
        go_simp
        try with_reducible rfl
      try simp only [Act.put, List.getElem_toArray, List.getElem_cons_succ, List.getElem_cons_zero, List.setIfInBounds_toArray, List.set_cons_zero, List.set_cons_succ]
      refine wpAnyH_take (i := 3) (v := ?_) rfl (by kernel_rfl) (by kernel_rfl) (by kernel_rfl) (fun _ _ _ h => h) (Or.inl ⟨by kernel_rfl, ?_⟩) (by assumption) ?_
      rotate_left 1
      · intro w hSw
        try dsimp only at hSw
        go_simp
        try with_reducible rfl
      try simp only [Act.put, List.getElem_toArray, List.getElem_cons_succ, List.getElem_cons_zero, List.setIfInBounds_toArray, List.set_cons_zero, List.set_cons_succ]
      refine wpAnyH_take (i := 4) (v := ?_) rfl (by kernel_rfl) (by kernel_rfl) (by kernel_rfl) (fun _ _ _ h => h) (Or.inl ⟨by kernel_rfl, ?_⟩) (by assumption) ?_
      rotate_left 1
      · intro w hSw
        try dsimp only at hSw
        go_simp
        try with_reducible rfl
      try simp only [Act.put, List.getElem_toArray, List.getElem_cons_succ, List.getElem_cons_zero, List.setIfInBounds_toArray, List.set_cons_zero, List.set_cons_succ]
      refine wpAnyH_take (i := 5) (v := ?_) rfl (by kernel_rfl) (by kernel_rfl) (by kernel_rfl) (fun _ _ _ h => h) (Or.inl ⟨by kernel_rfl, ?_⟩) (by assumption) ?_
      rotate_left 1
      · intro w hSw
        try dsimp only at hSw
        go_simp
        try with_reducible rfl
      try simp only [Act.put, List.getElem_toArray, List.getElem_cons_succ, List.getElem_cons_zero, List.setIfInBounds_toArray, List.set_cons_zero, List.set_cons_succ]
      refine wpAnyH_take (i := 6) (v := ?_) rfl (by kernel_rfl) (by kernel_rfl) (by kernel_rfl) (fun _ _ _ h => h) (Or.inl ⟨by kernel_rfl, ?_⟩) (by assumption) ?_
      rotate_left 1
      · intro w hSw
        try dsimp only at hSw
        go_simp
        try with_reducible rfl
      try simp only [Act.put, List.getElem_toArray, List.getElem_cons_succ, List.getElem_cons_zero, List.setIfInBounds_toArray, List.set_cons_zero, List.set_cons_succ]
      refine wpAnyH_take (i := 7) (v := ?_) rfl (by kernel_rfl) (by kernel_rfl) (by kernel_rfl) (fun _ _ _ h => h) (Or.inl ⟨by kernel_rfl, ?_⟩) (by assumption) ?_
      rotate_left 1
      · intro w hSw
        try dsimp only at hSw
        go_simp
        try with_reducible rfl
      try simp only [Act.put, List.getElem_toArray, List.getElem_cons_succ, List.getElem_cons_zero, List.setIfInBounds_toArray, List.set_cons_zero, List.set_cons_succ]
      refine wpAnyH_take (i := 8) (v := ?_) rfl (by kernel_rfl) (by kernel_rfl) (by kernel_rfl) (fun _ _ _ h => h) (Or.inl ⟨by kernel_rfl, ?_⟩) (by assumption) ?_
      rotate_left 1
      · intro w hSw
        try dsimp only at hSw
        go_simp
        try with_reducible rfl
      try simp only [Act.put, List.getElem_toArray, List.getElem_cons_succ, List.getElem_cons_zero, List.setIfInBounds_toArray, List.set_cons_zero, List.set_cons_succ]
      refine wpAnyH_take (i := 9) (v := ?_) rfl (by kernel_rfl) (by kernel_rfl) (by kernel_rfl) (fun _ _ _ h => h) (Or.inl ⟨by kernel_rfl, ?_⟩) (by assumption) ?_
      rotate_left 1
      · intro w hSw
        try dsimp only at hSw
        go_simp
        try with_reducible rfl
      try simp only [Act.put, List.getElem_toArray, List.getElem_cons_succ, List.getElem_cons_zero, List.setIfInBounds_toArray, List.set_cons_zero, List.set_cons_succ]
      refine wpAnyH_take (i := 11) (v := ?_) rfl (by kernel_rfl) (by kernel_rfl) (by kernel_rfl) (fun _ _ _ h => h) (Or.inl ⟨by kernel_rfl, ?_⟩) (by assumption) ?_
      rotate_left 1
      · intro w hSw
        try dsimp only at hSw
        go_simp
        try with_reducible rfl
      try simp only [Act.put, List.getElem_toArray, List.getElem_cons_succ, List.getElem_cons_zero, List.setIfInBounds_toArray, List.set_cons_zero, List.set_cons_succ]
      refine wpAnyH_take (i := 12) (v := ?_) rfl (by kernel_rfl) (by kernel_rfl) (by kernel_rfl) (fun _ _ _ h => h) (Or.inl ⟨by kernel_rfl, ?_⟩) (by assumption) ?_
      rotate_left 1
      · intro w hSw
        try dsimp only at hSw
        go_simp
        try with_reducible rfl
      try simp only [Act.put, List.getElem_toArray, List.getElem_cons_succ, List.getElem_cons_zero, List.setIfInBounds_toArray, List.set_cons_zero, List.set_cons_succ]
      refine wpAnyH_take (i := 13) (v := ?_) rfl (by kernel_rfl) (by kernel_rfl) (by kernel_rfl) (fun _ _ _ h => h) (Or.inl ⟨by kernel_rfl, ?_⟩) (by assumption) ?_
      rotate_left 1
      · intro w hSw
        try dsimp only at hSw
        go_simp
        try with_reducible rfl
      try simp only [Act.put, List.getElem_toArray, List.getElem_cons_succ, List.getElem_cons_zero, List.setIfInBounds_toArray, List.set_cons_zero, List.set_cons_succ]
      refine wpAnyH_take (i := 14) (v := ?_) rfl (by kernel_rfl) (by kernel_rfl) (by kernel_rfl) (fun _ _ _ h => h) (Or.inl ⟨by kernel_rfl, ?_⟩) (by assumption) ?_
      rotate_left 1
      · intro w hSw
        try dsimp only at hSw
        go_simp
        try with_reducible rfl
      try simp only [Act.put, List.getElem_toArray, List.getElem_cons_succ, List.getElem_cons_zero, List.setIfInBounds_toArray, List.set_cons_zero, List.set_cons_succ]
      refine wpAnyH_take (i := 15) (v := ?_) rfl (by kernel_rfl) (by kernel_rfl) (by kernel_rfl) (fun _ _ _ h => h) (Or.inl ⟨by kernel_rfl, ?_⟩) (by assumption) ?_
      rotate_left 1
      · intro w hSw
        try dsimp only at hSw
        go_simp
        try with_reducible rfl
      try simp only [Act.put, List.getElem_toArray, List.getElem_cons_succ, List.getElem_cons_zero, List.setIfInBounds_toArray, List.set_cons_zero, List.set_cons_succ]
      refine wpAnyH_take (i := 16) (v := ?_) rfl (by kernel_rfl) (by kernel_rfl) (by kernel_rfl) (fun _ _ _ h => h) (Or.inl ⟨by kernel_rfl, ?_⟩) (by assumption) ?_
      rotate_left 1
      · intro w hSw
        try dsimp only at hSw
        go_simp
        try with_reducible rfl
      try simp only [Act.put, List.getElem_toArray, List.getElem_cons_succ, List.getElem_cons_zero, List.setIfInBounds_toArray, List.set_cons_zero, List.set_cons_succ]
      refine wpAnyH_take (i := 17) (v := ?_) rfl (by kernel_rfl) (by kernel_rfl) (by kernel_rfl) (fun _ _ _ h => h) (Or.inl ⟨by kernel_rfl, ?_⟩) (by assumption) ?_
      rotate_left 1
      · intro w hSw
        try dsimp only at hSw
        go_simp
        try with_reducible rfl
      try simp only [Act.put, List.getElem_toArray, List.getElem_cons_succ, List.getElem_cons_zero, List.setIfInBounds_toArray, List.set_cons_zero, List.set_cons_succ]
      refine wpAnyH_ready (rs := [10]) (by kernel_rfl) (by simp) ?_
      refine AllReadyH.cons rfl (fun K hK => ?_) AllReadyH.nil
      go_simp
      go_at_call 54
      refine (M1.out _).mono ?_
      rintro e wp ⟨rfl, rfl⟩
      go_wp2_with fail
      refine hK.out _ _ (by first | exact ⟨HR_12.out.1, HR_12.out.2.1, HR_12.out.2.2⟩ | (dsimp only; exact ⟨HR_12.out.1, HR_12.out.2.1, HR_12.out.2.2⟩)) (fun hHeld => ?_)
      clear hK K
      try simp only [Act.put, List.getElem_toArray, List.getElem_cons_succ, List.getElem_cons_zero, List.setIfInBounds_toArray, List.set_cons_zero, List.set_cons_succ]
      refine wpAnyH_ready (rs := [18]) (by kernel_rfl) (by simp) ?_
      refine AllReadyH.cons rfl (fun K hK => ?_) AllReadyH.nil
      go_simp
      go_at_call 54
      refine (M2.out _).mono ?_
      rintro e wp ⟨rfl, rfl⟩
      go_wp2_with fail
      refine hK.out _ _ (by first | exact ⟨HR_12.out.1, HR_12.out.2.1, HR_12.out.2.2⟩ | (dsimp only; exact ⟨HR_12.out.1, HR_12.out.2.1, HR_12.out.2.2⟩)) (fun hHeld => ?_)
      clear hK K
      try simp only [Act.put, List.getElem_toArray, List.getElem_cons_succ, List.getElem_cons_zero, List.setIfInBounds_toArray, List.set_cons_zero, List.set_cons_succ]
      refine wpAnyH_take (i := 19) (v := ?_) rfl (by kernel_rfl) (by kernel_rfl) (by kernel_rfl) (fun _ _ _ h => h) (Or.inl ⟨by kernel_rfl, ?_⟩) (by assumption) ?_
      rotate_left 1
      · intro w hSw
        try dsimp only at hSw
        go_simp
        try with_reducible rfl
      try simp only [Act.put, List.getElem_toArray, List.getElem_cons_succ, List.getElem_cons_zero, List.setIfInBounds_toArray, List.set_cons_zero, List.set_cons_succ]
      refine wpAnyH_take (i := 20) (v := ?_) rfl (by kernel_rfl) (by kernel_rfl) (by kernel_rfl) (fun _ _ _ h => h) (Or.inl ⟨by kernel_rfl, ?_⟩) (by assumption) ?_
      rotate_left 1
      · intro w hSw
        try dsimp only at hSw
        go_simp
        try with_reducible rfl
      try simp only [Act.put, List.getElem_toArray, List.getElem_cons_succ, List.getElem_cons_zero, List.setIfInBounds_toArray, List.set_cons_zero, List.set_cons_succ]
      refine wpAnyH_take (i := 21) (v := ?_) rfl (by kernel_rfl) (by kernel_rfl) (by kernel_rfl) (fun _ _ _ h => h) (Or.inl ⟨by kernel_rfl, ?_⟩) (by assumption) ?_
      rotate_left 1
      · intro w hSw
        try dsimp only at hSw
        go_simp
        try with_reducible rfl
      try simp only [Act.put, List.getElem_toArray, List.getElem_cons_succ, List.getElem_cons_zero, List.setIfInBounds_toArray, List.set_cons_zero, List.set_cons_succ]
      refine wpAnyH_done (by kernel_rfl) ?_ _
      go_wp2
      go_ret
      exact ⟨rfl, HV_12.out.drew⟩

/-! ### THE ROW's STEP: WRITTEN OUT: LEAVE IT -/
set_option maxRecDepth 100000 in
theorem lifted (os : Os) (started : os.Started) (H : Type) (enc : TypeId × Value → H) :
    ReturnsInHanded {} Try.checked os 12 .any (Rows.fnCommitmentsSpec.pre6 enc Try.prog Try.f12 Rows.fnCommitmentsRow.domain false) (Rows.fnCommitmentsSpec.post enc Try.prog Try.f12 false true false false) := by
  refine returnsInHanded_of_change_sized (C := Try.checked) own started (by kernel_rfl) Try.func12
    (ChangeSpec.witness6 (enc := enc) (C := Try.checked) false ⟨#[], #[.slice none 0 0, .slice none 0 0], []⟩ 8 (by kernel_rfl) (by kernel_rfl) (by kernel_rfl) (by kernel_rfl)) ?_
  intro W base args ds gs before hval0 hW hcnd hsz0 _
  have hsz : (DataW.weightsEach Try.prog (Try.f12.params.toList ++ Rows.fnCommitmentsSpec.plain.varTypes Try.prog) (ds ++ gs)).all (· ≤ reachBytes) = true := hsz0
  clear hsz0
  have hval : ∀ (j : Nat) t v, Try.f12.params[j]? = some t → args[j]? = some v → Value.okWide Try.prog W .any base t v := hval0
  have hW' := hW
  obtain ⟨p, q, hA0, hV, rfl, hfz, hnd⟩ := hW
  have hA : DataW.TrodAll enc Try.prog W 0 (fun _ => true) true Try.f12.params.toList args.toList ds p := hA0
  rw [Try.params12] at hA hval hsz
  obtain ⟨v0, vs0, d0, ds0, p0, q0, hargs, rfl, rfl, h0, r0⟩ := trodAll_cons hA
  obtain ⟨v1, vs1, d1, ds1, p1, q1, rfl, rfl, rfl, h1, r1⟩ := trodAll_cons r0
  obtain ⟨rfl, rfl, rfl⟩ := trodAll_nil r1
  obtain rfl : args = #[v0, v1] := by cases args; simp_all
  obtain ⟨rfl, rfl⟩ := trodVars_none hV
  obtain ⟨a0, len0, cap0, rfl⟩ := okWide_slice Try.underlying55 (hval 0 55 v0 rfl rfl)
  have k0 := h0
  have lt0 : ∀ x ∈ p0, x.block < W.heap.size := by obtain ⟨m, hm⟩ := k0; exact DataW.trod_lt m _ _ _ hm
  obtain ⟨z0, w0, s0⟩ : ∃ zs, IsRow .u8 W a0 len0 cap0 zs ∧ len0 ≤ 140737488351232 := by
    obtain ⟨fuel, hf⟩ := h0
    rcases open_ints Try.underlying55 Try.underlying5 (by kernel_rfl) hf with ⟨hcs, hx⟩ | ⟨x, l, c, zs, hcs, _, hl, hm, hz, hx, hcell, hwz⟩
    · simp [Value.cells] at hcs
      obtain ⟨rfl, rfl, rfl⟩ := hcs
      exact ⟨[], .inl ⟨rfl, rfl, rfl, rfl⟩, by decide⟩
    · simp [Value.cells] at hcs
      obtain ⟨rfl, rfl, rfl⟩ := hcs
      simp only [Prod.mk.injEq] at hx
      have hq := sized_slice hsz (j := 0) (t := 55) (e := 5) rfl (congrArg some hx.1) Try.underlying55
      rw [bytes5] at hq
      simp only [lits, List.length_map, List.length_take, List.length_drop, reachBytes] at hq
      simp only [if_true] at hz
      exact ⟨zs, .inr ⟨_, rfl, hl, hm, by simpa using hz, hcell, hwz⟩, by omega⟩
  obtain ⟨a1, len1, cap1, rfl⟩ := okWide_slice Try.underlying55 (hval 1 55 v1 rfl rfl)
  have k1 := h1
  have lt1 : ∀ x ∈ p1, x.block < W.heap.size := by obtain ⟨m, hm⟩ := k1; exact DataW.trod_lt m _ _ _ hm
  obtain ⟨z1, w1, s1⟩ : ∃ zs, IsRow .u8 W a1 len1 cap1 zs ∧ len1 ≤ 140737488351232 := by
    obtain ⟨fuel, hf⟩ := h1
    rcases open_ints Try.underlying55 Try.underlying5 (by kernel_rfl) hf with ⟨hcs, hx⟩ | ⟨x, l, c, zs, hcs, _, hl, hm, hz, hx, hcell, hwz⟩
    · simp [Value.cells] at hcs
      obtain ⟨rfl, rfl, rfl⟩ := hcs
      exact ⟨[], .inl ⟨rfl, rfl, rfl, rfl⟩, by decide⟩
    · simp [Value.cells] at hcs
      obtain ⟨rfl, rfl, rfl⟩ := hcs
      simp only [Prod.mk.injEq] at hx
      have hq := sized_slice hsz (j := 1) (t := 55) (e := 5) rfl (congrArg some hx.1) Try.underlying55
      rw [bytes5] at hq
      simp only [lits, List.length_map, List.length_take, List.length_drop, reachBytes] at hq
      simp only [if_true] at hz
      exact ⟨zs, .inr ⟨_, rfl, hl, hm, by simpa using hz, hcell, hwz⟩, by omega⟩
  clear hA0 hval0
  refine (walk a0 len0 cap0 z0 a1 len1 cap1 z1 W w0 w1 s0 s1).mono fun e W' ⟨he, bel⟩ => ?_
  subst he
  exact ⟨_, rfl, _, _, _, [], _, [], hW', trodAll_mk1 (shut_bool Try.underlying4 _), (trodAll_cons_mk (Below.trod laidOut (by kernel_rfl) (of_decide_eq_true (by kernel_rfl)) k0 bel lt0) (trodAll_cons_mk (Below.trod laidOut (by kernel_rfl) (of_decide_eq_true (by kernel_rfl)) k1 bel lt1) trodAll_mk0)), rfl, bel.frame _, fun h => by cases h⟩

theorem over : Rows.fnCommitmentsRow.holds Try.pinned (OpenSpec.ofChange Rows.fnCommitmentsSpec) :=
  OpenClaim.holds_of_wide 12 Try.f12 rfl rfl rfl rfl rfl rfl rfl ⟨rfl, rfl, rfl, rfl, rfl⟩ rfl rfl rfl rfl rfl (by kernel_rfl) Try.func12
    (show joinedFacts Try.prog 12 Try.f12 Rows.fnCommitmentsSpec Rows.fnCommitmentsRow = true by unfold joinedFacts; rw [Head.make, Head.lifts, Head.enters]; kernel_rfl)
    (of_decide_eq_true (by kernel_rfl)) (by unfold Func.isWrapper; first | (rw [if_pos (by decide +kernel)]; kernel_rfl) | (rw [if_neg (by decide +kernel)]; exact ⟨rfl, rfl⟩))
    (fun os started H enc _ => lifted os started H enc)

/-- ████ THE STATEMENT ████ -/
theorem proved : Rows.FnCommitmentsSaid := over
#print axioms proved
end Go.Proofs.Ytglfbhkdmkneoaa.fnCommitments
