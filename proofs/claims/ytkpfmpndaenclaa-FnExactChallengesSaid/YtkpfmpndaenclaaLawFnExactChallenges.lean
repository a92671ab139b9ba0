/-
For every group, label, list and n the law FnExactChallenges returns true: the program's Challenges answers as the reference's does, leaves its argument as it was, and its answer owns its memory.
No condition.
-/
import Derived.Test.YtkpfmpndaenclaaRows
import Derived.WalkKit
import Derived.ProofKit
import Derived.OpenShut
import Derived.ShutString
import Derived.ChangeOld
import Derived.Below
import Derived.Lib.SmallJoins
import Derived.Test.YtkpfmpndaenclaaHshK
import Derived.Test.YtkpfmpndaenclaaFacts
namespace Go.Proofs.Ytkpfmpndaenclaa.fnExactChallenges
open Go.Joins Go.ChangeShapes Go.WideShapes Go.ChangeAt Go.RowKit Go.Deep
open Go.ChangeMaps (open_string shut_string)
set_option linter.unusedVariables false

theorem own : ownKnob Try.prog.godebug = none := by kernel_rfl
theorem laidOut : laidOutB Try.prog = true := by kernel_rfl

/-- What the walk is told of a slice of integers that came in: it is nil; or it leads to a row of 'cap' cells that hold the numbers 'zs'. -/
def IsRow (k : IntKind) (w : World) (a : Option Addr) (len cap : Nat) (zs : List Int) : Prop :=
  (a = none ∧ len = 0 ∧ cap = 0 ∧ zs = []) ∨
  ∃ x, a = some x ∧ len ≤ cap ∧ cap ≤ maxLen ∧ zs.length = cap ∧ (∀ i, i < zs.length → w.cell? (x.add i) = some (.int k (zs.getD i 0))) ∧ ∀ n ∈ zs, (Lit.int k n).wf = true



/-! ### STEP 1: the walk: the Go text returns true and writes nothing that was there -/
theorem walk (P0 Q0 G0 : Int) (a1 : ByteArray) (a2 : Option Addr) (len2 cap2 : Nat) (z2 : List Int) (a3 : Int) (w : World) (wP0 : (Lit.int .i64 P0).wf = true) (wQ0 : (Lit.int .i64 Q0).wf = true) (wG0 : (Lit.int .i64 G0).wf = true) (w1 : a1.size ≤ maxLen) (w2 : IsRow .i64 w a2 len2 cap2 z2) (w3 : (Lit.int .i64 a3).wf = true) :
    Calls Try.prog 9 #[.agg #[.int .i64 P0, .int .i64 Q0, .int .i64 G0], .string a1, .slice a2 len2 cap2, .int .i64 a3] w fun e w' => e = .returned (.bool true) ∧ Below w.heap.size w w' := by
  obtain ⟨hz, hn, hm⟩ := ints_of_row w2
  generalize z2.take len2 = zs at hz hn
  clear w2
  have h0 := gr_new w P0 Q0 G0 54
  have hz0 := fun o => hz.below (ba w o) (Nat.le_refl _)
  by_cases hsb : 1048576 < a1.size
  · have hsi : (1048576 : Int) < (a1.size : Int) := by omega
    unfold maxLen at w1
    clear h0 hz0
    go_enter Try.func9, Try.ntmps9
    go_wp2
    go_ret
    exact ⟨rfl, ba _ _⟩
  have hsi : (a1.size : Int) ≤ 1048576 := by omega
  by_cases hbig : 1048576 < len2
  · have hbi : (1048576 : Int) < (len2 : Int) := by omega
    unfold maxLen at hm w1
    clear h0 hz0
    go_enter Try.func9, Try.ntmps9
    go_wp2
    go_ret
    exact ⟨rfl, ba _ _⟩
  · have hbi : (len2 : Int) ≤ 1048576 := by omega
    have HN := Lib.hid hn
    have H0 := Lib.hid h0
    have hs : a1.size ≤ 1048576 := by omega
    clear hn hm h0 hz0 w1 hsb
    generalize hR : csV P0 Q0 G0 a1 zs a3 = res
    have hRl : res.length ≤ 1000 := by rw [← hR]; exact Nat.le_trans csV_length (by decide)
    have HL := Lib.hid hRl
    have HRes := Lib.hid hR
    clear hR hRl
    go_enter Try.func9, Try.ntmps9
    -- w0 := the reference, over a copy
    go_wp2_with fail
    refine (toGroup_any _ _ _ _).mono ?_
    rintro e wA ⟨rfl, hbA⟩
    have HBA := Lib.hid (bt (ba _ _) hbA)
    have HA := Lib.hid (H0.out.below hbA)
    clear hbA
    go_wp2_with fail
    refine (toIntS_any _ _ _ zs HN.out (by omega) _ (hz.below HBA.out (Nat.le_refl _))).mono ?_
    rintro e w1 ⟨g1, rfl, hg1, hown1, hb1⟩
    obtain ⟨hz1, hn1, _, _⟩ := ints_of_own hown1
    have HN1 := Lib.hid hn1
    have HB1 := Lib.hid (bt HBA.out hb1)
    have H1 := Lib.hid (HA.out.below hb1)
    clear hn1 hown1 hb1
    go_wp2_with fail
    refine (sChallenges_any P0 Q0 G0 a1 hs _ _ _ zs HN1.out (by omega) (fun h => by cases h) a3 _ hz1).mono ?_
    rw [HRes.out]
    rintro e w2 ⟨ar, nr, cr, rfl, hownr, hb2⟩
    obtain ⟨hzr, hnr, hbr⟩ := ints_of_own_any hownr
    have HNr := Lib.hid hnr
    have HBr := Lib.hid hbr
    have HB2 := Lib.hid (HB1.out.trans (hb2.mono HB1.out.size))
    have H2 := Lib.hid (H1.out.below hb2)
    clear hnr hownr hb2 hz1 hbr
    -- x0 := a copy
    go_wp2_with fail
    refine (toIntS_any _ _ _ zs HN.out (by omega) _ (hz.below HB2.out (Nat.le_refl _))).mono ?_
    rintro e w3 ⟨g3, rfl, hg3, hown3, hb3⟩
    obtain ⟨hz3, hn3, _, hg3'⟩ := ints_of_own hown3
    have hzr3 := hzr.below hb3 (Nat.le_refl _)
    have HN3 := Lib.hid hn3
    have HO3 := Lib.hid hown3
    have HS3 := Lib.hid hb3.size
    have HB3 := Lib.hid (HB2.out.trans (hb3.mono HB2.out.size))
    have H3 := Lib.hid (H2.out.below hb3)
    obtain ⟨c0, c1, c2⟩ := H3.out
    clear hn3 hown3 hb3 hzr
    -- g0 := the program, over the copy
    go_wp2_with fail
    refine (toGroup_any _ _ _ _).mono ?_
    rintro e wB ⟨rfl, hbB⟩
    have hz3B := hz3.below hbB (Nat.le_refl _)
    have hzr3B := hzr3.below hbB (Nat.le_refl _)
    have HO3B := Lib.hid (own_below HO3.out hbB)
    have HS3B := Lib.hid (Nat.le_trans HS3.out hbB.size)
    have HSB := Lib.hid hbB.size
    have HBB := Lib.hid (bt HB3.out hbB)
    have HGB := Lib.hid (H3.out.below hbB)
    clear hbB c0 c1 c2 hz3 hzr3 HO3
    go_wp2_with fail
    refine (challenges_any P0 Q0 G0 a1 hs _ _ _ zs HN3.out (by omega) a3 _ hz3B).mono ?_
    rw [HRes.out]
    rintro e w4 ⟨ag, ng, cg, rfl, howng, hb4⟩
    obtain ⟨hzg, hng, hbg⟩ := ints_of_own_any howng
    have hz34 := hz3B.below hb4 (Nat.le_refl _)
    have hzr4 := hzr3B.below hb4 (Nat.le_refl _)
    have hown34 := own_below HO3B.out hb4
    have HNg := Lib.hid hng
    have HBg := Lib.hid hbg
    have HOg := Lib.hid howng
    have HO34 := Lib.hid hown34
    have HB4 := Lib.hid (HBB.out.trans (hb4.mono HBB.out.size))
    have H4 := Lib.hid (HGB.out.below hb4)
    clear hng hbg howng hb4 hown34 hz3B hzr3B
    have HNgr := Lib.hid (show res.length ≤ 1048576 by have := HL.out; omega)
    clear HL
    -- g0 is w0
    go_wp2_with fail
    refine (eqIntS_same _ _ _ _ _ _ res HNg.out HNr.out (by have := HNgr.out; have := HNg.out; omega) _ hzg hzr4).mono ?_
    rintro e w5 ⟨rfl, hb5⟩
    have hzg5 := hzg.below hb5 (Nat.le_refl _)
    have hzr5 := hzr4.below hb5 (Nat.le_refl _)
    have hz35 := hz34.below hb5 (Nat.le_refl _)
    have HOg5 := Lib.hid (own_below HOg.out hb5)
    have HO35 := Lib.hid (own_below HO34.out hb5)
    have HB5 := Lib.hid (HB4.out.trans (hb5.mono HB4.out.size))
    have H5 := Lib.hid (H4.out.below hb5)
    clear hzg hzr4 hz34 HOg HO34 hb5
    -- the argument's copy is as it was
    go_wp2_with fail
    refine (toIntS_any _ _ _ zs HN.out (by omega) _ (hz.below HB5.out (Nat.le_refl _))).mono ?_
    rintro e w6 ⟨g6, rfl, hg6, hown6, hb6⟩
    obtain ⟨hz6, hn6, _, _⟩ := ints_of_own hown6
    have hzg6 := hzg5.below hb6 (Nat.le_refl _)
    have hzr6 := hzr5.below hb6 (Nat.le_refl _)
    have hz36 := hz35.below hb6 (Nat.le_refl _)
    have HOg6 := Lib.hid (own_below HOg5.out hb6)
    have HO36 := Lib.hid (own_below HO35.out hb6)
    have HN6 := Lib.hid hn6
    have HB6 := Lib.hid (HB5.out.trans (hb6.mono HB5.out.size))
    have H6 := Lib.hid (H5.out.below hb6)
    clear hzg5 hzr5 hz35 HOg5 HO35 hb6 hn6 hown6
    go_wp2_with fail
    refine (eqIntS_same _ _ _ _ _ _ zs HN3.out HN6.out (by omega) _ hz36 hz6).mono ?_
    rintro e w7 ⟨rfl, hb7⟩
    have hzg7 := hzg6.below hb7 (Nat.le_refl _)
    have hzr7 := hzr6.below hb7 (Nat.le_refl _)
    have HOg7 := Lib.hid (own_below HOg6.out hb7)
    have HO37 := Lib.hid (own_below HO36.out hb7)
    have HB7 := Lib.hid (HB6.out.trans (hb7.mono HB6.out.size))
    have H7 := Lib.hid (H6.out.below hb7)
    clear hzg6 hzr6 hz36 hz6 HOg6 HO36 hb7
    -- marks in the argument's copy
    go_wp2_with fail
    refine (markIntS_any _ _ _ _ zs _ (by omega) (by omega) (by omega) _ HO37.out).mono ?_
    rintro e w8 ⟨rfl, _, hgr8⟩
    have hzg8 := hzg7.grown hgr8 (ne_down (p := wB.heap.size) (fun a h => (HBg.out a h).1) (by rintro a ⟨⟩; exact Nat.lt_of_lt_of_le hg3' HSB.out))
    have hzr8 := hzr7.grown hgr8 (ne_up (p := w2.heap.size) (fun a h => (HBr.out a h).2) (by rintro a ⟨⟩; exact hg3))
    have HOg8 := Lib.hid (own_ne HOg7.out hgr8 (ne_down (p := wB.heap.size) (fun a h => (HBg.out a h).1) (by rintro a ⟨⟩; exact Nat.lt_of_lt_of_le hg3' HSB.out)))
    have HB8 := Lib.hid (below_mark HB7.out hgr8 (by rintro a ⟨⟩; exact Nat.le_trans HB2.out.size hg3))
    have H8 := Lib.hid (gr_grown H7.out hgr8 (by have h1 := H2.out.lt; simp only [Value.ownBlock, ne_eq, Option.some.injEq]; omega))
    clear hzg7 hzr7 HOg7 HO37 hgr8
    go_wp2_with fail
    refine (eqIntS_same _ _ _ _ _ _ res HNg.out HNr.out (by have := HNgr.out; have := HNg.out; omega) _ hzg8 hzr8).mono ?_
    rintro e w9 ⟨rfl, hb9⟩
    have hzr9 := hzr8.below hb9 (Nat.le_refl _)
    have HOg9 := Lib.hid (own_below HOg8.out hb9)
    have HB9 := Lib.hid (HB8.out.trans (hb9.mono HB8.out.size))
    have H9 := Lib.hid (H8.out.below hb9)
    clear hzg8 hzr8 HOg8 hb9
    -- marks in the answer
    go_wp2_with fail
    refine (markIntS_any _ _ _ _ res _ (by omega) (by omega) (by have := HNgr.out; have := HNg.out; omega) _ HOg9.out).mono ?_
    rintro e w10 ⟨rfl, hown10, hgr10⟩
    obtain ⟨hzg10, _, _⟩ := ints_of_own_any hown10
    have hzr10 := hzr9.grown hgr10 (ne_up (p := wB.heap.size) (fun a h => Nat.lt_of_lt_of_le (HBr.out a h).2 HS3B.out) (fun a h => (HBg.out a h).1))
    have HB10 := Lib.hid (below_mark HB9.out hgr10 (fun a h => Nat.le_trans HBB.out.size (HBg.out a h).1))
    have H10 := Lib.hid (gr_grown H9.out hgr10 (by
      cases ag with
      | none => simp [Value.ownBlock]
      | some x =>
        have h1 := (HBg.out x rfl).1
        have h2 := HGB.out.lt
        simp only [Value.ownBlock, ne_eq, Option.some.injEq]
        omega))
    clear hzr9 HOg9 hown10 hgr10
    go_wp2_with fail
    refine (heldIntS_any _ _ _ _ (by omega) (by omega) (by have := HNgr.out; have := HNg.out; omega) _ hzg10).mono ?_
    rintro e w' ⟨rfl, rfl⟩
    have hngi : (ng : Int) ≤ 1048576 := by have := HNgr.out; have := HNg.out; omega
    obtain ⟨d0, d1, d2⟩ := H10.out
    -- a second answer
    go_wp2_with fail
    refine (toGroup_any _ _ _ _).mono ?_
    rintro e wC ⟨rfl, hbC⟩
    have hzgC := hzg10.below hbC (Nat.le_refl _)
    have hzrC := hzr10.below hbC (Nat.le_refl _)
    have HBC := Lib.hid (bt HB10.out hbC)
    clear hbC d0 d1 d2 hzg10 hzr10
    go_wp2_with fail
    refine (toIntS_any _ _ _ zs HN.out (by omega) _ (hz.below HBC.out (Nat.le_refl _))).mono ?_
    rintro e w11 ⟨g11, rfl, hg11, hown11, hb11⟩
    obtain ⟨hz11, hn11, _, _⟩ := ints_of_own hown11
    have hzg11 := hzgC.below hb11 (Nat.le_refl _)
    have hzr11 := hzrC.below hb11 (Nat.le_refl _)
    have HN11 := Lib.hid hn11
    have HB11 := Lib.hid (HBC.out.trans (hb11.mono HBC.out.size))
    clear hzgC hzrC hb11 hn11 hown11
    go_wp2_with fail
    refine (challenges_any P0 Q0 G0 a1 hs _ _ _ zs HN11.out (by omega) a3 _ hz11).mono ?_
    rw [HRes.out]
    rintro e w12 ⟨ah, nh, ch, rfl, hownh, hb12⟩
    obtain ⟨hzh, hnh, _⟩ := ints_of_own_any hownh
    have hzg12 := hzg11.below hb12 (Nat.le_refl _)
    have hzr12 := hzr11.below hb12 (Nat.le_refl _)
    have HNh := Lib.hid hnh
    have HB12 := Lib.hid (HB11.out.trans (hb12.mono HB11.out.size))
    clear hzg11 hzr11 hb12 hnh hownh hz11
    go_wp2_with fail
    refine (eqIntS_same _ _ _ _ _ _ res HNh.out HNr.out (by have := HNgr.out; have := HNh.out; omega) _ hzh hzr12).mono ?_
    rintro e w13 ⟨rfl, hb13⟩
    have hzg13 := hzg12.below hb13 (Nat.le_refl _)
    have HB13 := Lib.hid (HB12.out.trans (hb13.mono HB12.out.size))
    clear hzg12 hzr12 hzh hb13
    go_wp2_with fail
    refine (heldIntS_any _ _ _ _ (by omega) (by omega) (by have := HNgr.out; have := HNg.out; omega) _ hzg13).mono ?_
    rintro e w' ⟨rfl, rfl⟩
    go_wp2
    go_ret
    exact ⟨rfl, HB13.out⟩

/-! ### The row's step -/
set_option maxRecDepth 100000 in
theorem lifted (os : Os) (started : os.Started) (H : Type) (enc : TypeId × Value → H) :
    ReturnsInHanded {} Try.checked os 9 .any (Rows.fnExactChallengesSpec.pre6 enc Try.prog Try.f9 Rows.fnExactChallengesRow.domain false) (Rows.fnExactChallengesSpec.post enc Try.prog Try.f9 false true false false) := by
  refine returnsInHanded_of_change (C := Try.checked) own started (by kernel_rfl) Try.func9
    (ChangeSpec.witness6 (enc := enc) (C := Try.checked) false ⟨#[], #[.agg #[.int .i64 0, .int .i64 0, .int .i64 0], .string ByteArray.empty, .slice none 0 0, .int .i64 0], []⟩ 8 (by kernel_rfl) (by kernel_rfl) (by kernel_rfl) (by kernel_rfl)) ?_
  intro W base args ds gs before hval0 hW hcnd _
  have hval : ∀ (j : Nat) t v, Try.f9.params[j]? = some t → args[j]? = some v → Value.okWide Try.prog W .any base t v := hval0
  have hW' := hW
  obtain ⟨p, q, hA0, hV, rfl, hfz, hnd⟩ := hW
  have hA : DataW.TrodAll enc Try.prog W 0 (fun _ => true) true Try.f9.params.toList args.toList ds p := hA0
  rw [Try.params9] at hA hval
  obtain ⟨v0, vs0, d0, ds0, p0, q0, hargs, rfl, rfl, h0, r0⟩ := trodAll_cons hA
  obtain ⟨v1, vs1, d1, ds1, p1, q1, rfl, rfl, rfl, h1, r1⟩ := trodAll_cons r0
  obtain ⟨v2, vs2, d2, ds2, p2, q2, rfl, rfl, rfl, h2, r2⟩ := trodAll_cons r1
  obtain ⟨v3, vs3, d3, ds3, p3, q3, rfl, rfl, rfl, h3, r3⟩ := trodAll_cons r2
  obtain ⟨rfl, rfl, rfl⟩ := trodAll_nil r3
  obtain rfl : args = #[v0, v1, v2, v3] := by cases args; simp_all
  obtain ⟨rfl, rfl⟩ := trodVars_none hV
  have k0 := h0
  have lt0 : ∀ x ∈ p0, x.block < W.heap.size := by obtain ⟨m, hm⟩ := k0; exact DataW.trod_lt m _ _ _ hm
  obtain ⟨c0_0, c0_1, c0_2, y0_0, y0_1, y0_2, m0, rfl, rfl, rfl, hy0_0, hy0_1, hy0_2⟩ := open_agg3 Try.underlying54 (by kernel_rfl) (by kernel_rfl) (hval 0 54 v0 rfl rfl) h0
  obtain ⟨P0, e0_0, _, wP0⟩ := DataW.trod_int Try.underlying3 hy0_0
  obtain rfl := (List.cons.inj e0_0).1
  obtain ⟨Q0, e0_1, _, wQ0⟩ := DataW.trod_int Try.underlying3 hy0_1
  obtain rfl := (List.cons.inj e0_1).1
  obtain ⟨G0, e0_2, _, wG0⟩ := DataW.trod_int Try.underlying3 hy0_2
  obtain rfl := (List.cons.inj e0_2).1
  obtain ⟨a1, rfl, rfl, rfl, w1⟩ := open_string Try.underlying9 (hval 1 9 v1 rfl rfl) h1
  have k2 := h2
  have lt2 : ∀ x ∈ p2, x.block < W.heap.size := by obtain ⟨m, hm⟩ := k2; exact DataW.trod_lt m _ _ _ hm
  obtain ⟨a2, len2, cap2, rfl⟩ := okWide_slice Try.underlying36 (hval 2 36 v2 rfl rfl)
  obtain ⟨z2, w2⟩ : ∃ zs, IsRow .i64 W a2 len2 cap2 zs := by
    obtain ⟨fuel, hf⟩ := h2
    rcases open_ints Try.underlying36 Try.underlying3 (by kernel_rfl) hf with ⟨hcs, _⟩ | ⟨x, l, c, zs, hcs, _, hl, hm, hz, _, hcell, hwz⟩
    · simp [Value.cells] at hcs
      obtain ⟨rfl, rfl, rfl⟩ := hcs
      exact ⟨[], .inl ⟨rfl, rfl, rfl, rfl⟩⟩
    · simp [Value.cells] at hcs
      obtain ⟨rfl, rfl, rfl⟩ := hcs
      exact ⟨zs, .inr ⟨_, rfl, hl, hm, by simpa using hz, hcell, hwz⟩⟩
  obtain ⟨a3, rfl, rfl, rfl, w3⟩ := open_int Try.underlying3 (hval 3 3 v3 rfl rfl) h3
  clear hA0 hval0
  refine (walk P0 Q0 G0 a1 a2 len2 cap2 z2 a3 W wP0 wQ0 wG0 w1 w2 w3).mono fun e W' ⟨he, bel⟩ => ?_
  subst he
  exact ⟨_, rfl, _, _, _, [], _, [], hW', trodAll_mk1 (shut_bool Try.underlying4 _), (trodAll_cons_mk (Below.trod laidOut (by kernel_rfl) (of_decide_eq_true (by kernel_rfl)) k0 bel lt0) (trodAll_cons_mk (shut_string Try.underlying9 w1) (trodAll_cons_mk (Below.trod laidOut (by kernel_rfl) (of_decide_eq_true (by kernel_rfl)) k2 bel lt2) (trodAll_cons_mk (shut_int Try.underlying3 w3) trodAll_mk0)))), rfl, bel.frame _, fun h => by cases h⟩

theorem over : Rows.fnExactChallengesRow.holds Try.pinned (OpenSpec.ofChange Rows.fnExactChallengesSpec) :=
  OpenClaim.holds_of_wide 9 Try.f9 rfl rfl rfl rfl rfl rfl rfl ⟨rfl, rfl, rfl, rfl, rfl⟩ rfl rfl rfl rfl rfl (by kernel_rfl) Try.func9
    (show joinedFacts Try.prog 9 Try.f9 Rows.fnExactChallengesSpec Rows.fnExactChallengesRow = true by unfold joinedFacts; rw [Head.make, Head.lifts, Head.enters]; kernel_rfl)
    (of_decide_eq_true (by kernel_rfl)) (by unfold Func.isWrapper; first | (rw [if_pos (by decide +kernel)]; kernel_rfl) | (rw [if_neg (by decide +kernel)]; exact ⟨rfl, rfl⟩))
    (fun os started H enc _ => lifted os started H enc)

/-- The statement. -/
theorem proved : Rows.FnExactChallengesSaid := over
#print axioms proved
end Go.Proofs.Ytkpfmpndaenclaa.fnExactChallenges
