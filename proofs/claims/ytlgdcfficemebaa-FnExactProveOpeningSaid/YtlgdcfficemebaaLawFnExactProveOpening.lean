/-
For every group, all bases, integers and coins the law FnExactProveOpening returns true: the program's ProveOpening answers as the reference's does, leaves its arguments as they were, and its answer owns its memory.
No condition.
-/
import Derived.Test.YtlgdcfficemebaaRows
import Derived.WalkKit
import Derived.ProofKit
import Derived.OpenShut
import Derived.ShutString
import Derived.ChangeOld
import Derived.Below
import Derived.Lib.SmallJoins
import Derived.Deep.DeepCutAuto
import Derived.Deep.RegionHeld3
import Derived.Test.YtlgdcfficemebaaComQ
import Derived.Test.YtlgdcfficemebaaFacts
namespace Go.Proofs.Ytlgdcfficemebaa.fnExactProveOpening
open Go.Joins Go.ChangeShapes Go.WideShapes Go.ChangeAt Go.RowKit Go.Deep
open Go.ChangeMaps (open_string shut_string)
set_option linter.unusedVariables false

theorem own : ownKnob Try.prog.godebug = none := by kernel_rfl
theorem laidOut : laidOutB Try.prog = true := by kernel_rfl

/-- What the walk is told of a slice of integers that came in: it is nil; or it leads to a row of 'cap' cells that hold the numbers 'zs'. -/
def IsRow (k : IntKind) (w : World) (a : Option Addr) (len cap : Nat) (zs : List Int) : Prop :=
  (a = none ∧ len = 0 ∧ cap = 0 ∧ zs = []) ∨
  ∃ x, a = some x ∧ len ≤ cap ∧ cap ≤ maxLen ∧ zs.length = cap ∧ (∀ i, i < zs.length → w.cell? (x.add i) = some (.int k (zs.getD i 0))) ∧ ∀ n ∈ zs, (Lit.int k n).wf = true

set_option linter.unusedSimpArgs false
theorem d2_midw {w w' : World} {A B b : Nat} {x y : Value} (h : D2 w b x y) (hm : Mid A B w w') (ho : b < A ∨ B ≤ b) : D2 w' b x y := ⟨mid_cR hm h.1 ho, mid_cR hm h.2 ho⟩
theorem gr_midw {w w' : World} {A B b : Nat} {P Q G : Int} (h : GR w b P Q G) (hm : Mid A B w w') (ho : b < A ∨ B ≤ b) : GR w' b P Q G := ⟨mid_cR hm h.1 ho, mid_cR hm h.2.1 ho, mid_cR hm h.2.2 ho⟩
def Lo (W w : World) : Prop := Below W.heap.size W w
theorem Lo.below {W w w' : World} (h : Lo W w) (hb : Below w.heap.size w w') : Lo W w' := bt h hb
theorem Lo.size {W w : World} (h : Lo W w) : W.heap.size ≤ w.heap.size := Below.size h
theorem set3_below {B : Nat} {w v : World} (h : Below B w v) {b : Nat} (hb : B ≤ b) (x y z : Value) : Below B w (((v.setCell ⟨b, 0, none⟩ x).setCell ⟨b, 1, none⟩ y).setCell ⟨b, 2, none⟩ z) := ((h.setCell hb _).setCell hb _).setCell hb _
theorem inP_more {B : Nat} {w : World} {v : Value} {p : PrD} (h : InP B w v p) {C : Nat} (hB : B ≤ C) (hC : C ≤ w.heap.size) : InP C w v p := by
  obtain ⟨a, b, c, rfl, h1, h2, h3⟩ := h
  exact ⟨a, b, c, rfl, h1.wide hB hC, h2.wide hB hC, h3.wide hB hC⟩
/-- A proof in a box, and where its lists lie: for the reference's, the program's. -/
def BoxP (W wx : World) (b : Nat) (x y z : Value) (p : PrD) : Prop := B3 wx b x y z ∧ InP wx.heap.size wx (.agg #[x, y, z]) p ∧ Below W.heap.size W wx ∧ W.heap.size ≤ b
theorem boxP_mk {W vp : World} {b q P : Nat} {x y z : Value} {p : PrD} (hB : Lo W vp) (hb : W.heap.size ≤ b) (hz : B3 vp b (.slice none 0 0) (.slice none 0 0) (.slice none 0 0)) (ho : OwT q P vp (.agg #[x, y, z]) p) (hd : b < q ∨ P ≤ b) : BoxP W (((vp.setCell ⟨b, 0, none⟩ x).setCell ⟨b, 1, none⟩ y).setCell ⟨b, 2, none⟩ z) b x y z p := by
  have hm := mid3 vp b x y z
  have hs := ho.le
  exact ⟨((hz.set0 _).set1 _).set2 _, inP_more (ho.mid hm (hd.symm.imp id (fun h => h))).toIn (Nat.le_trans hs hm.size) (Nat.le_refl _), set3_below hB hb x y z, hb⟩
def BoxQ (W wx : World) (b q P : Nat) (x y z : Value) (p : PrD) : Prop := B3 wx b x y z ∧ OwQ q P wx (.agg #[x, y, z]) p ∧ (b < q ∨ P ≤ b) ∧ W.heap.size ≤ q ∧ Below W.heap.size W wx ∧ W.heap.size ≤ b
theorem boxQ_mk {W vp : World} {b q P : Nat} {x y z : Value} {p : PrD} (hB : Lo W vp) (hq : W.heap.size ≤ q) (hb : W.heap.size ≤ b) (hz : B3 vp b (.slice none 0 0) (.slice none 0 0) (.slice none 0 0)) (ho : OwQ q P vp (.agg #[x, y, z]) p) (hd : b < q ∨ P ≤ b) : BoxQ W (((vp.setCell ⟨b, 0, none⟩ x).setCell ⟨b, 1, none⟩ y).setCell ⟨b, 2, none⟩ z) b q P x y z p := by
  have hm := mid3 vp b x y z
  exact ⟨((hz.set0 _).set1 _).set2 _, ho.mid hm (hd.symm.imp id (fun h => h)), hd, hq, set3_below hB hb x y z, hb⟩

/-! ### STEP 1: the walk: the Go text returns true and writes nothing that was there -/
set_option maxRecDepth 100000 in
set_option maxHeartbeats 25600000 in
theorem walk (P0 Q0 G0 : Int) (H1 : Int) (y1 : Value) (a2 : Int) (a3 : Int) (a4 : Option Addr) (len4 cap4 : Nat) (z4 : List Int) (w : World) (wP0 : (Lit.int .i64 P0).wf = true) (wQ0 : (Lit.int .i64 Q0).wf = true) (wG0 : (Lit.int .i64 G0).wf = true) (w1 : ∃ hs, InI w.heap.size w y1 hs ∧ hs.length ≤ maxLen) (w2 : (Lit.int .i64 a2).wf = true) (w3 : (Lit.int .i64 a3).wf = true) (w4 : IsRow .i64 w a4 len4 cap4 z4) :
    Calls Try.prog 11 #[.agg #[.int .i64 P0, .int .i64 Q0, .int .i64 G0], .agg #[.int .i64 H1, y1], .int .i64 a2, .int .i64 a3, .slice a4 len4 cap4] w fun e w' => e = .returned (.bool true) ∧ Below w.heap.size w w' := by
  obtain ⟨hs, hz, hm⟩ := w1
  obtain ⟨ya, yc, rfl⟩ := hz.shape
  obtain ⟨hcs, ncs, mcs⟩ := inI_of_row w4
  generalize z4.take len4 = cs at hcs ncs
  clear w4
  have hal : Below w.heap.size w ((w.alloc (.cells #[.int .i64 P0, .int .i64 Q0, .int .i64 G0] 23)).alloc (.cells #[.int .i64 H1, .slice ya hs.length yc] 70)) := bt (ba _ _) (ba _ _)
  have R_0 := Lib.hid ((gr_at w w.heap.size rfl P0 Q0 G0 23).below (ba _ (.cells #[.int .i64 H1, .slice ya hs.length yc] 70)))
  have V_0 := Lib.hid (d2_at (w.alloc (.cells #[.int .i64 P0, .int .i64 Q0, .int .i64 G0] 23)) (w.heap.size + 1) (by simp) (.int .i64 H1) (.slice ya hs.length yc) 70)
  have A_0 := Lib.hid (hz.below hal)
  have CS_0 := Lib.hid (hcs.below hal)
  have HB_0 := Lib.hid hal
  clear hal hz hcs
  by_cases b4 : 1048576 < len4
  · have c4 : (1048576 : Int) < (len4 : Int) := by omega
    unfold maxLen at mcs
    go_enter Try.func11, Try.ntmps11
    go_wp2
    go_ret
    exact ⟨rfl, HB_0.out⟩
  have c4 : (len4 : Int) ≤ 1048576 := by omega
  have lcs : cs.length ≤ 1048576 := by omega
  by_cases bq : 1048576 < (hs.length : Int)
  · have E2 := Lib.hid (show szV hs.length 1048576 = -1 by unfold szV; rw [if_neg (by omega)])
    obtain ⟨v0, v1⟩ := V_0.out
    go_enter Try.func11, Try.ntmps11
    go_wp2_with fail
    refine (szBas_any A_0.out (by omega) (by omega) hm).mono ?_
    rw [E2.out]
    rintro e u1 ⟨rfl, hb⟩
    have HB_1 := Lib.hid (bt HB_0.out hb)
    clear hb v0 v1
    go_wp2
    go_ret
    exact ⟨rfl, HB_1.out⟩
  have E2 := Lib.hid (show szV hs.length 1048576 = 1048576 - (hs.length : Int) by unfold szV; rw [if_pos (by omega)])
  have hsl : hs.length ≤ 1048576 := by omega
  have hqi : 0 ≤ 1048576 - (hs.length : Int) := by omega
  have HVL := Lib.hid (opB_size P0 Q0 G0 H1 hs a2 a3 cs)
  generalize hV : opV P0 Q0 G0 H1 hs a2 a3 cs = res at HVL
  generalize hK : opB P0 Q0 G0 H1 hs a2 a3 cs = ok
  have HV := Lib.hid hV
  have HK := Lib.hid hK
  have hrl : res.n ≤ 24 := HVL.out
  clear hV hK
  obtain ⟨v0, v1⟩ := V_0.out
  go_enter Try.func11, Try.ntmps11
  go_wp2_with fail
  refine (szBas_any A_0.out (by omega) (by omega) hm).mono ?_
  rw [E2.out]
  rintro e u1 ⟨rfl, hb⟩
  clear v0 v1
  have HB_1 := Lib.hid (bt HB_0.out hb)
  have R_1 := Lib.hid (R_0.out.below hb)
  have V_1 := Lib.hid (V_0.out.below hb)
  have A_1 := Lib.hid (A_0.out.below hb)
  have CS_1 := Lib.hid (CS_0.out.below hb)
  clear hb HB_0 R_0 V_0 A_0 CS_0
  go_upto_region 7 with fail
  go_cut [12, 13] (fun s1 s2 wx => ∃ (b : Nat) (a1_ : Option Addr) (c1_ : Nat) (a2_ : Option Addr) (c2_ : Nat) (a3_ : Option Addr) (c3_ : Nat), s1 = .pointer (some ⟨b, 0, none⟩) ∧ s2 = .bool ok ∧ BoxP u1 wx b (.slice a1_ res.c.length c1_) (.slice a2_ res.h.length c2_) (.slice a3_ res.r.length c3_) res)
  case first =>
    have LO_1 := Lib.hid (show Lo u1 u1 from Below.refl _ _)
    have LR9 := Lib.hid (R_1.out.lt)
    have LV9 := Lib.hid (V_1.out.lt)
    have hbd : Below u1.heap.size u1 u1.drew := (Below.refl _ u1).drew
    have HB_s := Lib.hid (bt HB_1.out hbd)
    have R_s := Lib.hid (R_1.out.below hbd)
    have V_s := Lib.hid (V_1.out.below hbd)
    have A_s := Lib.hid (A_1.out.below hbd)
    have CS_s := Lib.hid (CS_1.out.below hbd)
    have LO_s := Lib.hid (LO_1.out.below hbd)
    clear hbd
    refine wp_region_held_drew (S := (fun w' => (w'.cell? ⟨w.heap.size, 0, none⟩ = some (.int .i64 P0) ∧ w'.cell? ⟨w.heap.size, 1, none⟩ = some (.int .i64 Q0) ∧ w'.cell? ⟨w.heap.size, 2, none⟩ = some (.int .i64 G0)) ∧ (w'.cell? ⟨w.heap.size + 1, 0, none⟩ = some (.int .i64 H1) ∧ w'.cell? ⟨w.heap.size + 1, 1, none⟩ = some (.slice ya hs.length yc)))) (by kernel_rfl) (show _ from ⟨⟨R_1.out.1, R_1.out.2.1, R_1.out.2.2⟩, ⟨V_1.out.1, V_1.out.2⟩⟩) (fun hHeld => ?_)
    generalize hW0 : u1.drew = Ws at *
    clear hW0
    refine wpAnyH_take (i := 0) (v := ?_) rfl (by kernel_rfl) (by kernel_rfl) (by kernel_rfl) (fun _ _ _ h => h) (Or.inl ⟨by kernel_rfl, ?_⟩) (by assumption) ?_
    rotate_left 1
    · intro w9 hSw
      try dsimp only at hSw
      go_simp
      try with_reducible rfl
    try simp only [Act.put, List.getElem_toArray, List.getElem_cons_succ, List.getElem_cons_zero, List.setIfInBounds_toArray, List.set_cons_zero, List.set_cons_succ]
    refine wpAnyH_take (i := 2) (v := ?_) rfl (by kernel_rfl) (by kernel_rfl) (by kernel_rfl) (fun _ _ _ h => h) (Or.inl ⟨by kernel_rfl, ?_⟩) (by assumption) ?_
    rotate_left 1
    · intro w9 hSw
      try dsimp only at hSw
      go_simp
      try with_reducible rfl
    try simp only [Act.put, List.getElem_toArray, List.getElem_cons_succ, List.getElem_cons_zero, List.setIfInBounds_toArray, List.set_cons_zero, List.set_cons_succ]
    refine wpAnyH_take (i := 4) (v := ?_) rfl (by kernel_rfl) (by kernel_rfl) (by kernel_rfl) (fun _ _ _ h => h) (Or.inl ⟨by kernel_rfl, ?_⟩) (by assumption) ?_
    rotate_left 1
    · intro w9 hSw
      try dsimp only at hSw
      go_simp
      try with_reducible rfl
    try simp only [Act.put, List.getElem_toArray, List.getElem_cons_succ, List.getElem_cons_zero, List.setIfInBounds_toArray, List.set_cons_zero, List.set_cons_succ]
    refine wpAnyH_take (i := 5) (v := ?_) rfl (by kernel_rfl) (by kernel_rfl) (by kernel_rfl) (fun _ _ _ h => h) (Or.inl ⟨by kernel_rfl, ?_⟩) (by assumption) ?_
    rotate_left 1
    · intro w9 hSw
      try dsimp only at hSw
      go_simp
      try with_reducible rfl
    try simp only [Act.put, List.getElem_toArray, List.getElem_cons_succ, List.getElem_cons_zero, List.setIfInBounds_toArray, List.set_cons_zero, List.set_cons_succ]
    refine wpAnyH_take (i := 6) (v := ?_) rfl (by kernel_rfl) (by kernel_rfl) (by kernel_rfl) (fun _ _ _ h => h) (Or.inl ⟨by kernel_rfl, ?_⟩) (by assumption) ?_
    rotate_left 1
    · intro w9 hSw
      try dsimp only at hSw
      go_simp
      try with_reducible rfl
    try simp only [Act.put, List.getElem_toArray, List.getElem_cons_succ, List.getElem_cons_zero, List.setIfInBounds_toArray, List.set_cons_zero, List.set_cons_succ]
    refine wpAnyH_ready (rs := [1, 12]) (by kernel_rfl) (by simp) ?_
    refine AllReadyH.cons rfl (fun K hK => ?_) (AllReadyH.cons rfl (fun K hK => ?_) (AllReadyH.nil))
    · go_simp
      go_at_call 18
      refine (toGroup_any _ _ _ _).mono ?_
      rintro e' Wsb ⟨rfl, hb⟩
      have HB_sb := Lib.hid (bt HB_s.out hb)
      have R_sb := Lib.hid (R_s.out.below hb)
      have V_sb := Lib.hid (V_s.out.below hb)
      have A_sb := Lib.hid (A_s.out.below hb)
      have CS_sb := Lib.hid (CS_s.out.below hb)
      have LO_sb := Lib.hid (LO_s.out.below hb)
      clear hb
      go_wp2_with fail
      refine hK.out _ _ (show _ from ⟨⟨R_sb.out.1, R_sb.out.2.1, R_sb.out.2.2⟩, ⟨V_sb.out.1, V_sb.out.2⟩⟩) (fun hHeld => ?_)
      clear hK K
      try simp only [Act.put, List.getElem_toArray, List.getElem_cons_succ, List.getElem_cons_zero, List.setIfInBounds_toArray, List.set_cons_zero, List.set_cons_succ]
      refine wpAnyH_ready (rs := [3, 12]) (by kernel_rfl) (by simp) ?_
      refine AllReadyH.cons rfl (fun K hK => ?_) (AllReadyH.cons rfl (fun K hK => ?_) (AllReadyH.nil))
      · go_simp
        go_at_call 51
        refine (toBas_any A_sb.out (by omega)).mono ?_
        rintro e' Wsbd ⟨yw, rfl, ho, hb⟩
        have HB_sbd := Lib.hid (bt HB_sb.out hb)
        have R_sbd := Lib.hid (R_sb.out.below hb)
        have V_sbd := Lib.hid (V_sb.out.below hb)
        have A_sbd := Lib.hid (A_sb.out.below hb)
        have CS_sbd := Lib.hid (CS_sb.out.below hb)
        have LO_sbd := Lib.hid (LO_sb.out.below hb)
        have CB_sbd := Lib.hid (ho.toIn)
        clear ho
        clear hb
        go_wp2_with fail
        refine hK.out _ _ (show _ from ⟨⟨R_sbd.out.1, R_sbd.out.2.1, R_sbd.out.2.2⟩, ⟨V_sbd.out.1, V_sbd.out.2⟩⟩) (fun hHeld => ?_)
        clear hK K
        try simp only [Act.put, List.getElem_toArray, List.getElem_cons_succ, List.getElem_cons_zero, List.setIfInBounds_toArray, List.set_cons_zero, List.set_cons_succ]
        refine wpAnyH_ready (rs := [7, 12]) (by kernel_rfl) (by simp) ?_
        refine AllReadyH.cons rfl (fun K hK => ?_) (AllReadyH.cons rfl (fun K hK => ?_) (AllReadyH.nil))
        · go_simp
          go_at_call 20
          refine (toI_any CS_sbd.out (by omega)).mono ?_
          rintro e' Wsbdh ⟨xcs, rfl, ho, hb⟩
          have HB_sbdh := Lib.hid (bt HB_sbd.out hb)
          have R_sbdh := Lib.hid (R_sbd.out.below hb)
          have V_sbdh := Lib.hid (V_sbd.out.below hb)
          have A_sbdh := Lib.hid (A_sbd.out.below hb)
          have CS_sbdh := Lib.hid (CS_sbd.out.below hb)
          have LO_sbdh := Lib.hid (LO_sbd.out.below hb)
          have CB_sbdh := Lib.hid (CB_sbd.out.below hb)
          have CC_sbdh := Lib.hid (ho.toIn)
          clear ho
          clear hb
          go_wp2_with fail
          refine hK.out _ _ (show _ from ⟨⟨R_sbdh.out.1, R_sbdh.out.2.1, R_sbdh.out.2.2⟩, ⟨V_sbdh.out.1, V_sbdh.out.2⟩⟩) (fun hHeld => ?_)
          clear hK K
          try simp only [Act.put, List.getElem_toArray, List.getElem_cons_succ, List.getElem_cons_zero, List.setIfInBounds_toArray, List.set_cons_zero, List.set_cons_succ]
          refine wpAnyH_ready (rs := [8, 12]) (by kernel_rfl) (by simp) ?_
          refine AllReadyH.cons rfl (fun K hK => ?_) (AllReadyH.cons rfl (fun K hK => ?_) (AllReadyH.nil))
          · go_simp
            (first | have LQ := Lib.hid Z_sbdh.out.lt | skip)
            have LQS := Lib.hid LO_sbdh.out.size
            go_at_call 50
            refine (sProveOpening_any P0 Q0 G0 H1 a2 a3 hsl lcs CB_sbdh.out CC_sbdh.out).mono ?_
            rw [HV.out, HK.out]
            rintro e' Wsbdhi ⟨za, zb, zc, rfl, ho, hb⟩
            obtain ⟨za1, za2, zb1, zb2, zc1, zc2, hsh⟩ := inP_shapeQ (OwT.toIn ho)
            simp only [Value.agg.injEq, Array.mk.injEq, List.cons.injEq, and_true] at hsh
            obtain ⟨rfl, rfl, rfl⟩ := hsh
            have HB_sbdhi := Lib.hid (bt HB_sbdh.out hb)
            have R_sbdhi := Lib.hid (R_sbdh.out.below hb)
            have V_sbdhi := Lib.hid (V_sbdh.out.below hb)
            have A_sbdhi := Lib.hid (A_sbdh.out.below hb)
            have CS_sbdhi := Lib.hid (CS_sbdh.out.below hb)
            have LO_sbdhi := Lib.hid (LO_sbdh.out.below hb)
            have CB_sbdhi := Lib.hid (CB_sbdh.out.below hb)
            have CC_sbdhi := Lib.hid (CC_sbdh.out.below hb)
            have OT_sbdhi := Lib.hid (ho)
            clear ho
            clear hb
            go_wp2_with fail
            refine hK.out _ _ (show _ from ⟨⟨R_sbdhi.out.1, R_sbdhi.out.2.1, R_sbdhi.out.2.2⟩, ⟨V_sbdhi.out.1, V_sbdhi.out.2⟩⟩) (fun hHeld => ?_)
            clear hK K
            try simp only [Act.put, List.getElem_toArray, List.getElem_cons_succ, List.getElem_cons_zero, List.setIfInBounds_toArray, List.set_cons_zero, List.set_cons_succ]
            refine wpAnyH_take (i := 9) (v := ?_) rfl (by kernel_rfl) (by kernel_rfl) (by kernel_rfl) (fun _ _ _ h => h) (Or.inl ⟨by kernel_rfl, ?_⟩) (by assumption) ?_
            rotate_left 1
            · intro w9 hSw
              try dsimp only at hSw
              go_simp
              try with_reducible rfl
            try simp only [Act.put, List.getElem_toArray, List.getElem_cons_succ, List.getElem_cons_zero, List.setIfInBounds_toArray, List.set_cons_zero, List.set_cons_succ]
            refine wpAnyH_take (i := 10) (v := ?_) rfl (by kernel_rfl) (by kernel_rfl) (by kernel_rfl) (fun _ _ _ h => h) (Or.inl ⟨by kernel_rfl, ?_⟩) (by assumption) ?_
            rotate_left 1
            · intro w9 hSw
              try dsimp only at hSw
              go_simp
              try with_reducible rfl
            try simp only [Act.put, List.getElem_toArray, List.getElem_cons_succ, List.getElem_cons_zero, List.setIfInBounds_toArray, List.set_cons_zero, List.set_cons_succ]
            refine wpAnyH_take (i := 11) (v := ?_) rfl (by kernel_rfl) (by kernel_rfl) (by kernel_rfl) (fun _ _ _ h => h) (Or.inl ⟨by kernel_rfl, ?_⟩) (by assumption) ?_
            rotate_left 1
            · intro w9 hSw
              try dsimp only at hSw
              go_simp
              try with_reducible rfl
            try simp only [Act.put, List.getElem_toArray, List.getElem_cons_succ, List.getElem_cons_zero, List.setIfInBounds_toArray, List.set_cons_zero, List.set_cons_succ]
            refine wpAnyH_ready (rs := [12]) (by kernel_rfl) (by simp) ?_
            refine AllReadyH.cons rfl (fun K hK => ?_) (AllReadyH.nil)
            go_simp
            have hb := ba Wsbdhi (.cells #[.slice none 0 0, .slice none 0 0, .slice none 0 0] 36)
            have HB_sbdhim := Lib.hid (bt HB_sbdhi.out hb)
            have R_sbdhim := Lib.hid (R_sbdhi.out.below hb)
            have V_sbdhim := Lib.hid (V_sbdhi.out.below hb)
            have A_sbdhim := Lib.hid (A_sbdhi.out.below hb)
            have CS_sbdhim := Lib.hid (CS_sbdhi.out.below hb)
            have LO_sbdhim := Lib.hid (LO_sbdhi.out.below hb)
            have CB_sbdhim := Lib.hid (CB_sbdhi.out.below hb)
            have CC_sbdhim := Lib.hid (CC_sbdhi.out.below hb)
            have OT_sbdhim := Lib.hid (OT_sbdhi.out.below hb)
            have Z_sbdhim := Lib.hid (show B3 (Wsbdhi.alloc (.cells #[.slice none 0 0, .slice none 0 0, .slice none 0 0] 36)) Wsbdhi.heap.size (.slice none 0 0) (.slice none 0 0) (.slice none 0 0) from b3_new Wsbdhi _ _ _ 36)
            have LB := Lib.hid (show u1.heap.size ≤ Wsbdhi.heap.size from LO_sbdhi.out.size)
            (first | have LD := Lib.hid OT_sbdhi.out.le | skip)
            clear hb
            refine hK.out _ _ (show _ from ⟨⟨R_sbdhim.out.1, R_sbdhim.out.2.1, R_sbdhim.out.2.2⟩, ⟨V_sbdhim.out.1, V_sbdhim.out.2⟩⟩) (fun hHeld => ?_)
            clear hK K
            try simp only [Act.put, List.getElem_toArray, List.getElem_cons_succ, List.getElem_cons_zero, List.setIfInBounds_toArray, List.set_cons_zero, List.set_cons_succ]
            generalize hW9 : Wsbdhi.alloc (.cells #[.slice none 0 0, .slice none 0 0, .slice none 0 0] 36) = Wsbdhim at *
            clear hW9
            have hm5 := mid3 Wsbdhim (Wsbdhi.heap.size) (.slice za1 res.c.length za2) (.slice zb1 res.h.length zb2) (.slice zc1 res.r.length zc2)
            have R_y := Lib.hid (gr_midw R_sbdhim.out hm5 (.inl (Nat.lt_of_lt_of_le LR9.out LB.out)))
            have V_y := Lib.hid (d2_midw V_sbdhim.out hm5 (.inl (Nat.lt_of_lt_of_le LV9.out LB.out)))
            have BX : BoxP u1 (((Wsbdhim.setCell ⟨Wsbdhi.heap.size, 0, none⟩ (.slice za1 res.c.length za2)).setCell ⟨Wsbdhi.heap.size, 1, none⟩ (.slice zb1 res.h.length zb2)).setCell ⟨Wsbdhi.heap.size, 2, none⟩ (.slice zc1 res.r.length zc2)) (Wsbdhi.heap.size) (.slice za1 res.c.length za2) (.slice zb1 res.h.length zb2) (.slice zc1 res.r.length zc2) res := (by first | exact boxP_mk LO_sbdhim.out LB.out Z_sbdhim.out OT_sbdhim.out (.inl LQ.out) | exact boxP_mk LO_sbdhim.out LB.out Z_sbdhim.out OT_sbdhim.out (.inr LD.out))
            have BX := Lib.hid BX
            clear hm5
            refine wpAnyH_ready (rs := [13]) (by kernel_rfl) (by simp) ?_
            refine AllReadyH.cons rfl (fun K hK => ?_) AllReadyH.nil
            obtain ⟨y0, y1, y2, yf⟩ := Z_sbdhim.out
            have yf0 := yf 0
            have yf1 := yf 1
            have yf2 := yf 2
            clear yf
            go_simp
            refine hK.out _ _ (show _ from ⟨⟨R_y.out.1, R_y.out.2.1, R_y.out.2.2⟩, ⟨V_y.out.1, V_y.out.2⟩⟩) (fun hHeld => ?_)
            clear hK K
            try simp only [Act.put, List.getElem_toArray, List.getElem_cons_succ, List.getElem_cons_zero, List.setIfInBounds_toArray, List.set_cons_zero, List.set_cons_succ]
            refine wpAnyH_take (i := 14) (v := ?_) rfl (by kernel_rfl) (by kernel_rfl) (by kernel_rfl) (fun _ _ _ h => h) (Or.inl ⟨by kernel_rfl, ?_⟩) (by assumption) ?_
            rotate_left 1
            · intro w9 hSw
              try dsimp only at hSw
              go_simp
              try with_reducible rfl
            try simp only [Act.put, List.getElem_toArray, List.getElem_cons_succ, List.getElem_cons_zero, List.setIfInBounds_toArray, List.set_cons_zero, List.set_cons_succ]
            refine wpAnyH_done (by kernel_rfl) ?_ _
            go_wp2_with fail
            go_meet
            exact ⟨_, _, _, _, _, _, _, rfl, rfl, BX.out⟩
          · go_simp
            have hb := ba Wsbdh (.cells #[.slice none 0 0, .slice none 0 0, .slice none 0 0] 36)
            have HB_sbdhm := Lib.hid (bt HB_sbdh.out hb)
            have R_sbdhm := Lib.hid (R_sbdh.out.below hb)
            have V_sbdhm := Lib.hid (V_sbdh.out.below hb)
            have A_sbdhm := Lib.hid (A_sbdh.out.below hb)
            have CS_sbdhm := Lib.hid (CS_sbdh.out.below hb)
            have LO_sbdhm := Lib.hid (LO_sbdh.out.below hb)
            have CB_sbdhm := Lib.hid (CB_sbdh.out.below hb)
            have CC_sbdhm := Lib.hid (CC_sbdh.out.below hb)
            have Z_sbdhm := Lib.hid (show B3 (Wsbdh.alloc (.cells #[.slice none 0 0, .slice none 0 0, .slice none 0 0] 36)) Wsbdh.heap.size (.slice none 0 0) (.slice none 0 0) (.slice none 0 0) from b3_new Wsbdh _ _ _ 36)
            have LB := Lib.hid (show u1.heap.size ≤ Wsbdh.heap.size from LO_sbdh.out.size)
            (first | have LD := Lib.hid OT_sbdh.out.le | skip)
            clear hb
            refine hK.out _ _ (show _ from ⟨⟨R_sbdhm.out.1, R_sbdhm.out.2.1, R_sbdhm.out.2.2⟩, ⟨V_sbdhm.out.1, V_sbdhm.out.2⟩⟩) (fun hHeld => ?_)
            clear hK K
            try simp only [Act.put, List.getElem_toArray, List.getElem_cons_succ, List.getElem_cons_zero, List.setIfInBounds_toArray, List.set_cons_zero, List.set_cons_succ]
            generalize hW9 : Wsbdh.alloc (.cells #[.slice none 0 0, .slice none 0 0, .slice none 0 0] 36) = Wsbdhm at *
            clear hW9
            refine wpAnyH_ready (rs := [8]) (by kernel_rfl) (by simp) ?_
            refine AllReadyH.cons rfl (fun K hK => ?_) (AllReadyH.nil)
            go_simp
            (first | have LQ := Lib.hid Z_sbdhm.out.lt | skip)
            have LQS := Lib.hid LO_sbdhm.out.size
            go_at_call 50
            refine (sProveOpening_any P0 Q0 G0 H1 a2 a3 hsl lcs CB_sbdhm.out CC_sbdhm.out).mono ?_
            rw [HV.out, HK.out]
            rintro e' Wsbdhmi ⟨za, zb, zc, rfl, ho, hb⟩
            obtain ⟨za1, za2, zb1, zb2, zc1, zc2, hsh⟩ := inP_shapeQ (OwT.toIn ho)
            simp only [Value.agg.injEq, Array.mk.injEq, List.cons.injEq, and_true] at hsh
            obtain ⟨rfl, rfl, rfl⟩ := hsh
            have HB_sbdhmi := Lib.hid (bt HB_sbdhm.out hb)
            have R_sbdhmi := Lib.hid (R_sbdhm.out.below hb)
            have V_sbdhmi := Lib.hid (V_sbdhm.out.below hb)
            have A_sbdhmi := Lib.hid (A_sbdhm.out.below hb)
            have CS_sbdhmi := Lib.hid (CS_sbdhm.out.below hb)
            have LO_sbdhmi := Lib.hid (LO_sbdhm.out.below hb)
            have CB_sbdhmi := Lib.hid (CB_sbdhm.out.below hb)
            have CC_sbdhmi := Lib.hid (CC_sbdhm.out.below hb)
            have Z_sbdhmi := Lib.hid (Z_sbdhm.out.below hb)
            have OT_sbdhmi := Lib.hid (ho)
            clear ho
            clear hb
            go_wp2_with fail
            refine hK.out _ _ (show _ from ⟨⟨R_sbdhmi.out.1, R_sbdhmi.out.2.1, R_sbdhmi.out.2.2⟩, ⟨V_sbdhmi.out.1, V_sbdhmi.out.2⟩⟩) (fun hHeld => ?_)
            clear hK K
            try simp only [Act.put, List.getElem_toArray, List.getElem_cons_succ, List.getElem_cons_zero, List.setIfInBounds_toArray, List.set_cons_zero, List.set_cons_succ]
            refine wpAnyH_take (i := 9) (v := ?_) rfl (by kernel_rfl) (by kernel_rfl) (by kernel_rfl) (fun _ _ _ h => h) (Or.inl ⟨by kernel_rfl, ?_⟩) (by assumption) ?_
            rotate_left 1
            · intro w9 hSw
              try dsimp only at hSw
              go_simp
              try with_reducible rfl
            try simp only [Act.put, List.getElem_toArray, List.getElem_cons_succ, List.getElem_cons_zero, List.setIfInBounds_toArray, List.set_cons_zero, List.set_cons_succ]
            refine wpAnyH_take (i := 10) (v := ?_) rfl (by kernel_rfl) (by kernel_rfl) (by kernel_rfl) (fun _ _ _ h => h) (Or.inl ⟨by kernel_rfl, ?_⟩) (by assumption) ?_
            rotate_left 1
            · intro w9 hSw
              try dsimp only at hSw
              go_simp
              try with_reducible rfl
            try simp only [Act.put, List.getElem_toArray, List.getElem_cons_succ, List.getElem_cons_zero, List.setIfInBounds_toArray, List.set_cons_zero, List.set_cons_succ]
            refine wpAnyH_take (i := 11) (v := ?_) rfl (by kernel_rfl) (by kernel_rfl) (by kernel_rfl) (fun _ _ _ h => h) (Or.inl ⟨by kernel_rfl, ?_⟩) (by assumption) ?_
            rotate_left 1
            · intro w9 hSw
              try dsimp only at hSw
              go_simp
              try with_reducible rfl
            try simp only [Act.put, List.getElem_toArray, List.getElem_cons_succ, List.getElem_cons_zero, List.setIfInBounds_toArray, List.set_cons_zero, List.set_cons_succ]
            have hm5 := mid3 Wsbdhmi (Wsbdh.heap.size) (.slice za1 res.c.length za2) (.slice zb1 res.h.length zb2) (.slice zc1 res.r.length zc2)
            have R_y := Lib.hid (gr_midw R_sbdhmi.out hm5 (.inl (Nat.lt_of_lt_of_le LR9.out LB.out)))
            have V_y := Lib.hid (d2_midw V_sbdhmi.out hm5 (.inl (Nat.lt_of_lt_of_le LV9.out LB.out)))
            have BX : BoxP u1 (((Wsbdhmi.setCell ⟨Wsbdh.heap.size, 0, none⟩ (.slice za1 res.c.length za2)).setCell ⟨Wsbdh.heap.size, 1, none⟩ (.slice zb1 res.h.length zb2)).setCell ⟨Wsbdh.heap.size, 2, none⟩ (.slice zc1 res.r.length zc2)) (Wsbdh.heap.size) (.slice za1 res.c.length za2) (.slice zb1 res.h.length zb2) (.slice zc1 res.r.length zc2) res := (by first | exact boxP_mk LO_sbdhmi.out LB.out Z_sbdhmi.out OT_sbdhmi.out (.inl LQ.out) | exact boxP_mk LO_sbdhmi.out LB.out Z_sbdhmi.out OT_sbdhmi.out (.inr LD.out))
            have BX := Lib.hid BX
            clear hm5
            refine wpAnyH_ready (rs := [13]) (by kernel_rfl) (by simp) ?_
            refine AllReadyH.cons rfl (fun K hK => ?_) AllReadyH.nil
            obtain ⟨y0, y1, y2, yf⟩ := Z_sbdhmi.out
            have yf0 := yf 0
            have yf1 := yf 1
            have yf2 := yf 2
            clear yf
            go_simp
            refine hK.out _ _ (show _ from ⟨⟨R_y.out.1, R_y.out.2.1, R_y.out.2.2⟩, ⟨V_y.out.1, V_y.out.2⟩⟩) (fun hHeld => ?_)
            clear hK K
            try simp only [Act.put, List.getElem_toArray, List.getElem_cons_succ, List.getElem_cons_zero, List.setIfInBounds_toArray, List.set_cons_zero, List.set_cons_succ]
            refine wpAnyH_take (i := 14) (v := ?_) rfl (by kernel_rfl) (by kernel_rfl) (by kernel_rfl) (fun _ _ _ h => h) (Or.inl ⟨by kernel_rfl, ?_⟩) (by assumption) ?_
            rotate_left 1
            · intro w9 hSw
              try dsimp only at hSw
              go_simp
              try with_reducible rfl
            try simp only [Act.put, List.getElem_toArray, List.getElem_cons_succ, List.getElem_cons_zero, List.setIfInBounds_toArray, List.set_cons_zero, List.set_cons_succ]
            refine wpAnyH_done (by kernel_rfl) ?_ _
            go_wp2_with fail
            go_meet
            exact ⟨_, _, _, _, _, _, _, rfl, rfl, BX.out⟩
        · go_simp
          have hb := ba Wsbd (.cells #[.slice none 0 0, .slice none 0 0, .slice none 0 0] 36)
          have HB_sbdm := Lib.hid (bt HB_sbd.out hb)
          have R_sbdm := Lib.hid (R_sbd.out.below hb)
          have V_sbdm := Lib.hid (V_sbd.out.below hb)
          have A_sbdm := Lib.hid (A_sbd.out.below hb)
          have CS_sbdm := Lib.hid (CS_sbd.out.below hb)
          have LO_sbdm := Lib.hid (LO_sbd.out.below hb)
          have CB_sbdm := Lib.hid (CB_sbd.out.below hb)
          have Z_sbdm := Lib.hid (show B3 (Wsbd.alloc (.cells #[.slice none 0 0, .slice none 0 0, .slice none 0 0] 36)) Wsbd.heap.size (.slice none 0 0) (.slice none 0 0) (.slice none 0 0) from b3_new Wsbd _ _ _ 36)
          have LB := Lib.hid (show u1.heap.size ≤ Wsbd.heap.size from LO_sbd.out.size)
          (first | have LD := Lib.hid OT_sbd.out.le | skip)
          clear hb
          refine hK.out _ _ (show _ from ⟨⟨R_sbdm.out.1, R_sbdm.out.2.1, R_sbdm.out.2.2⟩, ⟨V_sbdm.out.1, V_sbdm.out.2⟩⟩) (fun hHeld => ?_)
          clear hK K
          try simp only [Act.put, List.getElem_toArray, List.getElem_cons_succ, List.getElem_cons_zero, List.setIfInBounds_toArray, List.set_cons_zero, List.set_cons_succ]
          generalize hW9 : Wsbd.alloc (.cells #[.slice none 0 0, .slice none 0 0, .slice none 0 0] 36) = Wsbdm at *
          clear hW9
          refine wpAnyH_ready (rs := [7]) (by kernel_rfl) (by simp) ?_
          refine AllReadyH.cons rfl (fun K hK => ?_) (AllReadyH.nil)
          go_simp
          go_at_call 20
          refine (toI_any CS_sbdm.out (by omega)).mono ?_
          rintro e' Wsbdmh ⟨xcs, rfl, ho, hb⟩
          have HB_sbdmh := Lib.hid (bt HB_sbdm.out hb)
          have R_sbdmh := Lib.hid (R_sbdm.out.below hb)
          have V_sbdmh := Lib.hid (V_sbdm.out.below hb)
          have A_sbdmh := Lib.hid (A_sbdm.out.below hb)
          have CS_sbdmh := Lib.hid (CS_sbdm.out.below hb)
          have LO_sbdmh := Lib.hid (LO_sbdm.out.below hb)
          have CB_sbdmh := Lib.hid (CB_sbdm.out.below hb)
          have Z_sbdmh := Lib.hid (Z_sbdm.out.below hb)
          have CC_sbdmh := Lib.hid (ho.toIn)
          clear ho
          clear hb
          go_wp2_with fail
          refine hK.out _ _ (show _ from ⟨⟨R_sbdmh.out.1, R_sbdmh.out.2.1, R_sbdmh.out.2.2⟩, ⟨V_sbdmh.out.1, V_sbdmh.out.2⟩⟩) (fun hHeld => ?_)
          clear hK K
          try simp only [Act.put, List.getElem_toArray, List.getElem_cons_succ, List.getElem_cons_zero, List.setIfInBounds_toArray, List.set_cons_zero, List.set_cons_succ]
          refine wpAnyH_ready (rs := [8]) (by kernel_rfl) (by simp) ?_
          refine AllReadyH.cons rfl (fun K hK => ?_) (AllReadyH.nil)
          go_simp
          (first | have LQ := Lib.hid Z_sbdmh.out.lt | skip)
          have LQS := Lib.hid LO_sbdmh.out.size
          go_at_call 50
          refine (sProveOpening_any P0 Q0 G0 H1 a2 a3 hsl lcs CB_sbdmh.out CC_sbdmh.out).mono ?_
          rw [HV.out, HK.out]
          rintro e' Wsbdmhi ⟨za, zb, zc, rfl, ho, hb⟩
          obtain ⟨za1, za2, zb1, zb2, zc1, zc2, hsh⟩ := inP_shapeQ (OwT.toIn ho)
          simp only [Value.agg.injEq, Array.mk.injEq, List.cons.injEq, and_true] at hsh
          obtain ⟨rfl, rfl, rfl⟩ := hsh
          have HB_sbdmhi := Lib.hid (bt HB_sbdmh.out hb)
          have R_sbdmhi := Lib.hid (R_sbdmh.out.below hb)
          have V_sbdmhi := Lib.hid (V_sbdmh.out.below hb)
          have A_sbdmhi := Lib.hid (A_sbdmh.out.below hb)
          have CS_sbdmhi := Lib.hid (CS_sbdmh.out.below hb)
          have LO_sbdmhi := Lib.hid (LO_sbdmh.out.below hb)
          have CB_sbdmhi := Lib.hid (CB_sbdmh.out.below hb)
          have Z_sbdmhi := Lib.hid (Z_sbdmh.out.below hb)
          have CC_sbdmhi := Lib.hid (CC_sbdmh.out.below hb)
          have OT_sbdmhi := Lib.hid (ho)
          clear ho
          clear hb
          go_wp2_with fail
          refine hK.out _ _ (show _ from ⟨⟨R_sbdmhi.out.1, R_sbdmhi.out.2.1, R_sbdmhi.out.2.2⟩, ⟨V_sbdmhi.out.1, V_sbdmhi.out.2⟩⟩) (fun hHeld => ?_)
          clear hK K
          try simp only [Act.put, List.getElem_toArray, List.getElem_cons_succ, List.getElem_cons_zero, List.setIfInBounds_toArray, List.set_cons_zero, List.set_cons_succ]
          refine wpAnyH_take (i := 9) (v := ?_) rfl (by kernel_rfl) (by kernel_rfl) (by kernel_rfl) (fun _ _ _ h => h) (Or.inl ⟨by kernel_rfl, ?_⟩) (by assumption) ?_
          rotate_left 1
          · intro w9 hSw
            try dsimp only at hSw
            go_simp
            try with_reducible rfl
          try simp only [Act.put, List.getElem_toArray, List.getElem_cons_succ, List.getElem_cons_zero, List.setIfInBounds_toArray, List.set_cons_zero, List.set_cons_succ]
          refine wpAnyH_take (i := 10) (v := ?_) rfl (by kernel_rfl) (by kernel_rfl) (by kernel_rfl) (fun _ _ _ h => h) (Or.inl ⟨by kernel_rfl, ?_⟩) (by assumption) ?_
          rotate_left 1
          · intro w9 hSw
            try dsimp only at hSw
            go_simp
            try with_reducible rfl
          try simp only [Act.put, List.getElem_toArray, List.getElem_cons_succ, List.getElem_cons_zero, List.setIfInBounds_toArray, List.set_cons_zero, List.set_cons_succ]
          refine wpAnyH_take (i := 11) (v := ?_) rfl (by kernel_rfl) (by kernel_rfl) (by kernel_rfl) (fun _ _ _ h => h) (Or.inl ⟨by kernel_rfl, ?_⟩) (by assumption) ?_
          rotate_left 1
          · intro w9 hSw
            try dsimp only at hSw
            go_simp
            try with_reducible rfl
          try simp only [Act.put, List.getElem_toArray, List.getElem_cons_succ, List.getElem_cons_zero, List.setIfInBounds_toArray, List.set_cons_zero, List.set_cons_succ]
          have hm5 := mid3 Wsbdmhi (Wsbd.heap.size) (.slice za1 res.c.length za2) (.slice zb1 res.h.length zb2) (.slice zc1 res.r.length zc2)
          have R_y := Lib.hid (gr_midw R_sbdmhi.out hm5 (.inl (Nat.lt_of_lt_of_le LR9.out LB.out)))
          have V_y := Lib.hid (d2_midw V_sbdmhi.out hm5 (.inl (Nat.lt_of_lt_of_le LV9.out LB.out)))
          have BX : BoxP u1 (((Wsbdmhi.setCell ⟨Wsbd.heap.size, 0, none⟩ (.slice za1 res.c.length za2)).setCell ⟨Wsbd.heap.size, 1, none⟩ (.slice zb1 res.h.length zb2)).setCell ⟨Wsbd.heap.size, 2, none⟩ (.slice zc1 res.r.length zc2)) (Wsbd.heap.size) (.slice za1 res.c.length za2) (.slice zb1 res.h.length zb2) (.slice zc1 res.r.length zc2) res := (by first | exact boxP_mk LO_sbdmhi.out LB.out Z_sbdmhi.out OT_sbdmhi.out (.inl LQ.out) | exact boxP_mk LO_sbdmhi.out LB.out Z_sbdmhi.out OT_sbdmhi.out (.inr LD.out))
          have BX := Lib.hid BX
          clear hm5
          refine wpAnyH_ready (rs := [13]) (by kernel_rfl) (by simp) ?_
          refine AllReadyH.cons rfl (fun K hK => ?_) AllReadyH.nil
          obtain ⟨y0, y1, y2, yf⟩ := Z_sbdmhi.out
          have yf0 := yf 0
          have yf1 := yf 1
          have yf2 := yf 2
          clear yf
          go_simp
          refine hK.out _ _ (show _ from ⟨⟨R_y.out.1, R_y.out.2.1, R_y.out.2.2⟩, ⟨V_y.out.1, V_y.out.2⟩⟩) (fun hHeld => ?_)
          clear hK K
          try simp only [Act.put, List.getElem_toArray, List.getElem_cons_succ, List.getElem_cons_zero, List.setIfInBounds_toArray, List.set_cons_zero, List.set_cons_succ]
          refine wpAnyH_take (i := 14) (v := ?_) rfl (by kernel_rfl) (by kernel_rfl) (by kernel_rfl) (fun _ _ _ h => h) (Or.inl ⟨by kernel_rfl, ?_⟩) (by assumption) ?_
          rotate_left 1
          · intro w9 hSw
            try dsimp only at hSw
            go_simp
            try with_reducible rfl
          try simp only [Act.put, List.getElem_toArray, List.getElem_cons_succ, List.getElem_cons_zero, List.setIfInBounds_toArray, List.set_cons_zero, List.set_cons_succ]
          refine wpAnyH_done (by kernel_rfl) ?_ _
          go_wp2_with fail
          go_meet
          exact ⟨_, _, _, _, _, _, _, rfl, rfl, BX.out⟩
      · go_simp
        have hb := ba Wsb (.cells #[.slice none 0 0, .slice none 0 0, .slice none 0 0] 36)
        have HB_sbm := Lib.hid (bt HB_sb.out hb)
        have R_sbm := Lib.hid (R_sb.out.below hb)
        have V_sbm := Lib.hid (V_sb.out.below hb)
        have A_sbm := Lib.hid (A_sb.out.below hb)
        have CS_sbm := Lib.hid (CS_sb.out.below hb)
        have LO_sbm := Lib.hid (LO_sb.out.below hb)
        have Z_sbm := Lib.hid (show B3 (Wsb.alloc (.cells #[.slice none 0 0, .slice none 0 0, .slice none 0 0] 36)) Wsb.heap.size (.slice none 0 0) (.slice none 0 0) (.slice none 0 0) from b3_new Wsb _ _ _ 36)
        have LB := Lib.hid (show u1.heap.size ≤ Wsb.heap.size from LO_sb.out.size)
        (first | have LD := Lib.hid OT_sb.out.le | skip)
        clear hb
        refine hK.out _ _ (show _ from ⟨⟨R_sbm.out.1, R_sbm.out.2.1, R_sbm.out.2.2⟩, ⟨V_sbm.out.1, V_sbm.out.2⟩⟩) (fun hHeld => ?_)
        clear hK K
        try simp only [Act.put, List.getElem_toArray, List.getElem_cons_succ, List.getElem_cons_zero, List.setIfInBounds_toArray, List.set_cons_zero, List.set_cons_succ]
        generalize hW9 : Wsb.alloc (.cells #[.slice none 0 0, .slice none 0 0, .slice none 0 0] 36) = Wsbm at *
        clear hW9
        refine wpAnyH_ready (rs := [3]) (by kernel_rfl) (by simp) ?_
        refine AllReadyH.cons rfl (fun K hK => ?_) (AllReadyH.nil)
        go_simp
        go_at_call 51
        refine (toBas_any A_sbm.out (by omega)).mono ?_
        rintro e' Wsbmd ⟨yw, rfl, ho, hb⟩
        have HB_sbmd := Lib.hid (bt HB_sbm.out hb)
        have R_sbmd := Lib.hid (R_sbm.out.below hb)
        have V_sbmd := Lib.hid (V_sbm.out.below hb)
        have A_sbmd := Lib.hid (A_sbm.out.below hb)
        have CS_sbmd := Lib.hid (CS_sbm.out.below hb)
        have LO_sbmd := Lib.hid (LO_sbm.out.below hb)
        have Z_sbmd := Lib.hid (Z_sbm.out.below hb)
        have CB_sbmd := Lib.hid (ho.toIn)
        clear ho
        clear hb
        go_wp2_with fail
        refine hK.out _ _ (show _ from ⟨⟨R_sbmd.out.1, R_sbmd.out.2.1, R_sbmd.out.2.2⟩, ⟨V_sbmd.out.1, V_sbmd.out.2⟩⟩) (fun hHeld => ?_)
        clear hK K
        try simp only [Act.put, List.getElem_toArray, List.getElem_cons_succ, List.getElem_cons_zero, List.setIfInBounds_toArray, List.set_cons_zero, List.set_cons_succ]
        refine wpAnyH_ready (rs := [7]) (by kernel_rfl) (by simp) ?_
        refine AllReadyH.cons rfl (fun K hK => ?_) (AllReadyH.nil)
        go_simp
        go_at_call 20
        refine (toI_any CS_sbmd.out (by omega)).mono ?_
        rintro e' Wsbmdh ⟨xcs, rfl, ho, hb⟩
        have HB_sbmdh := Lib.hid (bt HB_sbmd.out hb)
        have R_sbmdh := Lib.hid (R_sbmd.out.below hb)
        have V_sbmdh := Lib.hid (V_sbmd.out.below hb)
        have A_sbmdh := Lib.hid (A_sbmd.out.below hb)
        have CS_sbmdh := Lib.hid (CS_sbmd.out.below hb)
        have LO_sbmdh := Lib.hid (LO_sbmd.out.below hb)
        have Z_sbmdh := Lib.hid (Z_sbmd.out.below hb)
        have CB_sbmdh := Lib.hid (CB_sbmd.out.below hb)
        have CC_sbmdh := Lib.hid (ho.toIn)
        clear ho
        clear hb
        go_wp2_with fail
        refine hK.out _ _ (show _ from ⟨⟨R_sbmdh.out.1, R_sbmdh.out.2.1, R_sbmdh.out.2.2⟩, ⟨V_sbmdh.out.1, V_sbmdh.out.2⟩⟩) (fun hHeld => ?_)
        clear hK K
        try simp only [Act.put, List.getElem_toArray, List.getElem_cons_succ, List.getElem_cons_zero, List.setIfInBounds_toArray, List.set_cons_zero, List.set_cons_succ]
        refine wpAnyH_ready (rs := [8]) (by kernel_rfl) (by simp) ?_
        refine AllReadyH.cons rfl (fun K hK => ?_) (AllReadyH.nil)
        go_simp
        (first | have LQ := Lib.hid Z_sbmdh.out.lt | skip)
        have LQS := Lib.hid LO_sbmdh.out.size
        go_at_call 50
        refine (sProveOpening_any P0 Q0 G0 H1 a2 a3 hsl lcs CB_sbmdh.out CC_sbmdh.out).mono ?_
        rw [HV.out, HK.out]
        rintro e' Wsbmdhi ⟨za, zb, zc, rfl, ho, hb⟩
        obtain ⟨za1, za2, zb1, zb2, zc1, zc2, hsh⟩ := inP_shapeQ (OwT.toIn ho)
        simp only [Value.agg.injEq, Array.mk.injEq, List.cons.injEq, and_true] at hsh
        obtain ⟨rfl, rfl, rfl⟩ := hsh
        have HB_sbmdhi := Lib.hid (bt HB_sbmdh.out hb)
        have R_sbmdhi := Lib.hid (R_sbmdh.out.below hb)
        have V_sbmdhi := Lib.hid (V_sbmdh.out.below hb)
        have A_sbmdhi := Lib.hid (A_sbmdh.out.below hb)
        have CS_sbmdhi := Lib.hid (CS_sbmdh.out.below hb)
        have LO_sbmdhi := Lib.hid (LO_sbmdh.out.below hb)
        have Z_sbmdhi := Lib.hid (Z_sbmdh.out.below hb)
        have CB_sbmdhi := Lib.hid (CB_sbmdh.out.below hb)
        have CC_sbmdhi := Lib.hid (CC_sbmdh.out.below hb)
        have OT_sbmdhi := Lib.hid (ho)
        clear ho
        clear hb
        go_wp2_with fail
        refine hK.out _ _ (show _ from ⟨⟨R_sbmdhi.out.1, R_sbmdhi.out.2.1, R_sbmdhi.out.2.2⟩, ⟨V_sbmdhi.out.1, V_sbmdhi.out.2⟩⟩) (fun hHeld => ?_)
        clear hK K
        try simp only [Act.put, List.getElem_toArray, List.getElem_cons_succ, List.getElem_cons_zero, List.setIfInBounds_toArray, List.set_cons_zero, List.set_cons_succ]
        refine wpAnyH_take (i := 9) (v := ?_) rfl (by kernel_rfl) (by kernel_rfl) (by kernel_rfl) (fun _ _ _ h => h) (Or.inl ⟨by kernel_rfl, ?_⟩) (by assumption) ?_
        rotate_left 1
        · intro w9 hSw
          try dsimp only at hSw
          go_simp
          try with_reducible rfl
        try simp only [Act.put, List.getElem_toArray, List.getElem_cons_succ, List.getElem_cons_zero, List.setIfInBounds_toArray, List.set_cons_zero, List.set_cons_succ]
        refine wpAnyH_take (i := 10) (v := ?_) rfl (by kernel_rfl) (by kernel_rfl) (by kernel_rfl) (fun _ _ _ h => h) (Or.inl ⟨by kernel_rfl, ?_⟩) (by assumption) ?_
        rotate_left 1
        · intro w9 hSw
          try dsimp only at hSw
          go_simp
          try with_reducible rfl
        try simp only [Act.put, List.getElem_toArray, List.getElem_cons_succ, List.getElem_cons_zero, List.setIfInBounds_toArray, List.set_cons_zero, List.set_cons_succ]
        refine wpAnyH_take (i := 11) (v := ?_) rfl (by kernel_rfl) (by kernel_rfl) (by kernel_rfl) (fun _ _ _ h => h) (Or.inl ⟨by kernel_rfl, ?_⟩) (by assumption) ?_
        rotate_left 1
        · intro w9 hSw
          try dsimp only at hSw
          go_simp
          try with_reducible rfl
        try simp only [Act.put, List.getElem_toArray, List.getElem_cons_succ, List.getElem_cons_zero, List.setIfInBounds_toArray, List.set_cons_zero, List.set_cons_succ]
        have hm5 := mid3 Wsbmdhi (Wsb.heap.size) (.slice za1 res.c.length za2) (.slice zb1 res.h.length zb2) (.slice zc1 res.r.length zc2)
        have R_y := Lib.hid (gr_midw R_sbmdhi.out hm5 (.inl (Nat.lt_of_lt_of_le LR9.out LB.out)))
        have V_y := Lib.hid (d2_midw V_sbmdhi.out hm5 (.inl (Nat.lt_of_lt_of_le LV9.out LB.out)))
        have BX : BoxP u1 (((Wsbmdhi.setCell ⟨Wsb.heap.size, 0, none⟩ (.slice za1 res.c.length za2)).setCell ⟨Wsb.heap.size, 1, none⟩ (.slice zb1 res.h.length zb2)).setCell ⟨Wsb.heap.size, 2, none⟩ (.slice zc1 res.r.length zc2)) (Wsb.heap.size) (.slice za1 res.c.length za2) (.slice zb1 res.h.length zb2) (.slice zc1 res.r.length zc2) res := (by first | exact boxP_mk LO_sbmdhi.out LB.out Z_sbmdhi.out OT_sbmdhi.out (.inl LQ.out) | exact boxP_mk LO_sbmdhi.out LB.out Z_sbmdhi.out OT_sbmdhi.out (.inr LD.out))
        have BX := Lib.hid BX
        clear hm5
        refine wpAnyH_ready (rs := [13]) (by kernel_rfl) (by simp) ?_
        refine AllReadyH.cons rfl (fun K hK => ?_) AllReadyH.nil
        obtain ⟨y0, y1, y2, yf⟩ := Z_sbmdhi.out
        have yf0 := yf 0
        have yf1 := yf 1
        have yf2 := yf 2
        clear yf
        go_simp
        refine hK.out _ _ (show _ from ⟨⟨R_y.out.1, R_y.out.2.1, R_y.out.2.2⟩, ⟨V_y.out.1, V_y.out.2⟩⟩) (fun hHeld => ?_)
        clear hK K
        try simp only [Act.put, List.getElem_toArray, List.getElem_cons_succ, List.getElem_cons_zero, List.setIfInBounds_toArray, List.set_cons_zero, List.set_cons_succ]
        refine wpAnyH_take (i := 14) (v := ?_) rfl (by kernel_rfl) (by kernel_rfl) (by kernel_rfl) (fun _ _ _ h => h) (Or.inl ⟨by kernel_rfl, ?_⟩) (by assumption) ?_
        rotate_left 1
        · intro w9 hSw
          try dsimp only at hSw
          go_simp
          try with_reducible rfl
        try simp only [Act.put, List.getElem_toArray, List.getElem_cons_succ, List.getElem_cons_zero, List.setIfInBounds_toArray, List.set_cons_zero, List.set_cons_succ]
        refine wpAnyH_done (by kernel_rfl) ?_ _
        go_wp2_with fail
        go_meet
        exact ⟨_, _, _, _, _, _, _, rfl, rfl, BX.out⟩
    · go_simp
      have hb := ba Ws (.cells #[.slice none 0 0, .slice none 0 0, .slice none 0 0] 36)
      have HB_sm := Lib.hid (bt HB_s.out hb)
      have R_sm := Lib.hid (R_s.out.below hb)
      have V_sm := Lib.hid (V_s.out.below hb)
      have A_sm := Lib.hid (A_s.out.below hb)
      have CS_sm := Lib.hid (CS_s.out.below hb)
      have LO_sm := Lib.hid (LO_s.out.below hb)
      have Z_sm := Lib.hid (show B3 (Ws.alloc (.cells #[.slice none 0 0, .slice none 0 0, .slice none 0 0] 36)) Ws.heap.size (.slice none 0 0) (.slice none 0 0) (.slice none 0 0) from b3_new Ws _ _ _ 36)
      have LB := Lib.hid (show u1.heap.size ≤ Ws.heap.size from LO_s.out.size)
      (first | have LD := Lib.hid OT_s.out.le | skip)
      clear hb
      refine hK.out _ _ (show _ from ⟨⟨R_sm.out.1, R_sm.out.2.1, R_sm.out.2.2⟩, ⟨V_sm.out.1, V_sm.out.2⟩⟩) (fun hHeld => ?_)
      clear hK K
      try simp only [Act.put, List.getElem_toArray, List.getElem_cons_succ, List.getElem_cons_zero, List.setIfInBounds_toArray, List.set_cons_zero, List.set_cons_succ]
      generalize hW9 : Ws.alloc (.cells #[.slice none 0 0, .slice none 0 0, .slice none 0 0] 36) = Wsm at *
      clear hW9
      refine wpAnyH_ready (rs := [1]) (by kernel_rfl) (by simp) ?_
      refine AllReadyH.cons rfl (fun K hK => ?_) (AllReadyH.nil)
      go_simp
      go_at_call 18
      refine (toGroup_any _ _ _ _).mono ?_
      rintro e' Wsmb ⟨rfl, hb⟩
      have HB_smb := Lib.hid (bt HB_sm.out hb)
      have R_smb := Lib.hid (R_sm.out.below hb)
      have V_smb := Lib.hid (V_sm.out.below hb)
      have A_smb := Lib.hid (A_sm.out.below hb)
      have CS_smb := Lib.hid (CS_sm.out.below hb)
      have LO_smb := Lib.hid (LO_sm.out.below hb)
      have Z_smb := Lib.hid (Z_sm.out.below hb)
      clear hb
      go_wp2_with fail
      refine hK.out _ _ (show _ from ⟨⟨R_smb.out.1, R_smb.out.2.1, R_smb.out.2.2⟩, ⟨V_smb.out.1, V_smb.out.2⟩⟩) (fun hHeld => ?_)
      clear hK K
      try simp only [Act.put, List.getElem_toArray, List.getElem_cons_succ, List.getElem_cons_zero, List.setIfInBounds_toArray, List.set_cons_zero, List.set_cons_succ]
      refine wpAnyH_ready (rs := [3]) (by kernel_rfl) (by simp) ?_
      refine AllReadyH.cons rfl (fun K hK => ?_) (AllReadyH.nil)
      go_simp
      go_at_call 51
      refine (toBas_any A_smb.out (by omega)).mono ?_
      rintro e' Wsmbd ⟨yw, rfl, ho, hb⟩
      have HB_smbd := Lib.hid (bt HB_smb.out hb)
      have R_smbd := Lib.hid (R_smb.out.below hb)
      have V_smbd := Lib.hid (V_smb.out.below hb)
      have A_smbd := Lib.hid (A_smb.out.below hb)
      have CS_smbd := Lib.hid (CS_smb.out.below hb)
      have LO_smbd := Lib.hid (LO_smb.out.below hb)
      have Z_smbd := Lib.hid (Z_smb.out.below hb)
      have CB_smbd := Lib.hid (ho.toIn)
      clear ho
      clear hb
      go_wp2_with fail
      refine hK.out _ _ (show _ from ⟨⟨R_smbd.out.1, R_smbd.out.2.1, R_smbd.out.2.2⟩, ⟨V_smbd.out.1, V_smbd.out.2⟩⟩) (fun hHeld => ?_)
      clear hK K
      try simp only [Act.put, List.getElem_toArray, List.getElem_cons_succ, List.getElem_cons_zero, List.setIfInBounds_toArray, List.set_cons_zero, List.set_cons_succ]
      refine wpAnyH_ready (rs := [7]) (by kernel_rfl) (by simp) ?_
      refine AllReadyH.cons rfl (fun K hK => ?_) (AllReadyH.nil)
      go_simp
      go_at_call 20
      refine (toI_any CS_smbd.out (by omega)).mono ?_
      rintro e' Wsmbdh ⟨xcs, rfl, ho, hb⟩
      have HB_smbdh := Lib.hid (bt HB_smbd.out hb)
      have R_smbdh := Lib.hid (R_smbd.out.below hb)
      have V_smbdh := Lib.hid (V_smbd.out.below hb)
      have A_smbdh := Lib.hid (A_smbd.out.below hb)
      have CS_smbdh := Lib.hid (CS_smbd.out.below hb)
      have LO_smbdh := Lib.hid (LO_smbd.out.below hb)
      have Z_smbdh := Lib.hid (Z_smbd.out.below hb)
      have CB_smbdh := Lib.hid (CB_smbd.out.below hb)
      have CC_smbdh := Lib.hid (ho.toIn)
      clear ho
      clear hb
      go_wp2_with fail
      refine hK.out _ _ (show _ from ⟨⟨R_smbdh.out.1, R_smbdh.out.2.1, R_smbdh.out.2.2⟩, ⟨V_smbdh.out.1, V_smbdh.out.2⟩⟩) (fun hHeld => ?_)
      clear hK K
      try simp only [Act.put, List.getElem_toArray, List.getElem_cons_succ, List.getElem_cons_zero, List.setIfInBounds_toArray, List.set_cons_zero, List.set_cons_succ]
      refine wpAnyH_ready (rs := [8]) (by kernel_rfl) (by simp) ?_
      refine AllReadyH.cons rfl (fun K hK => ?_) (AllReadyH.nil)
      go_simp
      (first | have LQ := Lib.hid Z_smbdh.out.lt | skip)
      have LQS := Lib.hid LO_smbdh.out.size
      go_at_call 50
      refine (sProveOpening_any P0 Q0 G0 H1 a2 a3 hsl lcs CB_smbdh.out CC_smbdh.out).mono ?_
      rw [HV.out, HK.out]
      rintro e' Wsmbdhi ⟨za, zb, zc, rfl, ho, hb⟩
      obtain ⟨za1, za2, zb1, zb2, zc1, zc2, hsh⟩ := inP_shapeQ (OwT.toIn ho)
      simp only [Value.agg.injEq, Array.mk.injEq, List.cons.injEq, and_true] at hsh
      obtain ⟨rfl, rfl, rfl⟩ := hsh
      have HB_smbdhi := Lib.hid (bt HB_smbdh.out hb)
      have R_smbdhi := Lib.hid (R_smbdh.out.below hb)
      have V_smbdhi := Lib.hid (V_smbdh.out.below hb)
      have A_smbdhi := Lib.hid (A_smbdh.out.below hb)
      have CS_smbdhi := Lib.hid (CS_smbdh.out.below hb)
      have LO_smbdhi := Lib.hid (LO_smbdh.out.below hb)
      have Z_smbdhi := Lib.hid (Z_smbdh.out.below hb)
      have CB_smbdhi := Lib.hid (CB_smbdh.out.below hb)
      have CC_smbdhi := Lib.hid (CC_smbdh.out.below hb)
      have OT_smbdhi := Lib.hid (ho)
      clear ho
      clear hb
      go_wp2_with fail
      refine hK.out _ _ (show _ from ⟨⟨R_smbdhi.out.1, R_smbdhi.out.2.1, R_smbdhi.out.2.2⟩, ⟨V_smbdhi.out.1, V_smbdhi.out.2⟩⟩) (fun hHeld => ?_)
      clear hK K
      try simp only [Act.put, List.getElem_toArray, List.getElem_cons_succ, List.getElem_cons_zero, List.setIfInBounds_toArray, List.set_cons_zero, List.set_cons_succ]
      refine wpAnyH_take (i := 9) (v := ?_) rfl (by kernel_rfl) (by kernel_rfl) (by kernel_rfl) (fun _ _ _ h => h) (Or.inl ⟨by kernel_rfl, ?_⟩) (by assumption) ?_
      rotate_left 1
      · intro w9 hSw
        try dsimp only at hSw
        go_simp
        try with_reducible rfl
      try simp only [Act.put, List.getElem_toArray, List.getElem_cons_succ, List.getElem_cons_zero, List.setIfInBounds_toArray, List.set_cons_zero, List.set_cons_succ]
      refine wpAnyH_take (i := 10) (v := ?_) rfl (by kernel_rfl) (by kernel_rfl) (by kernel_rfl) (fun _ _ _ h => h) (Or.inl ⟨by kernel_rfl, ?_⟩) (by assumption) ?_
      rotate_left 1
      · intro w9 hSw
        try dsimp only at hSw
        go_simp
        try with_reducible rfl
      try simp only [Act.put, List.getElem_toArray, List.getElem_cons_succ, List.getElem_cons_zero, List.setIfInBounds_toArray, List.set_cons_zero, List.set_cons_succ]
      refine wpAnyH_take (i := 11) (v := ?_) rfl (by kernel_rfl) (by kernel_rfl) (by kernel_rfl) (fun _ _ _ h => h) (Or.inl ⟨by kernel_rfl, ?_⟩) (by assumption) ?_
      rotate_left 1
      · intro w9 hSw
        try dsimp only at hSw
        go_simp
        try with_reducible rfl
      try simp only [Act.put, List.getElem_toArray, List.getElem_cons_succ, List.getElem_cons_zero, List.setIfInBounds_toArray, List.set_cons_zero, List.set_cons_succ]
      have hm5 := mid3 Wsmbdhi (Ws.heap.size) (.slice za1 res.c.length za2) (.slice zb1 res.h.length zb2) (.slice zc1 res.r.length zc2)
      have R_y := Lib.hid (gr_midw R_smbdhi.out hm5 (.inl (Nat.lt_of_lt_of_le LR9.out LB.out)))
      have V_y := Lib.hid (d2_midw V_smbdhi.out hm5 (.inl (Nat.lt_of_lt_of_le LV9.out LB.out)))
      have BX : BoxP u1 (((Wsmbdhi.setCell ⟨Ws.heap.size, 0, none⟩ (.slice za1 res.c.length za2)).setCell ⟨Ws.heap.size, 1, none⟩ (.slice zb1 res.h.length zb2)).setCell ⟨Ws.heap.size, 2, none⟩ (.slice zc1 res.r.length zc2)) (Ws.heap.size) (.slice za1 res.c.length za2) (.slice zb1 res.h.length zb2) (.slice zc1 res.r.length zc2) res := (by first | exact boxP_mk LO_smbdhi.out LB.out Z_smbdhi.out OT_smbdhi.out (.inl LQ.out) | exact boxP_mk LO_smbdhi.out LB.out Z_smbdhi.out OT_smbdhi.out (.inr LD.out))
      have BX := Lib.hid BX
      clear hm5
      refine wpAnyH_ready (rs := [13]) (by kernel_rfl) (by simp) ?_
      refine AllReadyH.cons rfl (fun K hK => ?_) AllReadyH.nil
      obtain ⟨y0, y1, y2, yf⟩ := Z_smbdhi.out
      have yf0 := yf 0
      have yf1 := yf 1
      have yf2 := yf 2
      clear yf
      go_simp
      refine hK.out _ _ (show _ from ⟨⟨R_y.out.1, R_y.out.2.1, R_y.out.2.2⟩, ⟨V_y.out.1, V_y.out.2⟩⟩) (fun hHeld => ?_)
      clear hK K
      try simp only [Act.put, List.getElem_toArray, List.getElem_cons_succ, List.getElem_cons_zero, List.setIfInBounds_toArray, List.set_cons_zero, List.set_cons_succ]
      refine wpAnyH_take (i := 14) (v := ?_) rfl (by kernel_rfl) (by kernel_rfl) (by kernel_rfl) (fun _ _ _ h => h) (Or.inl ⟨by kernel_rfl, ?_⟩) (by assumption) ?_
      rotate_left 1
      · intro w9 hSw
        try dsimp only at hSw
        go_simp
        try with_reducible rfl
      try simp only [Act.put, List.getElem_toArray, List.getElem_cons_succ, List.getElem_cons_zero, List.setIfInBounds_toArray, List.set_cons_zero, List.set_cons_succ]
      refine wpAnyH_done (by kernel_rfl) ?_ _
      go_wp2_with fail
      go_meet
      exact ⟨_, _, _, _, _, _, _, rfl, rfl, BX.out⟩
  case rest =>
    obtain ⟨b, w1_, w2_, w3_, w4_, w5_, w6_, rfl, rfl, hbx⟩ := hcut
    have hb := hbx.2.2.1
    have HB_2 := Lib.hid (bt HB_1.out hb)
    have R_2 := Lib.hid (R_1.out.below hb)
    have V_2 := Lib.hid (V_1.out.below hb)
    have A_2 := Lib.hid (A_1.out.below hb)
    have CS_2 := Lib.hid (CS_1.out.below hb)
    have WB_2 := Lib.hid (hbx.1)
    have WL_2 := Lib.hid (hbx.2.1)
    clear hb HB_1 R_1 V_1 A_1 CS_1
    clear hbx
    have LBR := Lib.hid R_2.out.lt
    have LBV := Lib.hid V_2.out.lt
    have LBA := Lib.hid A_2.out.le
    have LBCS := Lib.hid CS_2.out.le
    have LBWB := Lib.hid WB_2.out.lt
    have LBWL := Lib.hid WL_2.out.le
    have LBHB := Lib.hid HB_2.out.size
    obtain ⟨v0, v1⟩ := V_2.out
    go_wp2_with fail
    refine (toBas_any A_2.out (by omega)).mono ?_
    rintro e u2 ⟨yx, rfl, ho, hb1⟩
    obtain ⟨xa, xc, rfl⟩ := ho.toIn.shape
    clear v0 v1
    have hba := ba u2 (.cells #[.int .i64 H1, .slice xa hs.length xc] 73)
    have hb := bt hb1 hba
    have HB_3 := Lib.hid (bt HB_2.out hb)
    have R_3 := Lib.hid (R_2.out.below hb)
    have V_3 := Lib.hid (V_2.out.below hb)
    have A_3 := Lib.hid (A_2.out.below hb)
    have CS_3 := Lib.hid (CS_2.out.below hb)
    have WB_3 := Lib.hid (WB_2.out.below hb)
    have WL_3 := Lib.hid (WL_2.out.below hb)
    have X_3 := Lib.hid (d2_at u2 u2.heap.size rfl (.int .i64 H1) (.slice xa hs.length xc) 73)
    have B_3 := Lib.hid (ho.below hba)
    clear hb HB_2 R_2 V_2 A_2 CS_2 WB_2 WL_2
    clear ho hb1 hba
    have LCR := Lib.hid R_3.out.lt
    have LCV := Lib.hid V_3.out.lt
    have LCA := Lib.hid A_3.out.le
    have LCCS := Lib.hid CS_3.out.le
    have LCWB := Lib.hid WB_3.out.lt
    have LCWL := Lib.hid WL_3.out.le
    have LCHB := Lib.hid HB_3.out.size
    have LCX := Lib.hid X_3.out.lt
    have LCB := Lib.hid B_3.out.le
    obtain ⟨x0, x1⟩ := X_3.out
    go_wp2_with fail
    refine (toI_any CS_3.out (by omega)).mono ?_
    rintro e u3 ⟨qcs, rfl, ho, hb⟩
    have HB_4 := Lib.hid (bt HB_3.out hb)
    have R_4 := Lib.hid (R_3.out.below hb)
    have V_4 := Lib.hid (V_3.out.below hb)
    have A_4 := Lib.hid (A_3.out.below hb)
    have CS_4 := Lib.hid (CS_3.out.below hb)
    have WB_4 := Lib.hid (WB_3.out.below hb)
    have WL_4 := Lib.hid (WL_3.out.below hb)
    have X_4 := Lib.hid (X_3.out.below hb)
    have B_4 := Lib.hid (B_3.out.below hb)
    have QC_4 := Lib.hid (ho)
    clear hb HB_3 R_3 V_3 A_3 CS_3 WB_3 WL_3 X_3 B_3
    clear ho
    clear x0 x1
    have LGR := Lib.hid R_4.out.lt
    have LGV := Lib.hid V_4.out.lt
    have LGA := Lib.hid A_4.out.le
    have LGCS := Lib.hid CS_4.out.le
    have LGWB := Lib.hid WB_4.out.lt
    have LGWL := Lib.hid WL_4.out.le
    have LGHB := Lib.hid HB_4.out.size
    have LGB := Lib.hid B_4.out.le
    have LGQ := Lib.hid QC_4.out.le
    go_upto_region 10 with fail
    go_cut [16, 17] (fun s1 s2 wx => ∃ (b q P : Nat) (a1_ : Option Addr) (c1_ : Nat) (a2_ : Option Addr) (c2_ : Nat) (a3_ : Option Addr) (c3_ : Nat), s1 = .pointer (some ⟨b, 0, none⟩) ∧ s2 = .bool ok ∧ BoxQ u3 wx b q P (.slice a1_ res.c.length c1_) (.slice a2_ res.h.length c2_) (.slice a3_ res.r.length c3_) res)
    case first =>
      have LO_4 := Lib.hid (show Lo u3 u3 from Below.refl _ _)
      have LR9 := Lib.hid (R_4.out.lt)
      have LX9 := Lib.hid (X_4.out.lt)
      have hbd : Below u3.heap.size u3 u3.drew := (Below.refl _ u3).drew
      have HB_s := Lib.hid (bt HB_4.out hbd)
      have R_s := Lib.hid (R_4.out.below hbd)
      have V_s := Lib.hid (V_4.out.below hbd)
      have A_s := Lib.hid (A_4.out.below hbd)
      have CS_s := Lib.hid (CS_4.out.below hbd)
      have WB_s := Lib.hid (WB_4.out.below hbd)
      have WL_s := Lib.hid (WL_4.out.below hbd)
      have X_s := Lib.hid (X_4.out.below hbd)
      have B_s := Lib.hid (B_4.out.below hbd)
      have QC_s := Lib.hid (QC_4.out.below hbd)
      have LO_s := Lib.hid (LO_4.out.below hbd)
      clear hbd
      refine wp_region_held_drew (S := (fun w' => (w'.cell? ⟨w.heap.size, 0, none⟩ = some (.int .i64 P0) ∧ w'.cell? ⟨w.heap.size, 1, none⟩ = some (.int .i64 Q0) ∧ w'.cell? ⟨w.heap.size, 2, none⟩ = some (.int .i64 G0)) ∧ (w'.cell? ⟨u2.heap.size, 0, none⟩ = some (.int .i64 H1) ∧ w'.cell? ⟨u2.heap.size, 1, none⟩ = some (.slice xa hs.length xc)))) (by kernel_rfl) (show _ from ⟨⟨R_4.out.1, R_4.out.2.1, R_4.out.2.2⟩, ⟨X_4.out.1, X_4.out.2⟩⟩) (fun hHeld => ?_)
      generalize hW0 : u3.drew = Ws at *
      clear hW0
      refine wpAnyH_take (i := 0) (v := ?_) rfl (by kernel_rfl) (by kernel_rfl) (by kernel_rfl) (fun _ _ _ h => h) (Or.inl ⟨by kernel_rfl, ?_⟩) (by assumption) ?_
      rotate_left 1
      · intro w9 hSw
        try dsimp only at hSw
        go_simp
        try with_reducible rfl
      try simp only [Act.put, List.getElem_toArray, List.getElem_cons_succ, List.getElem_cons_zero, List.setIfInBounds_toArray, List.set_cons_zero, List.set_cons_succ]
      refine wpAnyH_take (i := 2) (v := ?_) rfl (by kernel_rfl) (by kernel_rfl) (by kernel_rfl) (fun _ _ _ h => h) (Or.inl ⟨by kernel_rfl, ?_⟩) (by assumption) ?_
      rotate_left 1
      · intro w9 hSw
        try dsimp only at hSw
        go_simp
        try with_reducible rfl
      try simp only [Act.put, List.getElem_toArray, List.getElem_cons_succ, List.getElem_cons_zero, List.setIfInBounds_toArray, List.set_cons_zero, List.set_cons_succ]
      refine wpAnyH_take (i := 3) (v := ?_) rfl (by kernel_rfl) (by kernel_rfl) (by kernel_rfl) (fun _ _ _ h => h) (Or.inl ⟨by kernel_rfl, ?_⟩) (by assumption) ?_
      rotate_left 1
      · intro w9 hSw
        try dsimp only at hSw
        go_simp
        try with_reducible rfl
      try simp only [Act.put, List.getElem_toArray, List.getElem_cons_succ, List.getElem_cons_zero, List.setIfInBounds_toArray, List.set_cons_zero, List.set_cons_succ]
      refine wpAnyH_take (i := 4) (v := ?_) rfl (by kernel_rfl) (by kernel_rfl) (by kernel_rfl) (fun _ _ _ h => h) (Or.inl ⟨by kernel_rfl, ?_⟩) (by assumption) ?_
      rotate_left 1
      · intro w9 hSw
        try dsimp only at hSw
        go_simp
        try with_reducible rfl
      try simp only [Act.put, List.getElem_toArray, List.getElem_cons_succ, List.getElem_cons_zero, List.setIfInBounds_toArray, List.set_cons_zero, List.set_cons_succ]
      refine wpAnyH_take (i := 5) (v := ?_) rfl (by kernel_rfl) (by kernel_rfl) (by kernel_rfl) (fun _ _ _ h => h) (Or.inl ⟨by kernel_rfl, ?_⟩) (by assumption) ?_
      rotate_left 1
      · intro w9 hSw
        try dsimp only at hSw
        go_simp
        try with_reducible rfl
      try simp only [Act.put, List.getElem_toArray, List.getElem_cons_succ, List.getElem_cons_zero, List.setIfInBounds_toArray, List.set_cons_zero, List.set_cons_succ]
      refine wpAnyH_ready (rs := [1, 10]) (by kernel_rfl) (by simp) ?_
      refine AllReadyH.cons rfl (fun K hK => ?_) (AllReadyH.cons rfl (fun K hK => ?_) (AllReadyH.nil))
      · go_simp
        go_at_call 18
        refine (toGroup_any _ _ _ _).mono ?_
        rintro e' Wsb ⟨rfl, hb⟩
        have HB_sb := Lib.hid (bt HB_s.out hb)
        have R_sb := Lib.hid (R_s.out.below hb)
        have V_sb := Lib.hid (V_s.out.below hb)
        have A_sb := Lib.hid (A_s.out.below hb)
        have CS_sb := Lib.hid (CS_s.out.below hb)
        have WB_sb := Lib.hid (WB_s.out.below hb)
        have WL_sb := Lib.hid (WL_s.out.below hb)
        have X_sb := Lib.hid (X_s.out.below hb)
        have B_sb := Lib.hid (B_s.out.below hb)
        have QC_sb := Lib.hid (QC_s.out.below hb)
        have LO_sb := Lib.hid (LO_s.out.below hb)
        clear hb
        go_wp2_with fail
        refine hK.out _ _ (show _ from ⟨⟨R_sb.out.1, R_sb.out.2.1, R_sb.out.2.2⟩, ⟨X_sb.out.1, X_sb.out.2⟩⟩) (fun hHeld => ?_)
        clear hK K
        try simp only [Act.put, List.getElem_toArray, List.getElem_cons_succ, List.getElem_cons_zero, List.setIfInBounds_toArray, List.set_cons_zero, List.set_cons_succ]
        refine wpAnyH_ready (rs := [6, 10]) (by kernel_rfl) (by simp) ?_
        refine AllReadyH.cons rfl (fun K hK => ?_) (AllReadyH.cons rfl (fun K hK => ?_) (AllReadyH.nil))
        · go_simp
          (first | have LQ := Lib.hid Z_sb.out.lt | skip)
          have LQS := Lib.hid LO_sb.out.size
          go_at_call 52
          refine (proveOpening_any P0 Q0 G0 H1 a2 a3 hsl lcs B_sb.out.toIn QC_sb.out.toIn).mono ?_
          rw [HV.out, HK.out]
          rintro e' Wsbg ⟨za, zb, zc, rfl, ho, hb⟩
          obtain ⟨za1, za2, zb1, zb2, zc1, zc2, hsh⟩ := inP_shapeQ (OwQ.toIn ho)
          simp only [Value.agg.injEq, Array.mk.injEq, List.cons.injEq, and_true] at hsh
          obtain ⟨rfl, rfl, rfl⟩ := hsh
          have HB_sbg := Lib.hid (bt HB_sb.out hb)
          have R_sbg := Lib.hid (R_sb.out.below hb)
          have V_sbg := Lib.hid (V_sb.out.below hb)
          have A_sbg := Lib.hid (A_sb.out.below hb)
          have CS_sbg := Lib.hid (CS_sb.out.below hb)
          have WB_sbg := Lib.hid (WB_sb.out.below hb)
          have WL_sbg := Lib.hid (WL_sb.out.below hb)
          have X_sbg := Lib.hid (X_sb.out.below hb)
          have B_sbg := Lib.hid (B_sb.out.below hb)
          have QC_sbg := Lib.hid (QC_sb.out.below hb)
          have LO_sbg := Lib.hid (LO_sb.out.below hb)
          have OT_sbg := Lib.hid (ho)
          clear ho
          clear hb
          go_wp2_with fail
          refine hK.out _ _ (show _ from ⟨⟨R_sbg.out.1, R_sbg.out.2.1, R_sbg.out.2.2⟩, ⟨X_sbg.out.1, X_sbg.out.2⟩⟩) (fun hHeld => ?_)
          clear hK K
          try simp only [Act.put, List.getElem_toArray, List.getElem_cons_succ, List.getElem_cons_zero, List.setIfInBounds_toArray, List.set_cons_zero, List.set_cons_succ]
          refine wpAnyH_take (i := 7) (v := ?_) rfl (by kernel_rfl) (by kernel_rfl) (by kernel_rfl) (fun _ _ _ h => h) (Or.inl ⟨by kernel_rfl, ?_⟩) (by assumption) ?_
          rotate_left 1
          · intro w9 hSw
            try dsimp only at hSw
            go_simp
            try with_reducible rfl
          try simp only [Act.put, List.getElem_toArray, List.getElem_cons_succ, List.getElem_cons_zero, List.setIfInBounds_toArray, List.set_cons_zero, List.set_cons_succ]
          refine wpAnyH_take (i := 8) (v := ?_) rfl (by kernel_rfl) (by kernel_rfl) (by kernel_rfl) (fun _ _ _ h => h) (Or.inl ⟨by kernel_rfl, ?_⟩) (by assumption) ?_
          rotate_left 1
          · intro w9 hSw
            try dsimp only at hSw
            go_simp
            try with_reducible rfl
          try simp only [Act.put, List.getElem_toArray, List.getElem_cons_succ, List.getElem_cons_zero, List.setIfInBounds_toArray, List.set_cons_zero, List.set_cons_succ]
          refine wpAnyH_take (i := 9) (v := ?_) rfl (by kernel_rfl) (by kernel_rfl) (by kernel_rfl) (fun _ _ _ h => h) (Or.inl ⟨by kernel_rfl, ?_⟩) (by assumption) ?_
          rotate_left 1
          · intro w9 hSw
            try dsimp only at hSw
            go_simp
            try with_reducible rfl
          try simp only [Act.put, List.getElem_toArray, List.getElem_cons_succ, List.getElem_cons_zero, List.setIfInBounds_toArray, List.set_cons_zero, List.set_cons_succ]
          refine wpAnyH_ready (rs := [10]) (by kernel_rfl) (by simp) ?_
          refine AllReadyH.cons rfl (fun K hK => ?_) (AllReadyH.nil)
          go_simp
          have hb := ba Wsbg (.cells #[.slice none 0 0, .slice none 0 0, .slice none 0 0] 36)
          have HB_sbgk := Lib.hid (bt HB_sbg.out hb)
          have R_sbgk := Lib.hid (R_sbg.out.below hb)
          have V_sbgk := Lib.hid (V_sbg.out.below hb)
          have A_sbgk := Lib.hid (A_sbg.out.below hb)
          have CS_sbgk := Lib.hid (CS_sbg.out.below hb)
          have WB_sbgk := Lib.hid (WB_sbg.out.below hb)
          have WL_sbgk := Lib.hid (WL_sbg.out.below hb)
          have X_sbgk := Lib.hid (X_sbg.out.below hb)
          have B_sbgk := Lib.hid (B_sbg.out.below hb)
          have QC_sbgk := Lib.hid (QC_sbg.out.below hb)
          have LO_sbgk := Lib.hid (LO_sbg.out.below hb)
          have OT_sbgk := Lib.hid (OT_sbg.out.below hb)
          have Z_sbgk := Lib.hid (show B3 (Wsbg.alloc (.cells #[.slice none 0 0, .slice none 0 0, .slice none 0 0] 36)) Wsbg.heap.size (.slice none 0 0) (.slice none 0 0) (.slice none 0 0) from b3_new Wsbg _ _ _ 36)
          have LB := Lib.hid (show u3.heap.size ≤ Wsbg.heap.size from LO_sbg.out.size)
          (first | have LD := Lib.hid OT_sbg.out.le | skip)
          clear hb
          refine hK.out _ _ (show _ from ⟨⟨R_sbgk.out.1, R_sbgk.out.2.1, R_sbgk.out.2.2⟩, ⟨X_sbgk.out.1, X_sbgk.out.2⟩⟩) (fun hHeld => ?_)
          clear hK K
          try simp only [Act.put, List.getElem_toArray, List.getElem_cons_succ, List.getElem_cons_zero, List.setIfInBounds_toArray, List.set_cons_zero, List.set_cons_succ]
          generalize hW9 : Wsbg.alloc (.cells #[.slice none 0 0, .slice none 0 0, .slice none 0 0] 36) = Wsbgk at *
          clear hW9
          have hm5 := mid3 Wsbgk (Wsbg.heap.size) (.slice za1 res.c.length za2) (.slice zb1 res.h.length zb2) (.slice zc1 res.r.length zc2)
          have R_y := Lib.hid (gr_midw R_sbgk.out hm5 (.inl (Nat.lt_of_lt_of_le LR9.out LB.out)))
          have X_y := Lib.hid (d2_midw X_sbgk.out hm5 (.inl (Nat.lt_of_lt_of_le LX9.out LB.out)))
          have BX : BoxQ u3 (((Wsbgk.setCell ⟨Wsbg.heap.size, 0, none⟩ (.slice za1 res.c.length za2)).setCell ⟨Wsbg.heap.size, 1, none⟩ (.slice zb1 res.h.length zb2)).setCell ⟨Wsbg.heap.size, 2, none⟩ (.slice zc1 res.r.length zc2)) (Wsbg.heap.size) _ _ (.slice za1 res.c.length za2) (.slice zb1 res.h.length zb2) (.slice zc1 res.r.length zc2) res := (by first | exact boxQ_mk LO_sbgk.out LQS.out LB.out Z_sbgk.out OT_sbgk.out (.inl LQ.out) | exact boxQ_mk LO_sbgk.out LQS.out LB.out Z_sbgk.out OT_sbgk.out (.inr LD.out))
          have BX := Lib.hid BX
          clear hm5
          refine wpAnyH_ready (rs := [11]) (by kernel_rfl) (by simp) ?_
          refine AllReadyH.cons rfl (fun K hK => ?_) AllReadyH.nil
          obtain ⟨y0, y1, y2, yf⟩ := Z_sbgk.out
          have yf0 := yf 0
          have yf1 := yf 1
          have yf2 := yf 2
          clear yf
          go_simp
          refine hK.out _ _ (show _ from ⟨⟨R_y.out.1, R_y.out.2.1, R_y.out.2.2⟩, ⟨X_y.out.1, X_y.out.2⟩⟩) (fun hHeld => ?_)
          clear hK K
          try simp only [Act.put, List.getElem_toArray, List.getElem_cons_succ, List.getElem_cons_zero, List.setIfInBounds_toArray, List.set_cons_zero, List.set_cons_succ]
          refine wpAnyH_take (i := 12) (v := ?_) rfl (by kernel_rfl) (by kernel_rfl) (by kernel_rfl) (fun _ _ _ h => h) (Or.inl ⟨by kernel_rfl, ?_⟩) (by assumption) ?_
          rotate_left 1
          · intro w9 hSw
            try dsimp only at hSw
            go_simp
            try with_reducible rfl
          try simp only [Act.put, List.getElem_toArray, List.getElem_cons_succ, List.getElem_cons_zero, List.setIfInBounds_toArray, List.set_cons_zero, List.set_cons_succ]
          refine wpAnyH_done (by kernel_rfl) ?_ _
          go_wp2_with fail
          go_meet
          exact ⟨_, _, _, _, _, _, _, _, _, rfl, rfl, BX.out⟩
        · go_simp
          have hb := ba Wsb (.cells #[.slice none 0 0, .slice none 0 0, .slice none 0 0] 36)
          have HB_sbk := Lib.hid (bt HB_sb.out hb)
          have R_sbk := Lib.hid (R_sb.out.below hb)
          have V_sbk := Lib.hid (V_sb.out.below hb)
          have A_sbk := Lib.hid (A_sb.out.below hb)
          have CS_sbk := Lib.hid (CS_sb.out.below hb)
          have WB_sbk := Lib.hid (WB_sb.out.below hb)
          have WL_sbk := Lib.hid (WL_sb.out.below hb)
          have X_sbk := Lib.hid (X_sb.out.below hb)
          have B_sbk := Lib.hid (B_sb.out.below hb)
          have QC_sbk := Lib.hid (QC_sb.out.below hb)
          have LO_sbk := Lib.hid (LO_sb.out.below hb)
          have Z_sbk := Lib.hid (show B3 (Wsb.alloc (.cells #[.slice none 0 0, .slice none 0 0, .slice none 0 0] 36)) Wsb.heap.size (.slice none 0 0) (.slice none 0 0) (.slice none 0 0) from b3_new Wsb _ _ _ 36)
          have LB := Lib.hid (show u3.heap.size ≤ Wsb.heap.size from LO_sb.out.size)
          (first | have LD := Lib.hid OT_sb.out.le | skip)
          clear hb
          refine hK.out _ _ (show _ from ⟨⟨R_sbk.out.1, R_sbk.out.2.1, R_sbk.out.2.2⟩, ⟨X_sbk.out.1, X_sbk.out.2⟩⟩) (fun hHeld => ?_)
          clear hK K
          try simp only [Act.put, List.getElem_toArray, List.getElem_cons_succ, List.getElem_cons_zero, List.setIfInBounds_toArray, List.set_cons_zero, List.set_cons_succ]
          generalize hW9 : Wsb.alloc (.cells #[.slice none 0 0, .slice none 0 0, .slice none 0 0] 36) = Wsbk at *
          clear hW9
          refine wpAnyH_ready (rs := [6]) (by kernel_rfl) (by simp) ?_
          refine AllReadyH.cons rfl (fun K hK => ?_) (AllReadyH.nil)
          go_simp
          (first | have LQ := Lib.hid Z_sbk.out.lt | skip)
          have LQS := Lib.hid LO_sbk.out.size
          go_at_call 52
          refine (proveOpening_any P0 Q0 G0 H1 a2 a3 hsl lcs B_sbk.out.toIn QC_sbk.out.toIn).mono ?_
          rw [HV.out, HK.out]
          rintro e' Wsbkg ⟨za, zb, zc, rfl, ho, hb⟩
          obtain ⟨za1, za2, zb1, zb2, zc1, zc2, hsh⟩ := inP_shapeQ (OwQ.toIn ho)
          simp only [Value.agg.injEq, Array.mk.injEq, List.cons.injEq, and_true] at hsh
          obtain ⟨rfl, rfl, rfl⟩ := hsh
          have HB_sbkg := Lib.hid (bt HB_sbk.out hb)
          have R_sbkg := Lib.hid (R_sbk.out.below hb)
          have V_sbkg := Lib.hid (V_sbk.out.below hb)
          have A_sbkg := Lib.hid (A_sbk.out.below hb)
          have CS_sbkg := Lib.hid (CS_sbk.out.below hb)
          have WB_sbkg := Lib.hid (WB_sbk.out.below hb)
          have WL_sbkg := Lib.hid (WL_sbk.out.below hb)
          have X_sbkg := Lib.hid (X_sbk.out.below hb)
          have B_sbkg := Lib.hid (B_sbk.out.below hb)
          have QC_sbkg := Lib.hid (QC_sbk.out.below hb)
          have LO_sbkg := Lib.hid (LO_sbk.out.below hb)
          have Z_sbkg := Lib.hid (Z_sbk.out.below hb)
          have OT_sbkg := Lib.hid (ho)
          clear ho
          clear hb
          go_wp2_with fail
          refine hK.out _ _ (show _ from ⟨⟨R_sbkg.out.1, R_sbkg.out.2.1, R_sbkg.out.2.2⟩, ⟨X_sbkg.out.1, X_sbkg.out.2⟩⟩) (fun hHeld => ?_)
          clear hK K
          try simp only [Act.put, List.getElem_toArray, List.getElem_cons_succ, List.getElem_cons_zero, List.setIfInBounds_toArray, List.set_cons_zero, List.set_cons_succ]
          refine wpAnyH_take (i := 7) (v := ?_) rfl (by kernel_rfl) (by kernel_rfl) (by kernel_rfl) (fun _ _ _ h => h) (Or.inl ⟨by kernel_rfl, ?_⟩) (by assumption) ?_
          rotate_left 1
          · intro w9 hSw
            try dsimp only at hSw
            go_simp
            try with_reducible rfl
          try simp only [Act.put, List.getElem_toArray, List.getElem_cons_succ, List.getElem_cons_zero, List.setIfInBounds_toArray, List.set_cons_zero, List.set_cons_succ]
          refine wpAnyH_take (i := 8) (v := ?_) rfl (by kernel_rfl) (by kernel_rfl) (by kernel_rfl) (fun _ _ _ h => h) (Or.inl ⟨by kernel_rfl, ?_⟩) (by assumption) ?_
          rotate_left 1
          · intro w9 hSw
            try dsimp only at hSw
            go_simp
            try with_reducible rfl
          try simp only [Act.put, List.getElem_toArray, List.getElem_cons_succ, List.getElem_cons_zero, List.setIfInBounds_toArray, List.set_cons_zero, List.set_cons_succ]
          refine wpAnyH_take (i := 9) (v := ?_) rfl (by kernel_rfl) (by kernel_rfl) (by kernel_rfl) (fun _ _ _ h => h) (Or.inl ⟨by kernel_rfl, ?_⟩) (by assumption) ?_
          rotate_left 1
          · intro w9 hSw
            try dsimp only at hSw
            go_simp
            try with_reducible rfl
          try simp only [Act.put, List.getElem_toArray, List.getElem_cons_succ, List.getElem_cons_zero, List.setIfInBounds_toArray, List.set_cons_zero, List.set_cons_succ]
          have hm5 := mid3 Wsbkg (Wsb.heap.size) (.slice za1 res.c.length za2) (.slice zb1 res.h.length zb2) (.slice zc1 res.r.length zc2)
          have R_y := Lib.hid (gr_midw R_sbkg.out hm5 (.inl (Nat.lt_of_lt_of_le LR9.out LB.out)))
          have X_y := Lib.hid (d2_midw X_sbkg.out hm5 (.inl (Nat.lt_of_lt_of_le LX9.out LB.out)))
          have BX : BoxQ u3 (((Wsbkg.setCell ⟨Wsb.heap.size, 0, none⟩ (.slice za1 res.c.length za2)).setCell ⟨Wsb.heap.size, 1, none⟩ (.slice zb1 res.h.length zb2)).setCell ⟨Wsb.heap.size, 2, none⟩ (.slice zc1 res.r.length zc2)) (Wsb.heap.size) _ _ (.slice za1 res.c.length za2) (.slice zb1 res.h.length zb2) (.slice zc1 res.r.length zc2) res := (by first | exact boxQ_mk LO_sbkg.out LQS.out LB.out Z_sbkg.out OT_sbkg.out (.inl LQ.out) | exact boxQ_mk LO_sbkg.out LQS.out LB.out Z_sbkg.out OT_sbkg.out (.inr LD.out))
          have BX := Lib.hid BX
          clear hm5
          refine wpAnyH_ready (rs := [11]) (by kernel_rfl) (by simp) ?_
          refine AllReadyH.cons rfl (fun K hK => ?_) AllReadyH.nil
          obtain ⟨y0, y1, y2, yf⟩ := Z_sbkg.out
          have yf0 := yf 0
          have yf1 := yf 1
          have yf2 := yf 2
          clear yf
          go_simp
          refine hK.out _ _ (show _ from ⟨⟨R_y.out.1, R_y.out.2.1, R_y.out.2.2⟩, ⟨X_y.out.1, X_y.out.2⟩⟩) (fun hHeld => ?_)
          clear hK K
          try simp only [Act.put, List.getElem_toArray, List.getElem_cons_succ, List.getElem_cons_zero, List.setIfInBounds_toArray, List.set_cons_zero, List.set_cons_succ]
          refine wpAnyH_take (i := 12) (v := ?_) rfl (by kernel_rfl) (by kernel_rfl) (by kernel_rfl) (fun _ _ _ h => h) (Or.inl ⟨by kernel_rfl, ?_⟩) (by assumption) ?_
          rotate_left 1
          · intro w9 hSw
            try dsimp only at hSw
            go_simp
            try with_reducible rfl
          try simp only [Act.put, List.getElem_toArray, List.getElem_cons_succ, List.getElem_cons_zero, List.setIfInBounds_toArray, List.set_cons_zero, List.set_cons_succ]
          refine wpAnyH_done (by kernel_rfl) ?_ _
          go_wp2_with fail
          go_meet
          exact ⟨_, _, _, _, _, _, _, _, _, rfl, rfl, BX.out⟩
      · go_simp
        have hb := ba Ws (.cells #[.slice none 0 0, .slice none 0 0, .slice none 0 0] 36)
        have HB_sk := Lib.hid (bt HB_s.out hb)
        have R_sk := Lib.hid (R_s.out.below hb)
        have V_sk := Lib.hid (V_s.out.below hb)
        have A_sk := Lib.hid (A_s.out.below hb)
        have CS_sk := Lib.hid (CS_s.out.below hb)
        have WB_sk := Lib.hid (WB_s.out.below hb)
        have WL_sk := Lib.hid (WL_s.out.below hb)
        have X_sk := Lib.hid (X_s.out.below hb)
        have B_sk := Lib.hid (B_s.out.below hb)
        have QC_sk := Lib.hid (QC_s.out.below hb)
        have LO_sk := Lib.hid (LO_s.out.below hb)
        have Z_sk := Lib.hid (show B3 (Ws.alloc (.cells #[.slice none 0 0, .slice none 0 0, .slice none 0 0] 36)) Ws.heap.size (.slice none 0 0) (.slice none 0 0) (.slice none 0 0) from b3_new Ws _ _ _ 36)
        have LB := Lib.hid (show u3.heap.size ≤ Ws.heap.size from LO_s.out.size)
        (first | have LD := Lib.hid OT_s.out.le | skip)
        clear hb
        refine hK.out _ _ (show _ from ⟨⟨R_sk.out.1, R_sk.out.2.1, R_sk.out.2.2⟩, ⟨X_sk.out.1, X_sk.out.2⟩⟩) (fun hHeld => ?_)
        clear hK K
        try simp only [Act.put, List.getElem_toArray, List.getElem_cons_succ, List.getElem_cons_zero, List.setIfInBounds_toArray, List.set_cons_zero, List.set_cons_succ]
        generalize hW9 : Ws.alloc (.cells #[.slice none 0 0, .slice none 0 0, .slice none 0 0] 36) = Wsk at *
        clear hW9
        refine wpAnyH_ready (rs := [1]) (by kernel_rfl) (by simp) ?_
        refine AllReadyH.cons rfl (fun K hK => ?_) (AllReadyH.nil)
        go_simp
        go_at_call 18
        refine (toGroup_any _ _ _ _).mono ?_
        rintro e' Wskb ⟨rfl, hb⟩
        have HB_skb := Lib.hid (bt HB_sk.out hb)
        have R_skb := Lib.hid (R_sk.out.below hb)
        have V_skb := Lib.hid (V_sk.out.below hb)
        have A_skb := Lib.hid (A_sk.out.below hb)
        have CS_skb := Lib.hid (CS_sk.out.below hb)
        have WB_skb := Lib.hid (WB_sk.out.below hb)
        have WL_skb := Lib.hid (WL_sk.out.below hb)
        have X_skb := Lib.hid (X_sk.out.below hb)
        have B_skb := Lib.hid (B_sk.out.below hb)
        have QC_skb := Lib.hid (QC_sk.out.below hb)
        have LO_skb := Lib.hid (LO_sk.out.below hb)
        have Z_skb := Lib.hid (Z_sk.out.below hb)
        clear hb
        go_wp2_with fail
        refine hK.out _ _ (show _ from ⟨⟨R_skb.out.1, R_skb.out.2.1, R_skb.out.2.2⟩, ⟨X_skb.out.1, X_skb.out.2⟩⟩) (fun hHeld => ?_)
        clear hK K
        try simp only [Act.put, List.getElem_toArray, List.getElem_cons_succ, List.getElem_cons_zero, List.setIfInBounds_toArray, List.set_cons_zero, List.set_cons_succ]
        refine wpAnyH_ready (rs := [6]) (by kernel_rfl) (by simp) ?_
        refine AllReadyH.cons rfl (fun K hK => ?_) (AllReadyH.nil)
        go_simp
        (first | have LQ := Lib.hid Z_skb.out.lt | skip)
        have LQS := Lib.hid LO_skb.out.size
        go_at_call 52
        refine (proveOpening_any P0 Q0 G0 H1 a2 a3 hsl lcs B_skb.out.toIn QC_skb.out.toIn).mono ?_
        rw [HV.out, HK.out]
        rintro e' Wskbg ⟨za, zb, zc, rfl, ho, hb⟩
        obtain ⟨za1, za2, zb1, zb2, zc1, zc2, hsh⟩ := inP_shapeQ (OwQ.toIn ho)
        simp only [Value.agg.injEq, Array.mk.injEq, List.cons.injEq, and_true] at hsh
        obtain ⟨rfl, rfl, rfl⟩ := hsh
        have HB_skbg := Lib.hid (bt HB_skb.out hb)
        have R_skbg := Lib.hid (R_skb.out.below hb)
        have V_skbg := Lib.hid (V_skb.out.below hb)
        have A_skbg := Lib.hid (A_skb.out.below hb)
        have CS_skbg := Lib.hid (CS_skb.out.below hb)
        have WB_skbg := Lib.hid (WB_skb.out.below hb)
        have WL_skbg := Lib.hid (WL_skb.out.below hb)
        have X_skbg := Lib.hid (X_skb.out.below hb)
        have B_skbg := Lib.hid (B_skb.out.below hb)
        have QC_skbg := Lib.hid (QC_skb.out.below hb)
        have LO_skbg := Lib.hid (LO_skb.out.below hb)
        have Z_skbg := Lib.hid (Z_skb.out.below hb)
        have OT_skbg := Lib.hid (ho)
        clear ho
        clear hb
        go_wp2_with fail
        refine hK.out _ _ (show _ from ⟨⟨R_skbg.out.1, R_skbg.out.2.1, R_skbg.out.2.2⟩, ⟨X_skbg.out.1, X_skbg.out.2⟩⟩) (fun hHeld => ?_)
        clear hK K
        try simp only [Act.put, List.getElem_toArray, List.getElem_cons_succ, List.getElem_cons_zero, List.setIfInBounds_toArray, List.set_cons_zero, List.set_cons_succ]
        refine wpAnyH_take (i := 7) (v := ?_) rfl (by kernel_rfl) (by kernel_rfl) (by kernel_rfl) (fun _ _ _ h => h) (Or.inl ⟨by kernel_rfl, ?_⟩) (by assumption) ?_
        rotate_left 1
        · intro w9 hSw
          try dsimp only at hSw
          go_simp
          try with_reducible rfl
        try simp only [Act.put, List.getElem_toArray, List.getElem_cons_succ, List.getElem_cons_zero, List.setIfInBounds_toArray, List.set_cons_zero, List.set_cons_succ]
        refine wpAnyH_take (i := 8) (v := ?_) rfl (by kernel_rfl) (by kernel_rfl) (by kernel_rfl) (fun _ _ _ h => h) (Or.inl ⟨by kernel_rfl, ?_⟩) (by assumption) ?_
        rotate_left 1
        · intro w9 hSw
          try dsimp only at hSw
          go_simp
          try with_reducible rfl
        try simp only [Act.put, List.getElem_toArray, List.getElem_cons_succ, List.getElem_cons_zero, List.setIfInBounds_toArray, List.set_cons_zero, List.set_cons_succ]
        refine wpAnyH_take (i := 9) (v := ?_) rfl (by kernel_rfl) (by kernel_rfl) (by kernel_rfl) (fun _ _ _ h => h) (Or.inl ⟨by kernel_rfl, ?_⟩) (by assumption) ?_
        rotate_left 1
        · intro w9 hSw
          try dsimp only at hSw
          go_simp
          try with_reducible rfl
        try simp only [Act.put, List.getElem_toArray, List.getElem_cons_succ, List.getElem_cons_zero, List.setIfInBounds_toArray, List.set_cons_zero, List.set_cons_succ]
        have hm5 := mid3 Wskbg (Ws.heap.size) (.slice za1 res.c.length za2) (.slice zb1 res.h.length zb2) (.slice zc1 res.r.length zc2)
        have R_y := Lib.hid (gr_midw R_skbg.out hm5 (.inl (Nat.lt_of_lt_of_le LR9.out LB.out)))
        have X_y := Lib.hid (d2_midw X_skbg.out hm5 (.inl (Nat.lt_of_lt_of_le LX9.out LB.out)))
        have BX : BoxQ u3 (((Wskbg.setCell ⟨Ws.heap.size, 0, none⟩ (.slice za1 res.c.length za2)).setCell ⟨Ws.heap.size, 1, none⟩ (.slice zb1 res.h.length zb2)).setCell ⟨Ws.heap.size, 2, none⟩ (.slice zc1 res.r.length zc2)) (Ws.heap.size) _ _ (.slice za1 res.c.length za2) (.slice zb1 res.h.length zb2) (.slice zc1 res.r.length zc2) res := (by first | exact boxQ_mk LO_skbg.out LQS.out LB.out Z_skbg.out OT_skbg.out (.inl LQ.out) | exact boxQ_mk LO_skbg.out LQS.out LB.out Z_skbg.out OT_skbg.out (.inr LD.out))
        have BX := Lib.hid BX
        clear hm5
        refine wpAnyH_ready (rs := [11]) (by kernel_rfl) (by simp) ?_
        refine AllReadyH.cons rfl (fun K hK => ?_) AllReadyH.nil
        obtain ⟨y0, y1, y2, yf⟩ := Z_skbg.out
        have yf0 := yf 0
        have yf1 := yf 1
        have yf2 := yf 2
        clear yf
        go_simp
        refine hK.out _ _ (show _ from ⟨⟨R_y.out.1, R_y.out.2.1, R_y.out.2.2⟩, ⟨X_y.out.1, X_y.out.2⟩⟩) (fun hHeld => ?_)
        clear hK K
        try simp only [Act.put, List.getElem_toArray, List.getElem_cons_succ, List.getElem_cons_zero, List.setIfInBounds_toArray, List.set_cons_zero, List.set_cons_succ]
        refine wpAnyH_take (i := 12) (v := ?_) rfl (by kernel_rfl) (by kernel_rfl) (by kernel_rfl) (fun _ _ _ h => h) (Or.inl ⟨by kernel_rfl, ?_⟩) (by assumption) ?_
        rotate_left 1
        · intro w9 hSw
          try dsimp only at hSw
          go_simp
          try with_reducible rfl
        try simp only [Act.put, List.getElem_toArray, List.getElem_cons_succ, List.getElem_cons_zero, List.setIfInBounds_toArray, List.set_cons_zero, List.set_cons_succ]
        refine wpAnyH_done (by kernel_rfl) ?_ _
        go_wp2_with fail
        go_meet
        exact ⟨_, _, _, _, _, _, _, _, _, rfl, rfl, BX.out⟩
    case rest =>
      obtain ⟨b2, q2, P2, g1_, g2_, g3_, g4_, g5_, g6_, rfl, rfl, hbx⟩ := hcut
      obtain ⟨hY, hO, hd, hq, hb, hb2⟩ := hbx
      have HB_5 := Lib.hid (bt HB_4.out hb)
      have R_5 := Lib.hid (R_4.out.below hb)
      have V_5 := Lib.hid (V_4.out.below hb)
      have A_5 := Lib.hid (A_4.out.below hb)
      have CS_5 := Lib.hid (CS_4.out.below hb)
      have WB_5 := Lib.hid (WB_4.out.below hb)
      have WL_5 := Lib.hid (WL_4.out.below hb)
      have X_5 := Lib.hid (X_4.out.below hb)
      have B_5 := Lib.hid (B_4.out.below hb)
      have QC_5 := Lib.hid (QC_4.out.below hb)
      have GB_5 := Lib.hid (hY)
      have GL_5 := Lib.hid (hO)
      clear hb HB_4 R_4 V_4 A_4 CS_4 WB_4 WL_4 X_4 B_4 QC_4
      have HD := Lib.hid hd
      have HQ := Lib.hid hq
      have HB2 := Lib.hid hb2
      clear hY hO hd hq hb2
      obtain ⟨gb0, gb1, gb2, _⟩ := GB_5.out
      obtain ⟨wb0, wb1, wb2, _⟩ := WB_5.out
      go_wp2_with fail
      refine (eqP_any GL_5.out.toIn WL_5.out (by omega)).mono ?_
      rintro e u5 ⟨rfl, hb⟩
      have HB_6 := Lib.hid (bt HB_5.out hb)
      have R_6 := Lib.hid (R_5.out.below hb)
      have V_6 := Lib.hid (V_5.out.below hb)
      have A_6 := Lib.hid (A_5.out.below hb)
      have CS_6 := Lib.hid (CS_5.out.below hb)
      have WB_6 := Lib.hid (WB_5.out.below hb)
      have WL_6 := Lib.hid (WL_5.out.below hb)
      have X_6 := Lib.hid (X_5.out.below hb)
      have B_6 := Lib.hid (B_5.out.below hb)
      have QC_6 := Lib.hid (QC_5.out.below hb)
      have GB_6 := Lib.hid (GB_5.out.below hb)
      have GL_6 := Lib.hid (GL_5.out.below hb)
      clear hb HB_5 R_5 V_5 A_5 CS_5 WB_5 WL_5 X_5 B_5 QC_5 GB_5 GL_5
      clear gb0 gb1 gb2
      clear wb0 wb1 wb2
      go_wp2_with fail
      have hbd : Below u5.heap.size u5 u5.drew := (Below.refl _ u5).drew
      have HB_s := Lib.hid (bt HB_6.out hbd)
      have R_s := Lib.hid (R_6.out.below hbd)
      have V_s := Lib.hid (V_6.out.below hbd)
      have A_s := Lib.hid (A_6.out.below hbd)
      have CS_s := Lib.hid (CS_6.out.below hbd)
      have WB_s := Lib.hid (WB_6.out.below hbd)
      have WL_s := Lib.hid (WL_6.out.below hbd)
      have X_s := Lib.hid (X_6.out.below hbd)
      have B_s := Lib.hid (B_6.out.below hbd)
      have QC_s := Lib.hid (QC_6.out.below hbd)
      have GB_s := Lib.hid (GB_6.out.below hbd)
      have GL_s := Lib.hid (GL_6.out.below hbd)
      clear hbd
      refine wp_region_held_drew (S := (fun w' => (w'.cell? ⟨u2.heap.size, 0, none⟩ = some (.int .i64 H1) ∧ w'.cell? ⟨u2.heap.size, 1, none⟩ = some (.slice xa hs.length xc)) ∧ (w'.cell? ⟨w.heap.size + 1, 0, none⟩ = some (.int .i64 H1) ∧ w'.cell? ⟨w.heap.size + 1, 1, none⟩ = some (.slice ya hs.length yc)))) (by kernel_rfl) (show _ from ⟨⟨X_6.out.1, X_6.out.2⟩, ⟨V_6.out.1, V_6.out.2⟩⟩) (fun hHeld => ?_)
      generalize hW0 : u5.drew = Ws at *
      clear hW0
      refine wpAnyH_take (i := 0) (v := ?_) rfl (by kernel_rfl) (by kernel_rfl) (by kernel_rfl) (fun _ _ _ h => h) (Or.inl ⟨by kernel_rfl, ?_⟩) (by assumption) ?_
      rotate_left 1
      · intro w9 hSw
        try dsimp only at hSw
        go_simp
        try with_reducible rfl
      try simp only [Act.put, List.getElem_toArray, List.getElem_cons_succ, List.getElem_cons_zero, List.setIfInBounds_toArray, List.set_cons_zero, List.set_cons_succ]
      refine wpAnyH_take (i := 1) (v := ?_) rfl (by kernel_rfl) (by kernel_rfl) (by kernel_rfl) (fun _ _ _ h => h) (Or.inl ⟨by kernel_rfl, ?_⟩) (by assumption) ?_
      rotate_left 1
      · intro w9 hSw
        try dsimp only at hSw
        go_simp
        try with_reducible rfl
      try simp only [Act.put, List.getElem_toArray, List.getElem_cons_succ, List.getElem_cons_zero, List.setIfInBounds_toArray, List.set_cons_zero, List.set_cons_succ]
      refine wpAnyH_ready (rs := [2]) (by kernel_rfl) (by simp) ?_
      refine AllReadyH.cons rfl (fun K hK => ?_) (AllReadyH.nil)
      go_simp
      go_at_call 51
      refine (toBas_any A_s.out (by omega)).mono ?_
      rintro e' Wsc ⟨yw, rfl, ho, hb⟩
      have HB_sc := Lib.hid (bt HB_s.out hb)
      have R_sc := Lib.hid (R_s.out.below hb)
      have V_sc := Lib.hid (V_s.out.below hb)
      have A_sc := Lib.hid (A_s.out.below hb)
      have CS_sc := Lib.hid (CS_s.out.below hb)
      have WB_sc := Lib.hid (WB_s.out.below hb)
      have WL_sc := Lib.hid (WL_s.out.below hb)
      have X_sc := Lib.hid (X_s.out.below hb)
      have B_sc := Lib.hid (B_s.out.below hb)
      have QC_sc := Lib.hid (QC_s.out.below hb)
      have GB_sc := Lib.hid (GB_s.out.below hb)
      have GL_sc := Lib.hid (GL_s.out.below hb)
      have CB_sc := Lib.hid (ho.toIn)
      clear ho
      clear hb
      go_wp2_with fail
      refine hK.out _ _ (show _ from ⟨⟨X_sc.out.1, X_sc.out.2⟩, ⟨V_sc.out.1, V_sc.out.2⟩⟩) (fun hHeld => ?_)
      clear hK K
      try simp only [Act.put, List.getElem_toArray, List.getElem_cons_succ, List.getElem_cons_zero, List.setIfInBounds_toArray, List.set_cons_zero, List.set_cons_succ]
      refine wpAnyH_ready (rs := [3]) (by kernel_rfl) (by simp) ?_
      refine AllReadyH.cons rfl (fun K hK => ?_) (AllReadyH.nil)
      go_simp
      go_at_call 53
      refine (eqBas_any B_sc.out.toIn CB_sc.out (by omega)).mono ?_
      rintro e' Wscd ⟨rfl, hb⟩
      have HB_scd := Lib.hid (bt HB_sc.out hb)
      have R_scd := Lib.hid (R_sc.out.below hb)
      have V_scd := Lib.hid (V_sc.out.below hb)
      have A_scd := Lib.hid (A_sc.out.below hb)
      have CS_scd := Lib.hid (CS_sc.out.below hb)
      have WB_scd := Lib.hid (WB_sc.out.below hb)
      have WL_scd := Lib.hid (WL_sc.out.below hb)
      have X_scd := Lib.hid (X_sc.out.below hb)
      have B_scd := Lib.hid (B_sc.out.below hb)
      have QC_scd := Lib.hid (QC_sc.out.below hb)
      have GB_scd := Lib.hid (GB_sc.out.below hb)
      have GL_scd := Lib.hid (GL_sc.out.below hb)
      have CB_scd := Lib.hid (CB_sc.out.below hb)
      clear hb
      go_wp2_with fail
      refine hK.out _ _ (show _ from ⟨⟨X_scd.out.1, X_scd.out.2⟩, ⟨V_scd.out.1, V_scd.out.2⟩⟩) (fun hHeld => ?_)
      clear hK K
      try simp only [Act.put, List.getElem_toArray, List.getElem_cons_succ, List.getElem_cons_zero, List.setIfInBounds_toArray, List.set_cons_zero, List.set_cons_succ]
      refine wpAnyH_take (i := 4) (v := ?_) rfl (by kernel_rfl) (by kernel_rfl) (by kernel_rfl) (fun _ _ _ h => h) (Or.inl ⟨by kernel_rfl, ?_⟩) (by assumption) ?_
      rotate_left 1
      · intro w9 hSw
        try dsimp only at hSw
        go_simp
        try with_reducible rfl
      try simp only [Act.put, List.getElem_toArray, List.getElem_cons_succ, List.getElem_cons_zero, List.setIfInBounds_toArray, List.set_cons_zero, List.set_cons_succ]
      refine wpAnyH_done (by kernel_rfl) ?_ _
      have HB_7 := Lib.hid HB_scd.out
      have R_7 := Lib.hid R_scd.out
      have V_7 := Lib.hid V_scd.out
      have A_7 := Lib.hid A_scd.out
      have CS_7 := Lib.hid CS_scd.out
      have WB_7 := Lib.hid WB_scd.out
      have WL_7 := Lib.hid WL_scd.out
      have X_7 := Lib.hid X_scd.out
      have B_7 := Lib.hid B_scd.out
      have QC_7 := Lib.hid QC_scd.out
      have GB_7 := Lib.hid GB_scd.out
      have GL_7 := Lib.hid GL_scd.out
      go_wp2_with fail
      refine (toI_any CS_7.out (by omega)).mono ?_
      rintro e u6 ⟨rcs, rfl, ho, hb⟩
      have HB_8 := Lib.hid (bt HB_7.out hb)
      have R_8 := Lib.hid (R_7.out.below hb)
      have V_8 := Lib.hid (V_7.out.below hb)
      have A_8 := Lib.hid (A_7.out.below hb)
      have CS_8 := Lib.hid (CS_7.out.below hb)
      have WB_8 := Lib.hid (WB_7.out.below hb)
      have WL_8 := Lib.hid (WL_7.out.below hb)
      have X_8 := Lib.hid (X_7.out.below hb)
      have B_8 := Lib.hid (B_7.out.below hb)
      have QC_8 := Lib.hid (QC_7.out.below hb)
      have GB_8 := Lib.hid (GB_7.out.below hb)
      have GL_8 := Lib.hid (GL_7.out.below hb)
      have CI_8 := Lib.hid (ho.toIn)
      clear hb HB_7 R_7 V_7 A_7 CS_7 WB_7 WL_7 X_7 B_7 QC_7 GB_7 GL_7
      clear ho
      go_wp2_with fail
      refine (eqI_any QC_8.out.toIn CI_8.out (by omega)).mono ?_
      rintro e u7 ⟨rfl, hb⟩
      have HB_9 := Lib.hid (bt HB_8.out hb)
      have R_9 := Lib.hid (R_8.out.below hb)
      have V_9 := Lib.hid (V_8.out.below hb)
      have A_9 := Lib.hid (A_8.out.below hb)
      have CS_9 := Lib.hid (CS_8.out.below hb)
      have WB_9 := Lib.hid (WB_8.out.below hb)
      have WL_9 := Lib.hid (WL_8.out.below hb)
      have X_9 := Lib.hid (X_8.out.below hb)
      have B_9 := Lib.hid (B_8.out.below hb)
      have QC_9 := Lib.hid (QC_8.out.below hb)
      have GB_9 := Lib.hid (GB_8.out.below hb)
      have GL_9 := Lib.hid (GL_8.out.below hb)
      clear hb HB_8 R_8 V_8 A_8 CS_8 WB_8 WL_8 X_8 B_8 QC_8 GB_8 GL_8 CI_8
      obtain ⟨x0, x1⟩ := X_9.out
      go_wp2_with fail
      refine (markBas_any B_9.out (by omega) (by omega) (by omega)).mono ?_
      rintro e u8 ⟨rfl, ho, hmi⟩
      clear ho
      clear x0 x1
      clear B_9
      have R_10 := Lib.hid (gr_midw R_9.out hmi (.inl LBR.out))
      have V_10 := Lib.hid (d2_midw V_9.out hmi (.inl LBV.out))
      have A_10 := Lib.hid (A_9.out.mid hmi LBA.out)
      have CS_10 := Lib.hid (CS_9.out.mid hmi LBCS.out)
      have WB_10 := Lib.hid (WB_9.out.mid hmi (.inl LBWB.out))
      have WL_10 := Lib.hid (WL_9.out.mid hmi LBWL.out)
      have X_10 := Lib.hid (d2_midw X_9.out hmi (.inr (Nat.le_refl _)))
      have QC_10 := Lib.hid (QC_9.out.mid hmi (.inr LCB.out))
      have GB_10 := Lib.hid (GB_9.out.mid hmi (.inr (Nat.le_trans LGB.out HB2.out)))
      have GL_10 := Lib.hid (GL_9.out.mid hmi (.inr (Nat.le_trans LGB.out HQ.out)))
      have HB_10 := Lib.hid (HB_9.out.trans (hmi.toBelow LBHB.out HB_9.out.size))
      clear hmi HB_9 R_9 V_9 A_9 CS_9 WB_9 WL_9 X_9 QC_9 GB_9 GL_9
      go_wp2_with fail
      refine (markI_any QC_10.out (by omega) (by omega) (by omega)).mono ?_
      rintro e u9 ⟨rfl, ho, hmi⟩
      clear ho
      clear QC_10 X_10
      have R_11 := Lib.hid (gr_midw R_10.out hmi (.inl LCR.out))
      have V_11 := Lib.hid (d2_midw V_10.out hmi (.inl LCV.out))
      have A_11 := Lib.hid (A_10.out.mid hmi LCA.out)
      have CS_11 := Lib.hid (CS_10.out.mid hmi LCCS.out)
      have WB_11 := Lib.hid (WB_10.out.mid hmi (.inl LCWB.out))
      have WL_11 := Lib.hid (WL_10.out.mid hmi LCWL.out)
      have GB_11 := Lib.hid (GB_10.out.mid hmi (.inr (Nat.le_trans LGQ.out HB2.out)))
      have GL_11 := Lib.hid (GL_10.out.mid hmi (.inr (Nat.le_trans LGQ.out HQ.out)))
      have HB_11 := Lib.hid (HB_10.out.trans (hmi.toBelow LCHB.out HB_10.out.size))
      clear hmi HB_10 R_10 V_10 A_10 CS_10 WB_10 WL_10 GB_10 GL_10
      obtain ⟨gb0, gb1, gb2, _⟩ := GB_11.out
      obtain ⟨wb0, wb1, wb2, _⟩ := WB_11.out
      go_wp2_with fail
      refine (eqP_any GL_11.out.toIn WL_11.out (by omega)).mono ?_
      rintro e u10 ⟨rfl, hb⟩
      have HB_12 := Lib.hid (bt HB_11.out hb)
      have R_12 := Lib.hid (R_11.out.below hb)
      have V_12 := Lib.hid (V_11.out.below hb)
      have A_12 := Lib.hid (A_11.out.below hb)
      have CS_12 := Lib.hid (CS_11.out.below hb)
      have WB_12 := Lib.hid (WB_11.out.below hb)
      have WL_12 := Lib.hid (WL_11.out.below hb)
      have GB_12 := Lib.hid (GB_11.out.below hb)
      have GL_12 := Lib.hid (GL_11.out.below hb)
      clear hb HB_11 R_11 V_11 A_11 CS_11 WB_11 WL_11 GB_11 GL_11
      clear gb0 gb1 gb2
      clear wb0 wb1 wb2
      obtain ⟨gb0, gb1, gb2, _⟩ := GB_12.out
      go_wp2_with fail
      refine (markQ_any GL_12.out (by omega) (by omega) (by omega)).mono ?_
      rintro e u11 ⟨rfl, ho, hmi⟩
      clear gb0 gb1 gb2
      clear GL_12
      have R_13 := Lib.hid (gr_midw R_12.out hmi (.inl (Nat.lt_of_lt_of_le LGR.out HQ.out)))
      have V_13 := Lib.hid (d2_midw V_12.out hmi (.inl (Nat.lt_of_lt_of_le LGV.out HQ.out)))
      have A_13 := Lib.hid (A_12.out.mid hmi (Nat.le_trans LGA.out HQ.out))
      have CS_13 := Lib.hid (CS_12.out.mid hmi (Nat.le_trans LGCS.out HQ.out))
      have WB_13 := Lib.hid (WB_12.out.mid hmi (.inl (Nat.lt_of_lt_of_le LGWB.out HQ.out)))
      have WL_13 := Lib.hid (WL_12.out.mid hmi (Nat.le_trans LGWL.out HQ.out))
      have GB_13 := Lib.hid (GB_12.out.mid hmi HD.out)
      have HB_13 := Lib.hid (HB_12.out.trans (hmi.toBelow (Nat.le_trans LGHB.out HQ.out) HB_12.out.size))
      have GL_13 := Lib.hid (ho.toIn)
      clear hmi HB_12 R_12 V_12 A_12 CS_12 WB_12 WL_12 GB_12
      clear ho
      obtain ⟨gb0, gb1, gb2, _⟩ := GB_13.out
      go_wp2_with fail
      refine (heldP_any GL_13.out (by omega) (by omega) (by omega)).mono ?_
      rintro e u12 ⟨rfl, hb⟩
      have HB_14 := Lib.hid (bt HB_13.out hb)
      have R_14 := Lib.hid (R_13.out.below hb)
      have V_14 := Lib.hid (V_13.out.below hb)
      have A_14 := Lib.hid (A_13.out.below hb)
      have CS_14 := Lib.hid (CS_13.out.below hb)
      have WB_14 := Lib.hid (WB_13.out.below hb)
      have WL_14 := Lib.hid (WL_13.out.below hb)
      have GB_14 := Lib.hid (GB_13.out.below hb)
      have GL_14 := Lib.hid (GL_13.out.below hb)
      clear hb HB_13 R_13 V_13 A_13 CS_13 WB_13 WL_13 GB_13 GL_13
      clear gb0 gb1 gb2
      go_upto_region 30 with fail
      go_cut [21, 22] (fun s1 s2 wx => ∃ (b q P : Nat) (a1_ : Option Addr) (c1_ : Nat) (a2_ : Option Addr) (c2_ : Nat) (a3_ : Option Addr) (c3_ : Nat), s1 = .pointer (some ⟨b, 0, none⟩) ∧ s2 = .bool ok ∧ BoxQ u12 wx b q P (.slice a1_ res.c.length c1_) (.slice a2_ res.h.length c2_) (.slice a3_ res.r.length c3_) res)
      case first =>
        have LO_14 := Lib.hid (show Lo u12 u12 from Below.refl _ _)
        have LR9 := Lib.hid (R_14.out.lt)
        have LV9 := Lib.hid (V_14.out.lt)
        have hbd : Below u12.heap.size u12 u12.drew := (Below.refl _ u12).drew
        have HB_s := Lib.hid (bt HB_14.out hbd)
        have R_s := Lib.hid (R_14.out.below hbd)
        have V_s := Lib.hid (V_14.out.below hbd)
        have A_s := Lib.hid (A_14.out.below hbd)
        have CS_s := Lib.hid (CS_14.out.below hbd)
        have WB_s := Lib.hid (WB_14.out.below hbd)
        have WL_s := Lib.hid (WL_14.out.below hbd)
        have GB_s := Lib.hid (GB_14.out.below hbd)
        have GL_s := Lib.hid (GL_14.out.below hbd)
        have LO_s := Lib.hid (LO_14.out.below hbd)
        clear hbd
        refine wp_region_held_drew (S := (fun w' => (w'.cell? ⟨w.heap.size, 0, none⟩ = some (.int .i64 P0) ∧ w'.cell? ⟨w.heap.size, 1, none⟩ = some (.int .i64 Q0) ∧ w'.cell? ⟨w.heap.size, 2, none⟩ = some (.int .i64 G0)) ∧ (w'.cell? ⟨w.heap.size + 1, 0, none⟩ = some (.int .i64 H1) ∧ w'.cell? ⟨w.heap.size + 1, 1, none⟩ = some (.slice ya hs.length yc)))) (by kernel_rfl) (show _ from ⟨⟨R_14.out.1, R_14.out.2.1, R_14.out.2.2⟩, ⟨V_14.out.1, V_14.out.2⟩⟩) (fun hHeld => ?_)
        generalize hW0 : u12.drew = Ws at *
        clear hW0
        refine wpAnyH_take (i := 0) (v := ?_) rfl (by kernel_rfl) (by kernel_rfl) (by kernel_rfl) (fun _ _ _ h => h) (Or.inl ⟨by kernel_rfl, ?_⟩) (by assumption) ?_
        rotate_left 1
        · intro w9 hSw
          try dsimp only at hSw
          go_simp
          try with_reducible rfl
        try simp only [Act.put, List.getElem_toArray, List.getElem_cons_succ, List.getElem_cons_zero, List.setIfInBounds_toArray, List.set_cons_zero, List.set_cons_succ]
        refine wpAnyH_take (i := 2) (v := ?_) rfl (by kernel_rfl) (by kernel_rfl) (by kernel_rfl) (fun _ _ _ h => h) (Or.inl ⟨by kernel_rfl, ?_⟩) (by assumption) ?_
        rotate_left 1
        · intro w9 hSw
          try dsimp only at hSw
          go_simp
          try with_reducible rfl
        try simp only [Act.put, List.getElem_toArray, List.getElem_cons_succ, List.getElem_cons_zero, List.setIfInBounds_toArray, List.set_cons_zero, List.set_cons_succ]
        refine wpAnyH_take (i := 4) (v := ?_) rfl (by kernel_rfl) (by kernel_rfl) (by kernel_rfl) (fun _ _ _ h => h) (Or.inl ⟨by kernel_rfl, ?_⟩) (by assumption) ?_
        rotate_left 1
        · intro w9 hSw
          try dsimp only at hSw
          go_simp
          try with_reducible rfl
        try simp only [Act.put, List.getElem_toArray, List.getElem_cons_succ, List.getElem_cons_zero, List.setIfInBounds_toArray, List.set_cons_zero, List.set_cons_succ]
        refine wpAnyH_take (i := 5) (v := ?_) rfl (by kernel_rfl) (by kernel_rfl) (by kernel_rfl) (fun _ _ _ h => h) (Or.inl ⟨by kernel_rfl, ?_⟩) (by assumption) ?_
        rotate_left 1
        · intro w9 hSw
          try dsimp only at hSw
          go_simp
          try with_reducible rfl
        try simp only [Act.put, List.getElem_toArray, List.getElem_cons_succ, List.getElem_cons_zero, List.setIfInBounds_toArray, List.set_cons_zero, List.set_cons_succ]
        refine wpAnyH_take (i := 6) (v := ?_) rfl (by kernel_rfl) (by kernel_rfl) (by kernel_rfl) (fun _ _ _ h => h) (Or.inl ⟨by kernel_rfl, ?_⟩) (by assumption) ?_
        rotate_left 1
        · intro w9 hSw
          try dsimp only at hSw
          go_simp
          try with_reducible rfl
        try simp only [Act.put, List.getElem_toArray, List.getElem_cons_succ, List.getElem_cons_zero, List.setIfInBounds_toArray, List.set_cons_zero, List.set_cons_succ]
        refine wpAnyH_ready (rs := [1, 12]) (by kernel_rfl) (by simp) ?_
        refine AllReadyH.cons rfl (fun K hK => ?_) (AllReadyH.cons rfl (fun K hK => ?_) (AllReadyH.nil))
        · go_simp
          go_at_call 18
          refine (toGroup_any _ _ _ _).mono ?_
          rintro e' Wsb ⟨rfl, hb⟩
          have HB_sb := Lib.hid (bt HB_s.out hb)
          have R_sb := Lib.hid (R_s.out.below hb)
          have V_sb := Lib.hid (V_s.out.below hb)
          have A_sb := Lib.hid (A_s.out.below hb)
          have CS_sb := Lib.hid (CS_s.out.below hb)
          have WB_sb := Lib.hid (WB_s.out.below hb)
          have WL_sb := Lib.hid (WL_s.out.below hb)
          have GB_sb := Lib.hid (GB_s.out.below hb)
          have GL_sb := Lib.hid (GL_s.out.below hb)
          have LO_sb := Lib.hid (LO_s.out.below hb)
          clear hb
          go_wp2_with fail
          refine hK.out _ _ (show _ from ⟨⟨R_sb.out.1, R_sb.out.2.1, R_sb.out.2.2⟩, ⟨V_sb.out.1, V_sb.out.2⟩⟩) (fun hHeld => ?_)
          clear hK K
          try simp only [Act.put, List.getElem_toArray, List.getElem_cons_succ, List.getElem_cons_zero, List.setIfInBounds_toArray, List.set_cons_zero, List.set_cons_succ]
          refine wpAnyH_ready (rs := [3, 12]) (by kernel_rfl) (by simp) ?_
          refine AllReadyH.cons rfl (fun K hK => ?_) (AllReadyH.cons rfl (fun K hK => ?_) (AllReadyH.nil))
          · go_simp
            go_at_call 51
            refine (toBas_any A_sb.out (by omega)).mono ?_
            rintro e' Wsbd ⟨yw, rfl, ho, hb⟩
            have HB_sbd := Lib.hid (bt HB_sb.out hb)
            have R_sbd := Lib.hid (R_sb.out.below hb)
            have V_sbd := Lib.hid (V_sb.out.below hb)
            have A_sbd := Lib.hid (A_sb.out.below hb)
            have CS_sbd := Lib.hid (CS_sb.out.below hb)
            have WB_sbd := Lib.hid (WB_sb.out.below hb)
            have WL_sbd := Lib.hid (WL_sb.out.below hb)
            have GB_sbd := Lib.hid (GB_sb.out.below hb)
            have GL_sbd := Lib.hid (GL_sb.out.below hb)
            have LO_sbd := Lib.hid (LO_sb.out.below hb)
            have CB_sbd := Lib.hid (ho.toIn)
            clear ho
            clear hb
            go_wp2_with fail
            refine hK.out _ _ (show _ from ⟨⟨R_sbd.out.1, R_sbd.out.2.1, R_sbd.out.2.2⟩, ⟨V_sbd.out.1, V_sbd.out.2⟩⟩) (fun hHeld => ?_)
            clear hK K
            try simp only [Act.put, List.getElem_toArray, List.getElem_cons_succ, List.getElem_cons_zero, List.setIfInBounds_toArray, List.set_cons_zero, List.set_cons_succ]
            refine wpAnyH_ready (rs := [7, 12]) (by kernel_rfl) (by simp) ?_
            refine AllReadyH.cons rfl (fun K hK => ?_) (AllReadyH.cons rfl (fun K hK => ?_) (AllReadyH.nil))
            · go_simp
              go_at_call 20
              refine (toI_any CS_sbd.out (by omega)).mono ?_
              rintro e' Wsbdh ⟨xcs, rfl, ho, hb⟩
              have HB_sbdh := Lib.hid (bt HB_sbd.out hb)
              have R_sbdh := Lib.hid (R_sbd.out.below hb)
              have V_sbdh := Lib.hid (V_sbd.out.below hb)
              have A_sbdh := Lib.hid (A_sbd.out.below hb)
              have CS_sbdh := Lib.hid (CS_sbd.out.below hb)
              have WB_sbdh := Lib.hid (WB_sbd.out.below hb)
              have WL_sbdh := Lib.hid (WL_sbd.out.below hb)
              have GB_sbdh := Lib.hid (GB_sbd.out.below hb)
              have GL_sbdh := Lib.hid (GL_sbd.out.below hb)
              have LO_sbdh := Lib.hid (LO_sbd.out.below hb)
              have CB_sbdh := Lib.hid (CB_sbd.out.below hb)
              have CC_sbdh := Lib.hid (ho.toIn)
              clear ho
              clear hb
              go_wp2_with fail
              refine hK.out _ _ (show _ from ⟨⟨R_sbdh.out.1, R_sbdh.out.2.1, R_sbdh.out.2.2⟩, ⟨V_sbdh.out.1, V_sbdh.out.2⟩⟩) (fun hHeld => ?_)
              clear hK K
              try simp only [Act.put, List.getElem_toArray, List.getElem_cons_succ, List.getElem_cons_zero, List.setIfInBounds_toArray, List.set_cons_zero, List.set_cons_succ]
              refine wpAnyH_ready (rs := [8, 12]) (by kernel_rfl) (by simp) ?_
              refine AllReadyH.cons rfl (fun K hK => ?_) (AllReadyH.cons rfl (fun K hK => ?_) (AllReadyH.nil))
              · go_simp
                (first | have LQ := Lib.hid Z_sbdh.out.lt | skip)
                have LQS := Lib.hid LO_sbdh.out.size
                go_at_call 52
                refine (proveOpening_any P0 Q0 G0 H1 a2 a3 hsl lcs CB_sbdh.out CC_sbdh.out).mono ?_
                rw [HV.out, HK.out]
                rintro e' Wsbdhi ⟨za, zb, zc, rfl, ho, hb⟩
                obtain ⟨za1, za2, zb1, zb2, zc1, zc2, hsh⟩ := inP_shapeQ (OwQ.toIn ho)
                simp only [Value.agg.injEq, Array.mk.injEq, List.cons.injEq, and_true] at hsh
                obtain ⟨rfl, rfl, rfl⟩ := hsh
                have HB_sbdhi := Lib.hid (bt HB_sbdh.out hb)
                have R_sbdhi := Lib.hid (R_sbdh.out.below hb)
                have V_sbdhi := Lib.hid (V_sbdh.out.below hb)
                have A_sbdhi := Lib.hid (A_sbdh.out.below hb)
                have CS_sbdhi := Lib.hid (CS_sbdh.out.below hb)
                have WB_sbdhi := Lib.hid (WB_sbdh.out.below hb)
                have WL_sbdhi := Lib.hid (WL_sbdh.out.below hb)
                have GB_sbdhi := Lib.hid (GB_sbdh.out.below hb)
                have GL_sbdhi := Lib.hid (GL_sbdh.out.below hb)
                have LO_sbdhi := Lib.hid (LO_sbdh.out.below hb)
                have CB_sbdhi := Lib.hid (CB_sbdh.out.below hb)
                have CC_sbdhi := Lib.hid (CC_sbdh.out.below hb)
                have OT_sbdhi := Lib.hid (ho)
                clear ho
                clear hb
                go_wp2_with fail
                refine hK.out _ _ (show _ from ⟨⟨R_sbdhi.out.1, R_sbdhi.out.2.1, R_sbdhi.out.2.2⟩, ⟨V_sbdhi.out.1, V_sbdhi.out.2⟩⟩) (fun hHeld => ?_)
                clear hK K
                try simp only [Act.put, List.getElem_toArray, List.getElem_cons_succ, List.getElem_cons_zero, List.setIfInBounds_toArray, List.set_cons_zero, List.set_cons_succ]
                refine wpAnyH_take (i := 9) (v := ?_) rfl (by kernel_rfl) (by kernel_rfl) (by kernel_rfl) (fun _ _ _ h => h) (Or.inl ⟨by kernel_rfl, ?_⟩) (by assumption) ?_
                rotate_left 1
                · intro w9 hSw
                  try dsimp only at hSw
                  go_simp
                  try with_reducible rfl
                try simp only [Act.put, List.getElem_toArray, List.getElem_cons_succ, List.getElem_cons_zero, List.setIfInBounds_toArray, List.set_cons_zero, List.set_cons_succ]
                refine wpAnyH_take (i := 10) (v := ?_) rfl (by kernel_rfl) (by kernel_rfl) (by kernel_rfl) (fun _ _ _ h => h) (Or.inl ⟨by kernel_rfl, ?_⟩) (by assumption) ?_
                rotate_left 1
                · intro w9 hSw
                  try dsimp only at hSw
                  go_simp
                  try with_reducible rfl
                try simp only [Act.put, List.getElem_toArray, List.getElem_cons_succ, List.getElem_cons_zero, List.setIfInBounds_toArray, List.set_cons_zero, List.set_cons_succ]
                refine wpAnyH_take (i := 11) (v := ?_) rfl (by kernel_rfl) (by kernel_rfl) (by kernel_rfl) (fun _ _ _ h => h) (Or.inl ⟨by kernel_rfl, ?_⟩) (by assumption) ?_
                rotate_left 1
                · intro w9 hSw
                  try dsimp only at hSw
                  go_simp
                  try with_reducible rfl
                try simp only [Act.put, List.getElem_toArray, List.getElem_cons_succ, List.getElem_cons_zero, List.setIfInBounds_toArray, List.set_cons_zero, List.set_cons_succ]
                refine wpAnyH_ready (rs := [12]) (by kernel_rfl) (by simp) ?_
                refine AllReadyH.cons rfl (fun K hK => ?_) (AllReadyH.nil)
                go_simp
                have hb := ba Wsbdhi (.cells #[.slice none 0 0, .slice none 0 0, .slice none 0 0] 36)
                have HB_sbdhim := Lib.hid (bt HB_sbdhi.out hb)
                have R_sbdhim := Lib.hid (R_sbdhi.out.below hb)
                have V_sbdhim := Lib.hid (V_sbdhi.out.below hb)
                have A_sbdhim := Lib.hid (A_sbdhi.out.below hb)
                have CS_sbdhim := Lib.hid (CS_sbdhi.out.below hb)
                have WB_sbdhim := Lib.hid (WB_sbdhi.out.below hb)
                have WL_sbdhim := Lib.hid (WL_sbdhi.out.below hb)
                have GB_sbdhim := Lib.hid (GB_sbdhi.out.below hb)
                have GL_sbdhim := Lib.hid (GL_sbdhi.out.below hb)
                have LO_sbdhim := Lib.hid (LO_sbdhi.out.below hb)
                have CB_sbdhim := Lib.hid (CB_sbdhi.out.below hb)
                have CC_sbdhim := Lib.hid (CC_sbdhi.out.below hb)
                have OT_sbdhim := Lib.hid (OT_sbdhi.out.below hb)
                have Z_sbdhim := Lib.hid (show B3 (Wsbdhi.alloc (.cells #[.slice none 0 0, .slice none 0 0, .slice none 0 0] 36)) Wsbdhi.heap.size (.slice none 0 0) (.slice none 0 0) (.slice none 0 0) from b3_new Wsbdhi _ _ _ 36)
                have LB := Lib.hid (show u12.heap.size ≤ Wsbdhi.heap.size from LO_sbdhi.out.size)
                (first | have LD := Lib.hid OT_sbdhi.out.le | skip)
                clear hb
                refine hK.out _ _ (show _ from ⟨⟨R_sbdhim.out.1, R_sbdhim.out.2.1, R_sbdhim.out.2.2⟩, ⟨V_sbdhim.out.1, V_sbdhim.out.2⟩⟩) (fun hHeld => ?_)
                clear hK K
                try simp only [Act.put, List.getElem_toArray, List.getElem_cons_succ, List.getElem_cons_zero, List.setIfInBounds_toArray, List.set_cons_zero, List.set_cons_succ]
                generalize hW9 : Wsbdhi.alloc (.cells #[.slice none 0 0, .slice none 0 0, .slice none 0 0] 36) = Wsbdhim at *
                clear hW9
                have hm5 := mid3 Wsbdhim (Wsbdhi.heap.size) (.slice za1 res.c.length za2) (.slice zb1 res.h.length zb2) (.slice zc1 res.r.length zc2)
                have R_y := Lib.hid (gr_midw R_sbdhim.out hm5 (.inl (Nat.lt_of_lt_of_le LR9.out LB.out)))
                have V_y := Lib.hid (d2_midw V_sbdhim.out hm5 (.inl (Nat.lt_of_lt_of_le LV9.out LB.out)))
                have BX : BoxQ u12 (((Wsbdhim.setCell ⟨Wsbdhi.heap.size, 0, none⟩ (.slice za1 res.c.length za2)).setCell ⟨Wsbdhi.heap.size, 1, none⟩ (.slice zb1 res.h.length zb2)).setCell ⟨Wsbdhi.heap.size, 2, none⟩ (.slice zc1 res.r.length zc2)) (Wsbdhi.heap.size) _ _ (.slice za1 res.c.length za2) (.slice zb1 res.h.length zb2) (.slice zc1 res.r.length zc2) res := (by first | exact boxQ_mk LO_sbdhim.out LQS.out LB.out Z_sbdhim.out OT_sbdhim.out (.inl LQ.out) | exact boxQ_mk LO_sbdhim.out LQS.out LB.out Z_sbdhim.out OT_sbdhim.out (.inr LD.out))
                have BX := Lib.hid BX
                clear hm5
                refine wpAnyH_ready (rs := [13]) (by kernel_rfl) (by simp) ?_
                refine AllReadyH.cons rfl (fun K hK => ?_) AllReadyH.nil
                obtain ⟨y0, y1, y2, yf⟩ := Z_sbdhim.out
                have yf0 := yf 0
                have yf1 := yf 1
                have yf2 := yf 2
                clear yf
                go_simp
                refine hK.out _ _ (show _ from ⟨⟨R_y.out.1, R_y.out.2.1, R_y.out.2.2⟩, ⟨V_y.out.1, V_y.out.2⟩⟩) (fun hHeld => ?_)
                clear hK K
                try simp only [Act.put, List.getElem_toArray, List.getElem_cons_succ, List.getElem_cons_zero, List.setIfInBounds_toArray, List.set_cons_zero, List.set_cons_succ]
                refine wpAnyH_take (i := 14) (v := ?_) rfl (by kernel_rfl) (by kernel_rfl) (by kernel_rfl) (fun _ _ _ h => h) (Or.inl ⟨by kernel_rfl, ?_⟩) (by assumption) ?_
                rotate_left 1
                · intro w9 hSw
                  try dsimp only at hSw
                  go_simp
                  try with_reducible rfl
                try simp only [Act.put, List.getElem_toArray, List.getElem_cons_succ, List.getElem_cons_zero, List.setIfInBounds_toArray, List.set_cons_zero, List.set_cons_succ]
                refine wpAnyH_done (by kernel_rfl) ?_ _
                go_wp2_with fail
                go_meet
                exact ⟨_, _, _, _, _, _, _, _, _, rfl, rfl, BX.out⟩
              · go_simp
                have hb := ba Wsbdh (.cells #[.slice none 0 0, .slice none 0 0, .slice none 0 0] 36)
                have HB_sbdhm := Lib.hid (bt HB_sbdh.out hb)
                have R_sbdhm := Lib.hid (R_sbdh.out.below hb)
                have V_sbdhm := Lib.hid (V_sbdh.out.below hb)
                have A_sbdhm := Lib.hid (A_sbdh.out.below hb)
                have CS_sbdhm := Lib.hid (CS_sbdh.out.below hb)
                have WB_sbdhm := Lib.hid (WB_sbdh.out.below hb)
                have WL_sbdhm := Lib.hid (WL_sbdh.out.below hb)
                have GB_sbdhm := Lib.hid (GB_sbdh.out.below hb)
                have GL_sbdhm := Lib.hid (GL_sbdh.out.below hb)
                have LO_sbdhm := Lib.hid (LO_sbdh.out.below hb)
                have CB_sbdhm := Lib.hid (CB_sbdh.out.below hb)
                have CC_sbdhm := Lib.hid (CC_sbdh.out.below hb)
                have Z_sbdhm := Lib.hid (show B3 (Wsbdh.alloc (.cells #[.slice none 0 0, .slice none 0 0, .slice none 0 0] 36)) Wsbdh.heap.size (.slice none 0 0) (.slice none 0 0) (.slice none 0 0) from b3_new Wsbdh _ _ _ 36)
                have LB := Lib.hid (show u12.heap.size ≤ Wsbdh.heap.size from LO_sbdh.out.size)
                (first | have LD := Lib.hid OT_sbdh.out.le | skip)
                clear hb
                refine hK.out _ _ (show _ from ⟨⟨R_sbdhm.out.1, R_sbdhm.out.2.1, R_sbdhm.out.2.2⟩, ⟨V_sbdhm.out.1, V_sbdhm.out.2⟩⟩) (fun hHeld => ?_)
                clear hK K
                try simp only [Act.put, List.getElem_toArray, List.getElem_cons_succ, List.getElem_cons_zero, List.setIfInBounds_toArray, List.set_cons_zero, List.set_cons_succ]
                generalize hW9 : Wsbdh.alloc (.cells #[.slice none 0 0, .slice none 0 0, .slice none 0 0] 36) = Wsbdhm at *
                clear hW9
                refine wpAnyH_ready (rs := [8]) (by kernel_rfl) (by simp) ?_
                refine AllReadyH.cons rfl (fun K hK => ?_) (AllReadyH.nil)
                go_simp
                (first | have LQ := Lib.hid Z_sbdhm.out.lt | skip)
                have LQS := Lib.hid LO_sbdhm.out.size
                go_at_call 52
                refine (proveOpening_any P0 Q0 G0 H1 a2 a3 hsl lcs CB_sbdhm.out CC_sbdhm.out).mono ?_
                rw [HV.out, HK.out]
                rintro e' Wsbdhmi ⟨za, zb, zc, rfl, ho, hb⟩
                obtain ⟨za1, za2, zb1, zb2, zc1, zc2, hsh⟩ := inP_shapeQ (OwQ.toIn ho)
                simp only [Value.agg.injEq, Array.mk.injEq, List.cons.injEq, and_true] at hsh
                obtain ⟨rfl, rfl, rfl⟩ := hsh
                have HB_sbdhmi := Lib.hid (bt HB_sbdhm.out hb)
                have R_sbdhmi := Lib.hid (R_sbdhm.out.below hb)
                have V_sbdhmi := Lib.hid (V_sbdhm.out.below hb)
                have A_sbdhmi := Lib.hid (A_sbdhm.out.below hb)
                have CS_sbdhmi := Lib.hid (CS_sbdhm.out.below hb)
                have WB_sbdhmi := Lib.hid (WB_sbdhm.out.below hb)
                have WL_sbdhmi := Lib.hid (WL_sbdhm.out.below hb)
                have GB_sbdhmi := Lib.hid (GB_sbdhm.out.below hb)
                have GL_sbdhmi := Lib.hid (GL_sbdhm.out.below hb)
                have LO_sbdhmi := Lib.hid (LO_sbdhm.out.below hb)
                have CB_sbdhmi := Lib.hid (CB_sbdhm.out.below hb)
                have CC_sbdhmi := Lib.hid (CC_sbdhm.out.below hb)
                have Z_sbdhmi := Lib.hid (Z_sbdhm.out.below hb)
                have OT_sbdhmi := Lib.hid (ho)
                clear ho
                clear hb
                go_wp2_with fail
                refine hK.out _ _ (show _ from ⟨⟨R_sbdhmi.out.1, R_sbdhmi.out.2.1, R_sbdhmi.out.2.2⟩, ⟨V_sbdhmi.out.1, V_sbdhmi.out.2⟩⟩) (fun hHeld => ?_)
                clear hK K
                try simp only [Act.put, List.getElem_toArray, List.getElem_cons_succ, List.getElem_cons_zero, List.setIfInBounds_toArray, List.set_cons_zero, List.set_cons_succ]
                refine wpAnyH_take (i := 9) (v := ?_) rfl (by kernel_rfl) (by kernel_rfl) (by kernel_rfl) (fun _ _ _ h => h) (Or.inl ⟨by kernel_rfl, ?_⟩) (by assumption) ?_
                rotate_left 1
                · intro w9 hSw
                  try dsimp only at hSw
                  go_simp
                  try with_reducible rfl
                try simp only [Act.put, List.getElem_toArray, List.getElem_cons_succ, List.getElem_cons_zero, List.setIfInBounds_toArray, List.set_cons_zero, List.set_cons_succ]
                refine wpAnyH_take (i := 10) (v := ?_) rfl (by kernel_rfl) (by kernel_rfl) (by kernel_rfl) (fun _ _ _ h => h) (Or.inl ⟨by kernel_rfl, ?_⟩) (by assumption) ?_
                rotate_left 1
                · intro w9 hSw
                  try dsimp only at hSw
                  go_simp
                  try with_reducible rfl
                try simp only [Act.put, List.getElem_toArray, List.getElem_cons_succ, List.getElem_cons_zero, List.setIfInBounds_toArray, List.set_cons_zero, List.set_cons_succ]
                refine wpAnyH_take (i := 11) (v := ?_) rfl (by kernel_rfl) (by kernel_rfl) (by kernel_rfl) (fun _ _ _ h => h) (Or.inl ⟨by kernel_rfl, ?_⟩) (by assumption) ?_
                rotate_left 1
                · intro w9 hSw
                  try dsimp only at hSw
                  go_simp
                  try with_reducible rfl
                try simp only [Act.put, List.getElem_toArray, List.getElem_cons_succ, List.getElem_cons_zero, List.setIfInBounds_toArray, List.set_cons_zero, List.set_cons_succ]
                have hm5 := mid3 Wsbdhmi (Wsbdh.heap.size) (.slice za1 res.c.length za2) (.slice zb1 res.h.length zb2) (.slice zc1 res.r.length zc2)
                have R_y := Lib.hid (gr_midw R_sbdhmi.out hm5 (.inl (Nat.lt_of_lt_of_le LR9.out LB.out)))
                have V_y := Lib.hid (d2_midw V_sbdhmi.out hm5 (.inl (Nat.lt_of_lt_of_le LV9.out LB.out)))
                have BX : BoxQ u12 (((Wsbdhmi.setCell ⟨Wsbdh.heap.size, 0, none⟩ (.slice za1 res.c.length za2)).setCell ⟨Wsbdh.heap.size, 1, none⟩ (.slice zb1 res.h.length zb2)).setCell ⟨Wsbdh.heap.size, 2, none⟩ (.slice zc1 res.r.length zc2)) (Wsbdh.heap.size) _ _ (.slice za1 res.c.length za2) (.slice zb1 res.h.length zb2) (.slice zc1 res.r.length zc2) res := (by first | exact boxQ_mk LO_sbdhmi.out LQS.out LB.out Z_sbdhmi.out OT_sbdhmi.out (.inl LQ.out) | exact boxQ_mk LO_sbdhmi.out LQS.out LB.out Z_sbdhmi.out OT_sbdhmi.out (.inr LD.out))
                have BX := Lib.hid BX
                clear hm5
                refine wpAnyH_ready (rs := [13]) (by kernel_rfl) (by simp) ?_
                refine AllReadyH.cons rfl (fun K hK => ?_) AllReadyH.nil
                obtain ⟨y0, y1, y2, yf⟩ := Z_sbdhmi.out
                have yf0 := yf 0
                have yf1 := yf 1
                have yf2 := yf 2
                clear yf
                go_simp
                refine hK.out _ _ (show _ from ⟨⟨R_y.out.1, R_y.out.2.1, R_y.out.2.2⟩, ⟨V_y.out.1, V_y.out.2⟩⟩) (fun hHeld => ?_)
                clear hK K
                try simp only [Act.put, List.getElem_toArray, List.getElem_cons_succ, List.getElem_cons_zero, List.setIfInBounds_toArray, List.set_cons_zero, List.set_cons_succ]
                refine wpAnyH_take (i := 14) (v := ?_) rfl (by kernel_rfl) (by kernel_rfl) (by kernel_rfl) (fun _ _ _ h => h) (Or.inl ⟨by kernel_rfl, ?_⟩) (by assumption) ?_
                rotate_left 1
                · intro w9 hSw
                  try dsimp only at hSw
                  go_simp
                  try with_reducible rfl
                try simp only [Act.put, List.getElem_toArray, List.getElem_cons_succ, List.getElem_cons_zero, List.setIfInBounds_toArray, List.set_cons_zero, List.set_cons_succ]
                refine wpAnyH_done (by kernel_rfl) ?_ _
                go_wp2_with fail
                go_meet
                exact ⟨_, _, _, _, _, _, _, _, _, rfl, rfl, BX.out⟩
            · go_simp
              have hb := ba Wsbd (.cells #[.slice none 0 0, .slice none 0 0, .slice none 0 0] 36)
              have HB_sbdm := Lib.hid (bt HB_sbd.out hb)
              have R_sbdm := Lib.hid (R_sbd.out.below hb)
              have V_sbdm := Lib.hid (V_sbd.out.below hb)
              have A_sbdm := Lib.hid (A_sbd.out.below hb)
              have CS_sbdm := Lib.hid (CS_sbd.out.below hb)
              have WB_sbdm := Lib.hid (WB_sbd.out.below hb)
              have WL_sbdm := Lib.hid (WL_sbd.out.below hb)
              have GB_sbdm := Lib.hid (GB_sbd.out.below hb)
              have GL_sbdm := Lib.hid (GL_sbd.out.below hb)
              have LO_sbdm := Lib.hid (LO_sbd.out.below hb)
              have CB_sbdm := Lib.hid (CB_sbd.out.below hb)
              have Z_sbdm := Lib.hid (show B3 (Wsbd.alloc (.cells #[.slice none 0 0, .slice none 0 0, .slice none 0 0] 36)) Wsbd.heap.size (.slice none 0 0) (.slice none 0 0) (.slice none 0 0) from b3_new Wsbd _ _ _ 36)
              have LB := Lib.hid (show u12.heap.size ≤ Wsbd.heap.size from LO_sbd.out.size)
              (first | have LD := Lib.hid OT_sbd.out.le | skip)
              clear hb
              refine hK.out _ _ (show _ from ⟨⟨R_sbdm.out.1, R_sbdm.out.2.1, R_sbdm.out.2.2⟩, ⟨V_sbdm.out.1, V_sbdm.out.2⟩⟩) (fun hHeld => ?_)
              clear hK K
              try simp only [Act.put, List.getElem_toArray, List.getElem_cons_succ, List.getElem_cons_zero, List.setIfInBounds_toArray, List.set_cons_zero, List.set_cons_succ]
              generalize hW9 : Wsbd.alloc (.cells #[.slice none 0 0, .slice none 0 0, .slice none 0 0] 36) = Wsbdm at *
              clear hW9
              refine wpAnyH_ready (rs := [7]) (by kernel_rfl) (by simp) ?_
              refine AllReadyH.cons rfl (fun K hK => ?_) (AllReadyH.nil)
              go_simp
              go_at_call 20
              refine (toI_any CS_sbdm.out (by omega)).mono ?_
              rintro e' Wsbdmh ⟨xcs, rfl, ho, hb⟩
              have HB_sbdmh := Lib.hid (bt HB_sbdm.out hb)
              have R_sbdmh := Lib.hid (R_sbdm.out.below hb)
              have V_sbdmh := Lib.hid (V_sbdm.out.below hb)
              have A_sbdmh := Lib.hid (A_sbdm.out.below hb)
              have CS_sbdmh := Lib.hid (CS_sbdm.out.below hb)
              have WB_sbdmh := Lib.hid (WB_sbdm.out.below hb)
              have WL_sbdmh := Lib.hid (WL_sbdm.out.below hb)
              have GB_sbdmh := Lib.hid (GB_sbdm.out.below hb)
              have GL_sbdmh := Lib.hid (GL_sbdm.out.below hb)
              have LO_sbdmh := Lib.hid (LO_sbdm.out.below hb)
              have CB_sbdmh := Lib.hid (CB_sbdm.out.below hb)
              have Z_sbdmh := Lib.hid (Z_sbdm.out.below hb)
              have CC_sbdmh := Lib.hid (ho.toIn)
              clear ho
              clear hb
              go_wp2_with fail
              refine hK.out _ _ (show _ from ⟨⟨R_sbdmh.out.1, R_sbdmh.out.2.1, R_sbdmh.out.2.2⟩, ⟨V_sbdmh.out.1, V_sbdmh.out.2⟩⟩) (fun hHeld => ?_)
              clear hK K
              try simp only [Act.put, List.getElem_toArray, List.getElem_cons_succ, List.getElem_cons_zero, List.setIfInBounds_toArray, List.set_cons_zero, List.set_cons_succ]
              refine wpAnyH_ready (rs := [8]) (by kernel_rfl) (by simp) ?_
              refine AllReadyH.cons rfl (fun K hK => ?_) (AllReadyH.nil)
              go_simp
              (first | have LQ := Lib.hid Z_sbdmh.out.lt | skip)
              have LQS := Lib.hid LO_sbdmh.out.size
              go_at_call 52
              refine (proveOpening_any P0 Q0 G0 H1 a2 a3 hsl lcs CB_sbdmh.out CC_sbdmh.out).mono ?_
              rw [HV.out, HK.out]
              rintro e' Wsbdmhi ⟨za, zb, zc, rfl, ho, hb⟩
              obtain ⟨za1, za2, zb1, zb2, zc1, zc2, hsh⟩ := inP_shapeQ (OwQ.toIn ho)
              simp only [Value.agg.injEq, Array.mk.injEq, List.cons.injEq, and_true] at hsh
              obtain ⟨rfl, rfl, rfl⟩ := hsh
              have HB_sbdmhi := Lib.hid (bt HB_sbdmh.out hb)
              have R_sbdmhi := Lib.hid (R_sbdmh.out.below hb)
              have V_sbdmhi := Lib.hid (V_sbdmh.out.below hb)
              have A_sbdmhi := Lib.hid (A_sbdmh.out.below hb)
              have CS_sbdmhi := Lib.hid (CS_sbdmh.out.below hb)
              have WB_sbdmhi := Lib.hid (WB_sbdmh.out.below hb)
              have WL_sbdmhi := Lib.hid (WL_sbdmh.out.below hb)
              have GB_sbdmhi := Lib.hid (GB_sbdmh.out.below hb)
              have GL_sbdmhi := Lib.hid (GL_sbdmh.out.below hb)
              have LO_sbdmhi := Lib.hid (LO_sbdmh.out.below hb)
              have CB_sbdmhi := Lib.hid (CB_sbdmh.out.below hb)
              have Z_sbdmhi := Lib.hid (Z_sbdmh.out.below hb)
              have CC_sbdmhi := Lib.hid (CC_sbdmh.out.below hb)
              have OT_sbdmhi := Lib.hid (ho)
              clear ho
              clear hb
              go_wp2_with fail
              refine hK.out _ _ (show _ from ⟨⟨R_sbdmhi.out.1, R_sbdmhi.out.2.1, R_sbdmhi.out.2.2⟩, ⟨V_sbdmhi.out.1, V_sbdmhi.out.2⟩⟩) (fun hHeld => ?_)
              clear hK K
              try simp only [Act.put, List.getElem_toArray, List.getElem_cons_succ, List.getElem_cons_zero, List.setIfInBounds_toArray, List.set_cons_zero, List.set_cons_succ]
              refine wpAnyH_take (i := 9) (v := ?_) rfl (by kernel_rfl) (by kernel_rfl) (by kernel_rfl) (fun _ _ _ h => h) (Or.inl ⟨by kernel_rfl, ?_⟩) (by assumption) ?_
              rotate_left 1
              · intro w9 hSw
                try dsimp only at hSw
                go_simp
                try with_reducible rfl
              try simp only [Act.put, List.getElem_toArray, List.getElem_cons_succ, List.getElem_cons_zero, List.setIfInBounds_toArray, List.set_cons_zero, List.set_cons_succ]
              refine wpAnyH_take (i := 10) (v := ?_) rfl (by kernel_rfl) (by kernel_rfl) (by kernel_rfl) (fun _ _ _ h => h) (Or.inl ⟨by kernel_rfl, ?_⟩) (by assumption) ?_
              rotate_left 1
              · intro w9 hSw
                try dsimp only at hSw
                go_simp
                try with_reducible rfl
              try simp only [Act.put, List.getElem_toArray, List.getElem_cons_succ, List.getElem_cons_zero, List.setIfInBounds_toArray, List.set_cons_zero, List.set_cons_succ]
              refine wpAnyH_take (i := 11) (v := ?_) rfl (by kernel_rfl) (by kernel_rfl) (by kernel_rfl) (fun _ _ _ h => h) (Or.inl ⟨by kernel_rfl, ?_⟩) (by assumption) ?_
              rotate_left 1
              · intro w9 hSw
                try dsimp only at hSw
                go_simp
                try with_reducible rfl
              try simp only [Act.put, List.getElem_toArray, List.getElem_cons_succ, List.getElem_cons_zero, List.setIfInBounds_toArray, List.set_cons_zero, List.set_cons_succ]
              have hm5 := mid3 Wsbdmhi (Wsbd.heap.size) (.slice za1 res.c.length za2) (.slice zb1 res.h.length zb2) (.slice zc1 res.r.length zc2)
              have R_y := Lib.hid (gr_midw R_sbdmhi.out hm5 (.inl (Nat.lt_of_lt_of_le LR9.out LB.out)))
              have V_y := Lib.hid (d2_midw V_sbdmhi.out hm5 (.inl (Nat.lt_of_lt_of_le LV9.out LB.out)))
              have BX : BoxQ u12 (((Wsbdmhi.setCell ⟨Wsbd.heap.size, 0, none⟩ (.slice za1 res.c.length za2)).setCell ⟨Wsbd.heap.size, 1, none⟩ (.slice zb1 res.h.length zb2)).setCell ⟨Wsbd.heap.size, 2, none⟩ (.slice zc1 res.r.length zc2)) (Wsbd.heap.size) _ _ (.slice za1 res.c.length za2) (.slice zb1 res.h.length zb2) (.slice zc1 res.r.length zc2) res := (by first | exact boxQ_mk LO_sbdmhi.out LQS.out LB.out Z_sbdmhi.out OT_sbdmhi.out (.inl LQ.out) | exact boxQ_mk LO_sbdmhi.out LQS.out LB.out Z_sbdmhi.out OT_sbdmhi.out (.inr LD.out))
              have BX := Lib.hid BX
              clear hm5
              refine wpAnyH_ready (rs := [13]) (by kernel_rfl) (by simp) ?_
              refine AllReadyH.cons rfl (fun K hK => ?_) AllReadyH.nil
              obtain ⟨y0, y1, y2, yf⟩ := Z_sbdmhi.out
              have yf0 := yf 0
              have yf1 := yf 1
              have yf2 := yf 2
              clear yf
              go_simp
              refine hK.out _ _ (show _ from ⟨⟨R_y.out.1, R_y.out.2.1, R_y.out.2.2⟩, ⟨V_y.out.1, V_y.out.2⟩⟩) (fun hHeld => ?_)
              clear hK K
              try simp only [Act.put, List.getElem_toArray, List.getElem_cons_succ, List.getElem_cons_zero, List.setIfInBounds_toArray, List.set_cons_zero, List.set_cons_succ]
              refine wpAnyH_take (i := 14) (v := ?_) rfl (by kernel_rfl) (by kernel_rfl) (by kernel_rfl) (fun _ _ _ h => h) (Or.inl ⟨by kernel_rfl, ?_⟩) (by assumption) ?_
              rotate_left 1
              · intro w9 hSw
                try dsimp only at hSw
                go_simp
                try with_reducible rfl
              try simp only [Act.put, List.getElem_toArray, List.getElem_cons_succ, List.getElem_cons_zero, List.setIfInBounds_toArray, List.set_cons_zero, List.set_cons_succ]
              refine wpAnyH_done (by kernel_rfl) ?_ _
              go_wp2_with fail
              go_meet
              exact ⟨_, _, _, _, _, _, _, _, _, rfl, rfl, BX.out⟩
          · go_simp
            have hb := ba Wsb (.cells #[.slice none 0 0, .slice none 0 0, .slice none 0 0] 36)
            have HB_sbm := Lib.hid (bt HB_sb.out hb)
            have R_sbm := Lib.hid (R_sb.out.below hb)
            have V_sbm := Lib.hid (V_sb.out.below hb)
            have A_sbm := Lib.hid (A_sb.out.below hb)
            have CS_sbm := Lib.hid (CS_sb.out.below hb)
            have WB_sbm := Lib.hid (WB_sb.out.below hb)
            have WL_sbm := Lib.hid (WL_sb.out.below hb)
            have GB_sbm := Lib.hid (GB_sb.out.below hb)
            have GL_sbm := Lib.hid (GL_sb.out.below hb)
            have LO_sbm := Lib.hid (LO_sb.out.below hb)
            have Z_sbm := Lib.hid (show B3 (Wsb.alloc (.cells #[.slice none 0 0, .slice none 0 0, .slice none 0 0] 36)) Wsb.heap.size (.slice none 0 0) (.slice none 0 0) (.slice none 0 0) from b3_new Wsb _ _ _ 36)
            have LB := Lib.hid (show u12.heap.size ≤ Wsb.heap.size from LO_sb.out.size)
            (first | have LD := Lib.hid OT_sb.out.le | skip)
            clear hb
            refine hK.out _ _ (show _ from ⟨⟨R_sbm.out.1, R_sbm.out.2.1, R_sbm.out.2.2⟩, ⟨V_sbm.out.1, V_sbm.out.2⟩⟩) (fun hHeld => ?_)
            clear hK K
            try simp only [Act.put, List.getElem_toArray, List.getElem_cons_succ, List.getElem_cons_zero, List.setIfInBounds_toArray, List.set_cons_zero, List.set_cons_succ]
            generalize hW9 : Wsb.alloc (.cells #[.slice none 0 0, .slice none 0 0, .slice none 0 0] 36) = Wsbm at *
            clear hW9
            refine wpAnyH_ready (rs := [3]) (by kernel_rfl) (by simp) ?_
            refine AllReadyH.cons rfl (fun K hK => ?_) (AllReadyH.nil)
            go_simp
            go_at_call 51
            refine (toBas_any A_sbm.out (by omega)).mono ?_
            rintro e' Wsbmd ⟨yw, rfl, ho, hb⟩
            have HB_sbmd := Lib.hid (bt HB_sbm.out hb)
            have R_sbmd := Lib.hid (R_sbm.out.below hb)
            have V_sbmd := Lib.hid (V_sbm.out.below hb)
            have A_sbmd := Lib.hid (A_sbm.out.below hb)
            have CS_sbmd := Lib.hid (CS_sbm.out.below hb)
            have WB_sbmd := Lib.hid (WB_sbm.out.below hb)
            have WL_sbmd := Lib.hid (WL_sbm.out.below hb)
            have GB_sbmd := Lib.hid (GB_sbm.out.below hb)
            have GL_sbmd := Lib.hid (GL_sbm.out.below hb)
            have LO_sbmd := Lib.hid (LO_sbm.out.below hb)
            have Z_sbmd := Lib.hid (Z_sbm.out.below hb)
            have CB_sbmd := Lib.hid (ho.toIn)
            clear ho
            clear hb
            go_wp2_with fail
            refine hK.out _ _ (show _ from ⟨⟨R_sbmd.out.1, R_sbmd.out.2.1, R_sbmd.out.2.2⟩, ⟨V_sbmd.out.1, V_sbmd.out.2⟩⟩) (fun hHeld => ?_)
            clear hK K
            try simp only [Act.put, List.getElem_toArray, List.getElem_cons_succ, List.getElem_cons_zero, List.setIfInBounds_toArray, List.set_cons_zero, List.set_cons_succ]
            refine wpAnyH_ready (rs := [7]) (by kernel_rfl) (by simp) ?_
            refine AllReadyH.cons rfl (fun K hK => ?_) (AllReadyH.nil)
            go_simp
            go_at_call 20
            refine (toI_any CS_sbmd.out (by omega)).mono ?_
            rintro e' Wsbmdh ⟨xcs, rfl, ho, hb⟩
            have HB_sbmdh := Lib.hid (bt HB_sbmd.out hb)
            have R_sbmdh := Lib.hid (R_sbmd.out.below hb)
            have V_sbmdh := Lib.hid (V_sbmd.out.below hb)
            have A_sbmdh := Lib.hid (A_sbmd.out.below hb)
            have CS_sbmdh := Lib.hid (CS_sbmd.out.below hb)
            have WB_sbmdh := Lib.hid (WB_sbmd.out.below hb)
            have WL_sbmdh := Lib.hid (WL_sbmd.out.below hb)
            have GB_sbmdh := Lib.hid (GB_sbmd.out.below hb)
            have GL_sbmdh := Lib.hid (GL_sbmd.out.below hb)
            have LO_sbmdh := Lib.hid (LO_sbmd.out.below hb)
            have Z_sbmdh := Lib.hid (Z_sbmd.out.below hb)
            have CB_sbmdh := Lib.hid (CB_sbmd.out.below hb)
            have CC_sbmdh := Lib.hid (ho.toIn)
            clear ho
            clear hb
            go_wp2_with fail
            refine hK.out _ _ (show _ from ⟨⟨R_sbmdh.out.1, R_sbmdh.out.2.1, R_sbmdh.out.2.2⟩, ⟨V_sbmdh.out.1, V_sbmdh.out.2⟩⟩) (fun hHeld => ?_)
            clear hK K
            try simp only [Act.put, List.getElem_toArray, List.getElem_cons_succ, List.getElem_cons_zero, List.setIfInBounds_toArray, List.set_cons_zero, List.set_cons_succ]
            refine wpAnyH_ready (rs := [8]) (by kernel_rfl) (by simp) ?_
            refine AllReadyH.cons rfl (fun K hK => ?_) (AllReadyH.nil)
            go_simp
            (first | have LQ := Lib.hid Z_sbmdh.out.lt | skip)
            have LQS := Lib.hid LO_sbmdh.out.size
            go_at_call 52
            refine (proveOpening_any P0 Q0 G0 H1 a2 a3 hsl lcs CB_sbmdh.out CC_sbmdh.out).mono ?_
            rw [HV.out, HK.out]
            rintro e' Wsbmdhi ⟨za, zb, zc, rfl, ho, hb⟩
            obtain ⟨za1, za2, zb1, zb2, zc1, zc2, hsh⟩ := inP_shapeQ (OwQ.toIn ho)
            simp only [Value.agg.injEq, Array.mk.injEq, List.cons.injEq, and_true] at hsh
            obtain ⟨rfl, rfl, rfl⟩ := hsh
            have HB_sbmdhi := Lib.hid (bt HB_sbmdh.out hb)
            have R_sbmdhi := Lib.hid (R_sbmdh.out.below hb)
            have V_sbmdhi := Lib.hid (V_sbmdh.out.below hb)
            have A_sbmdhi := Lib.hid (A_sbmdh.out.below hb)
            have CS_sbmdhi := Lib.hid (CS_sbmdh.out.below hb)
            have WB_sbmdhi := Lib.hid (WB_sbmdh.out.below hb)
            have WL_sbmdhi := Lib.hid (WL_sbmdh.out.below hb)
            have GB_sbmdhi := Lib.hid (GB_sbmdh.out.below hb)
            have GL_sbmdhi := Lib.hid (GL_sbmdh.out.below hb)
            have LO_sbmdhi := Lib.hid (LO_sbmdh.out.below hb)
            have Z_sbmdhi := Lib.hid (Z_sbmdh.out.below hb)
            have CB_sbmdhi := Lib.hid (CB_sbmdh.out.below hb)
            have CC_sbmdhi := Lib.hid (CC_sbmdh.out.below hb)
            have OT_sbmdhi := Lib.hid (ho)
            clear ho
            clear hb
            go_wp2_with fail
            refine hK.out _ _ (show _ from ⟨⟨R_sbmdhi.out.1, R_sbmdhi.out.2.1, R_sbmdhi.out.2.2⟩, ⟨V_sbmdhi.out.1, V_sbmdhi.out.2⟩⟩) (fun hHeld => ?_)
            clear hK K
            try simp only [Act.put, List.getElem_toArray, List.getElem_cons_succ, List.getElem_cons_zero, List.setIfInBounds_toArray, List.set_cons_zero, List.set_cons_succ]
            refine wpAnyH_take (i := 9) (v := ?_) rfl (by kernel_rfl) (by kernel_rfl) (by kernel_rfl) (fun _ _ _ h => h) (Or.inl ⟨by kernel_rfl, ?_⟩) (by assumption) ?_
            rotate_left 1
            · intro w9 hSw
              try dsimp only at hSw
              go_simp
              try with_reducible rfl
            try simp only [Act.put, List.getElem_toArray, List.getElem_cons_succ, List.getElem_cons_zero, List.setIfInBounds_toArray, List.set_cons_zero, List.set_cons_succ]
            refine wpAnyH_take (i := 10) (v := ?_) rfl (by kernel_rfl) (by kernel_rfl) (by kernel_rfl) (fun _ _ _ h => h) (Or.inl ⟨by kernel_rfl, ?_⟩) (by assumption) ?_
            rotate_left 1
            · intro w9 hSw
              try dsimp only at hSw
              go_simp
              try with_reducible rfl
            try simp only [Act.put, List.getElem_toArray, List.getElem_cons_succ, List.getElem_cons_zero, List.setIfInBounds_toArray, List.set_cons_zero, List.set_cons_succ]
            refine wpAnyH_take (i := 11) (v := ?_) rfl (by kernel_rfl) (by kernel_rfl) (by kernel_rfl) (fun _ _ _ h => h) (Or.inl ⟨by kernel_rfl, ?_⟩) (by assumption) ?_
            rotate_left 1
            · intro w9 hSw
              try dsimp only at hSw
              go_simp
              try with_reducible rfl
            try simp only [Act.put, List.getElem_toArray, List.getElem_cons_succ, List.getElem_cons_zero, List.setIfInBounds_toArray, List.set_cons_zero, List.set_cons_succ]
            have hm5 := mid3 Wsbmdhi (Wsb.heap.size) (.slice za1 res.c.length za2) (.slice zb1 res.h.length zb2) (.slice zc1 res.r.length zc2)
            have R_y := Lib.hid (gr_midw R_sbmdhi.out hm5 (.inl (Nat.lt_of_lt_of_le LR9.out LB.out)))
            have V_y := Lib.hid (d2_midw V_sbmdhi.out hm5 (.inl (Nat.lt_of_lt_of_le LV9.out LB.out)))
            have BX : BoxQ u12 (((Wsbmdhi.setCell ⟨Wsb.heap.size, 0, none⟩ (.slice za1 res.c.length za2)).setCell ⟨Wsb.heap.size, 1, none⟩ (.slice zb1 res.h.length zb2)).setCell ⟨Wsb.heap.size, 2, none⟩ (.slice zc1 res.r.length zc2)) (Wsb.heap.size) _ _ (.slice za1 res.c.length za2) (.slice zb1 res.h.length zb2) (.slice zc1 res.r.length zc2) res := (by first | exact boxQ_mk LO_sbmdhi.out LQS.out LB.out Z_sbmdhi.out OT_sbmdhi.out (.inl LQ.out) | exact boxQ_mk LO_sbmdhi.out LQS.out LB.out Z_sbmdhi.out OT_sbmdhi.out (.inr LD.out))
            have BX := Lib.hid BX
            clear hm5
            refine wpAnyH_ready (rs := [13]) (by kernel_rfl) (by simp) ?_
            refine AllReadyH.cons rfl (fun K hK => ?_) AllReadyH.nil
            obtain ⟨y0, y1, y2, yf⟩ := Z_sbmdhi.out
            have yf0 := yf 0
            have yf1 := yf 1
            have yf2 := yf 2
            clear yf
            go_simp
            refine hK.out _ _ (show _ from ⟨⟨R_y.out.1, R_y.out.2.1, R_y.out.2.2⟩, ⟨V_y.out.1, V_y.out.2⟩⟩) (fun hHeld => ?_)
            clear hK K
            try simp only [Act.put, List.getElem_toArray, List.getElem_cons_succ, List.getElem_cons_zero, List.setIfInBounds_toArray, List.set_cons_zero, List.set_cons_succ]
            refine wpAnyH_take (i := 14) (v := ?_) rfl (by kernel_rfl) (by kernel_rfl) (by kernel_rfl) (fun _ _ _ h => h) (Or.inl ⟨by kernel_rfl, ?_⟩) (by assumption) ?_
            rotate_left 1
            · intro w9 hSw
              try dsimp only at hSw
              go_simp
              try with_reducible rfl
            try simp only [Act.put, List.getElem_toArray, List.getElem_cons_succ, List.getElem_cons_zero, List.setIfInBounds_toArray, List.set_cons_zero, List.set_cons_succ]
            refine wpAnyH_done (by kernel_rfl) ?_ _
            go_wp2_with fail
            go_meet
            exact ⟨_, _, _, _, _, _, _, _, _, rfl, rfl, BX.out⟩
        · go_simp
          have hb := ba Ws (.cells #[.slice none 0 0, .slice none 0 0, .slice none 0 0] 36)
          have HB_sm := Lib.hid (bt HB_s.out hb)
          have R_sm := Lib.hid (R_s.out.below hb)
          have V_sm := Lib.hid (V_s.out.below hb)
          have A_sm := Lib.hid (A_s.out.below hb)
          have CS_sm := Lib.hid (CS_s.out.below hb)
          have WB_sm := Lib.hid (WB_s.out.below hb)
          have WL_sm := Lib.hid (WL_s.out.below hb)
          have GB_sm := Lib.hid (GB_s.out.below hb)
          have GL_sm := Lib.hid (GL_s.out.below hb)
          have LO_sm := Lib.hid (LO_s.out.below hb)
          have Z_sm := Lib.hid (show B3 (Ws.alloc (.cells #[.slice none 0 0, .slice none 0 0, .slice none 0 0] 36)) Ws.heap.size (.slice none 0 0) (.slice none 0 0) (.slice none 0 0) from b3_new Ws _ _ _ 36)
          have LB := Lib.hid (show u12.heap.size ≤ Ws.heap.size from LO_s.out.size)
          (first | have LD := Lib.hid OT_s.out.le | skip)
          clear hb
          refine hK.out _ _ (show _ from ⟨⟨R_sm.out.1, R_sm.out.2.1, R_sm.out.2.2⟩, ⟨V_sm.out.1, V_sm.out.2⟩⟩) (fun hHeld => ?_)
          clear hK K
          try simp only [Act.put, List.getElem_toArray, List.getElem_cons_succ, List.getElem_cons_zero, List.setIfInBounds_toArray, List.set_cons_zero, List.set_cons_succ]
          generalize hW9 : Ws.alloc (.cells #[.slice none 0 0, .slice none 0 0, .slice none 0 0] 36) = Wsm at *
          clear hW9
          refine wpAnyH_ready (rs := [1]) (by kernel_rfl) (by simp) ?_
          refine AllReadyH.cons rfl (fun K hK => ?_) (AllReadyH.nil)
          go_simp
          go_at_call 18
          refine (toGroup_any _ _ _ _).mono ?_
          rintro e' Wsmb ⟨rfl, hb⟩
          have HB_smb := Lib.hid (bt HB_sm.out hb)
          have R_smb := Lib.hid (R_sm.out.below hb)
          have V_smb := Lib.hid (V_sm.out.below hb)
          have A_smb := Lib.hid (A_sm.out.below hb)
          have CS_smb := Lib.hid (CS_sm.out.below hb)
          have WB_smb := Lib.hid (WB_sm.out.below hb)
          have WL_smb := Lib.hid (WL_sm.out.below hb)
          have GB_smb := Lib.hid (GB_sm.out.below hb)
          have GL_smb := Lib.hid (GL_sm.out.below hb)
          have LO_smb := Lib.hid (LO_sm.out.below hb)
          have Z_smb := Lib.hid (Z_sm.out.below hb)
          clear hb
          go_wp2_with fail
          refine hK.out _ _ (show _ from ⟨⟨R_smb.out.1, R_smb.out.2.1, R_smb.out.2.2⟩, ⟨V_smb.out.1, V_smb.out.2⟩⟩) (fun hHeld => ?_)
          clear hK K
          try simp only [Act.put, List.getElem_toArray, List.getElem_cons_succ, List.getElem_cons_zero, List.setIfInBounds_toArray, List.set_cons_zero, List.set_cons_succ]
          refine wpAnyH_ready (rs := [3]) (by kernel_rfl) (by simp) ?_
          refine AllReadyH.cons rfl (fun K hK => ?_) (AllReadyH.nil)
          go_simp
          go_at_call 51
          refine (toBas_any A_smb.out (by omega)).mono ?_
          rintro e' Wsmbd ⟨yw, rfl, ho, hb⟩
          have HB_smbd := Lib.hid (bt HB_smb.out hb)
          have R_smbd := Lib.hid (R_smb.out.below hb)
          have V_smbd := Lib.hid (V_smb.out.below hb)
          have A_smbd := Lib.hid (A_smb.out.below hb)
          have CS_smbd := Lib.hid (CS_smb.out.below hb)
          have WB_smbd := Lib.hid (WB_smb.out.below hb)
          have WL_smbd := Lib.hid (WL_smb.out.below hb)
          have GB_smbd := Lib.hid (GB_smb.out.below hb)
          have GL_smbd := Lib.hid (GL_smb.out.below hb)
          have LO_smbd := Lib.hid (LO_smb.out.below hb)
          have Z_smbd := Lib.hid (Z_smb.out.below hb)
          have CB_smbd := Lib.hid (ho.toIn)
          clear ho
          clear hb
          go_wp2_with fail
          refine hK.out _ _ (show _ from ⟨⟨R_smbd.out.1, R_smbd.out.2.1, R_smbd.out.2.2⟩, ⟨V_smbd.out.1, V_smbd.out.2⟩⟩) (fun hHeld => ?_)
          clear hK K
          try simp only [Act.put, List.getElem_toArray, List.getElem_cons_succ, List.getElem_cons_zero, List.setIfInBounds_toArray, List.set_cons_zero, List.set_cons_succ]
          refine wpAnyH_ready (rs := [7]) (by kernel_rfl) (by simp) ?_
          refine AllReadyH.cons rfl (fun K hK => ?_) (AllReadyH.nil)
          go_simp
          go_at_call 20
          refine (toI_any CS_smbd.out (by omega)).mono ?_
          rintro e' Wsmbdh ⟨xcs, rfl, ho, hb⟩
          have HB_smbdh := Lib.hid (bt HB_smbd.out hb)
          have R_smbdh := Lib.hid (R_smbd.out.below hb)
          have V_smbdh := Lib.hid (V_smbd.out.below hb)
          have A_smbdh := Lib.hid (A_smbd.out.below hb)
          have CS_smbdh := Lib.hid (CS_smbd.out.below hb)
          have WB_smbdh := Lib.hid (WB_smbd.out.below hb)
          have WL_smbdh := Lib.hid (WL_smbd.out.below hb)
          have GB_smbdh := Lib.hid (GB_smbd.out.below hb)
          have GL_smbdh := Lib.hid (GL_smbd.out.below hb)
          have LO_smbdh := Lib.hid (LO_smbd.out.below hb)
          have Z_smbdh := Lib.hid (Z_smbd.out.below hb)
          have CB_smbdh := Lib.hid (CB_smbd.out.below hb)
          have CC_smbdh := Lib.hid (ho.toIn)
          clear ho
          clear hb
          go_wp2_with fail
          refine hK.out _ _ (show _ from ⟨⟨R_smbdh.out.1, R_smbdh.out.2.1, R_smbdh.out.2.2⟩, ⟨V_smbdh.out.1, V_smbdh.out.2⟩⟩) (fun hHeld => ?_)
          clear hK K
          try simp only [Act.put, List.getElem_toArray, List.getElem_cons_succ, List.getElem_cons_zero, List.setIfInBounds_toArray, List.set_cons_zero, List.set_cons_succ]
          refine wpAnyH_ready (rs := [8]) (by kernel_rfl) (by simp) ?_
          refine AllReadyH.cons rfl (fun K hK => ?_) (AllReadyH.nil)
          go_simp
          (first | have LQ := Lib.hid Z_smbdh.out.lt | skip)
          have LQS := Lib.hid LO_smbdh.out.size
          go_at_call 52
          refine (proveOpening_any P0 Q0 G0 H1 a2 a3 hsl lcs CB_smbdh.out CC_smbdh.out).mono ?_
          rw [HV.out, HK.out]
          rintro e' Wsmbdhi ⟨za, zb, zc, rfl, ho, hb⟩
          obtain ⟨za1, za2, zb1, zb2, zc1, zc2, hsh⟩ := inP_shapeQ (OwQ.toIn ho)
          simp only [Value.agg.injEq, Array.mk.injEq, List.cons.injEq, and_true] at hsh
          obtain ⟨rfl, rfl, rfl⟩ := hsh
          have HB_smbdhi := Lib.hid (bt HB_smbdh.out hb)
          have R_smbdhi := Lib.hid (R_smbdh.out.below hb)
          have V_smbdhi := Lib.hid (V_smbdh.out.below hb)
          have A_smbdhi := Lib.hid (A_smbdh.out.below hb)
          have CS_smbdhi := Lib.hid (CS_smbdh.out.below hb)
          have WB_smbdhi := Lib.hid (WB_smbdh.out.below hb)
          have WL_smbdhi := Lib.hid (WL_smbdh.out.below hb)
          have GB_smbdhi := Lib.hid (GB_smbdh.out.below hb)
          have GL_smbdhi := Lib.hid (GL_smbdh.out.below hb)
          have LO_smbdhi := Lib.hid (LO_smbdh.out.below hb)
          have Z_smbdhi := Lib.hid (Z_smbdh.out.below hb)
          have CB_smbdhi := Lib.hid (CB_smbdh.out.below hb)
          have CC_smbdhi := Lib.hid (CC_smbdh.out.below hb)
          have OT_smbdhi := Lib.hid (ho)
          clear ho
          clear hb
          go_wp2_with fail
          refine hK.out _ _ (show _ from ⟨⟨R_smbdhi.out.1, R_smbdhi.out.2.1, R_smbdhi.out.2.2⟩, ⟨V_smbdhi.out.1, V_smbdhi.out.2⟩⟩) (fun hHeld => ?_)
          clear hK K
          try simp only [Act.put, List.getElem_toArray, List.getElem_cons_succ, List.getElem_cons_zero, List.setIfInBounds_toArray, List.set_cons_zero, List.set_cons_succ]
          refine wpAnyH_take (i := 9) (v := ?_) rfl (by kernel_rfl) (by kernel_rfl) (by kernel_rfl) (fun _ _ _ h => h) (Or.inl ⟨by kernel_rfl, ?_⟩) (by assumption) ?_
          rotate_left 1
          · intro w9 hSw
            try dsimp only at hSw
            go_simp
            try with_reducible rfl
          try simp only [Act.put, List.getElem_toArray, List.getElem_cons_succ, List.getElem_cons_zero, List.setIfInBounds_toArray, List.set_cons_zero, List.set_cons_succ]
          refine wpAnyH_take (i := 10) (v := ?_) rfl (by kernel_rfl) (by kernel_rfl) (by kernel_rfl) (fun _ _ _ h => h) (Or.inl ⟨by kernel_rfl, ?_⟩) (by assumption) ?_
          rotate_left 1
          · intro w9 hSw
            try dsimp only at hSw
            go_simp
            try with_reducible rfl
          try simp only [Act.put, List.getElem_toArray, List.getElem_cons_succ, List.getElem_cons_zero, List.setIfInBounds_toArray, List.set_cons_zero, List.set_cons_succ]
          refine wpAnyH_take (i := 11) (v := ?_) rfl (by kernel_rfl) (by kernel_rfl) (by kernel_rfl) (fun _ _ _ h => h) (Or.inl ⟨by kernel_rfl, ?_⟩) (by assumption) ?_
          rotate_left 1
          · intro w9 hSw
            try dsimp only at hSw
            go_simp
            try with_reducible rfl
          try simp only [Act.put, List.getElem_toArray, List.getElem_cons_succ, List.getElem_cons_zero, List.setIfInBounds_toArray, List.set_cons_zero, List.set_cons_succ]
          have hm5 := mid3 Wsmbdhi (Ws.heap.size) (.slice za1 res.c.length za2) (.slice zb1 res.h.length zb2) (.slice zc1 res.r.length zc2)
          have R_y := Lib.hid (gr_midw R_smbdhi.out hm5 (.inl (Nat.lt_of_lt_of_le LR9.out LB.out)))
          have V_y := Lib.hid (d2_midw V_smbdhi.out hm5 (.inl (Nat.lt_of_lt_of_le LV9.out LB.out)))
          have BX : BoxQ u12 (((Wsmbdhi.setCell ⟨Ws.heap.size, 0, none⟩ (.slice za1 res.c.length za2)).setCell ⟨Ws.heap.size, 1, none⟩ (.slice zb1 res.h.length zb2)).setCell ⟨Ws.heap.size, 2, none⟩ (.slice zc1 res.r.length zc2)) (Ws.heap.size) _ _ (.slice za1 res.c.length za2) (.slice zb1 res.h.length zb2) (.slice zc1 res.r.length zc2) res := (by first | exact boxQ_mk LO_smbdhi.out LQS.out LB.out Z_smbdhi.out OT_smbdhi.out (.inl LQ.out) | exact boxQ_mk LO_smbdhi.out LQS.out LB.out Z_smbdhi.out OT_smbdhi.out (.inr LD.out))
          have BX := Lib.hid BX
          clear hm5
          refine wpAnyH_ready (rs := [13]) (by kernel_rfl) (by simp) ?_
          refine AllReadyH.cons rfl (fun K hK => ?_) AllReadyH.nil
          obtain ⟨y0, y1, y2, yf⟩ := Z_smbdhi.out
          have yf0 := yf 0
          have yf1 := yf 1
          have yf2 := yf 2
          clear yf
          go_simp
          refine hK.out _ _ (show _ from ⟨⟨R_y.out.1, R_y.out.2.1, R_y.out.2.2⟩, ⟨V_y.out.1, V_y.out.2⟩⟩) (fun hHeld => ?_)
          clear hK K
          try simp only [Act.put, List.getElem_toArray, List.getElem_cons_succ, List.getElem_cons_zero, List.setIfInBounds_toArray, List.set_cons_zero, List.set_cons_succ]
          refine wpAnyH_take (i := 14) (v := ?_) rfl (by kernel_rfl) (by kernel_rfl) (by kernel_rfl) (fun _ _ _ h => h) (Or.inl ⟨by kernel_rfl, ?_⟩) (by assumption) ?_
          rotate_left 1
          · intro w9 hSw
            try dsimp only at hSw
            go_simp
            try with_reducible rfl
          try simp only [Act.put, List.getElem_toArray, List.getElem_cons_succ, List.getElem_cons_zero, List.setIfInBounds_toArray, List.set_cons_zero, List.set_cons_succ]
          refine wpAnyH_done (by kernel_rfl) ?_ _
          go_wp2_with fail
          go_meet
          exact ⟨_, _, _, _, _, _, _, _, _, rfl, rfl, BX.out⟩
      case rest =>
        obtain ⟨b3, q3, P3, h1_, h2_, h3_, h4_, h5_, h6_, rfl, rfl, hbx⟩ := hcut
        obtain ⟨hY, hO, _, _, hb, _⟩ := hbx
        have HB_15 := Lib.hid (bt HB_14.out hb)
        have R_15 := Lib.hid (R_14.out.below hb)
        have V_15 := Lib.hid (V_14.out.below hb)
        have A_15 := Lib.hid (A_14.out.below hb)
        have CS_15 := Lib.hid (CS_14.out.below hb)
        have WB_15 := Lib.hid (WB_14.out.below hb)
        have WL_15 := Lib.hid (WL_14.out.below hb)
        have GB_15 := Lib.hid (GB_14.out.below hb)
        have GL_15 := Lib.hid (GL_14.out.below hb)
        have HX_15 := Lib.hid (hY)
        have HL_15 := Lib.hid (hO.toIn)
        clear hb HB_14 R_14 V_14 A_14 CS_14 WB_14 WL_14 GB_14 GL_14
        clear hY hO
        obtain ⟨hx0, hx1, hx2, _⟩ := HX_15.out
        obtain ⟨wb0, wb1, wb2, _⟩ := WB_15.out
        go_wp2_with fail
        refine (eqP_any HL_15.out WL_15.out (by omega)).mono ?_
        rintro e u13 ⟨rfl, hb⟩
        have HB_16 := Lib.hid (bt HB_15.out hb)
        have R_16 := Lib.hid (R_15.out.below hb)
        have V_16 := Lib.hid (V_15.out.below hb)
        have A_16 := Lib.hid (A_15.out.below hb)
        have CS_16 := Lib.hid (CS_15.out.below hb)
        have WB_16 := Lib.hid (WB_15.out.below hb)
        have WL_16 := Lib.hid (WL_15.out.below hb)
        have GB_16 := Lib.hid (GB_15.out.below hb)
        have GL_16 := Lib.hid (GL_15.out.below hb)
        have HX_16 := Lib.hid (HX_15.out.below hb)
        have HL_16 := Lib.hid (HL_15.out.below hb)
        clear hb HB_15 R_15 V_15 A_15 CS_15 WB_15 WL_15 GB_15 GL_15 HX_15 HL_15
        clear hx0 hx1 hx2
        clear wb0 wb1 wb2
        obtain ⟨gb0, gb1, gb2, _⟩ := GB_16.out
        go_wp2_with fail
        refine (heldP_any GL_16.out (by omega) (by omega) (by omega)).mono ?_
        rintro e u14 ⟨rfl, hb⟩
        have HB_17 := Lib.hid (bt HB_16.out hb)
        have R_17 := Lib.hid (R_16.out.below hb)
        have V_17 := Lib.hid (V_16.out.below hb)
        have A_17 := Lib.hid (A_16.out.below hb)
        have CS_17 := Lib.hid (CS_16.out.below hb)
        have WB_17 := Lib.hid (WB_16.out.below hb)
        have WL_17 := Lib.hid (WL_16.out.below hb)
        have GB_17 := Lib.hid (GB_16.out.below hb)
        have GL_17 := Lib.hid (GL_16.out.below hb)
        have HX_17 := Lib.hid (HX_16.out.below hb)
        have HL_17 := Lib.hid (HL_16.out.below hb)
        clear hb HB_16 R_16 V_16 A_16 CS_16 WB_16 WL_16 GB_16 GL_16 HX_16 HL_16
        clear gb0 gb1 gb2
        go_wp2
        go_ret
        exact ⟨rfl, HB_17.out⟩

/-! ### The row's step -/
set_option maxRecDepth 100000 in
theorem lifted (os : Os) (started : os.Started) (H : Type) (enc : TypeId × Value → H) :
    ReturnsInHanded {} Try.checked os 11 .any (Rows.fnExactProveOpeningSpec.pre6 enc Try.prog Try.f11 Rows.fnExactProveOpeningRow.domain false) (Rows.fnExactProveOpeningSpec.post enc Try.prog Try.f11 false true false false) := by
  refine returnsInHanded_of_change (C := Try.checked) own started (by kernel_rfl) Try.func11
    (ChangeSpec.witness6 (enc := enc) (C := Try.checked) false ⟨#[], #[.agg #[.int .i64 0, .int .i64 0, .int .i64 0], .agg #[.int .i64 0, .slice none 0 0], .int .i64 0, .int .i64 0, .slice none 0 0], []⟩ 8 (by kernel_rfl) (by kernel_rfl) (by kernel_rfl) (by kernel_rfl)) ?_
  intro W base args ds gs before hval0 hW hcnd _
  have hval : ∀ (j : Nat) t v, Try.f11.params[j]? = some t → args[j]? = some v → Value.okWide Try.prog W .any base t v := hval0
  have hW' := hW
  obtain ⟨p, q, hA0, hV, rfl, hfz, hnd⟩ := hW
  have hA : DataW.TrodAll enc Try.prog W 0 (fun _ => true) true Try.f11.params.toList args.toList ds p := hA0
  rw [Try.params11] at hA hval
  obtain ⟨v0, vs0, d0, ds0, p0, q0, hargs, rfl, rfl, h0, r0⟩ := trodAll_cons hA
  obtain ⟨v1, vs1, d1, ds1, p1, q1, rfl, rfl, rfl, h1, r1⟩ := trodAll_cons r0
  obtain ⟨v2, vs2, d2, ds2, p2, q2, rfl, rfl, rfl, h2, r2⟩ := trodAll_cons r1
  obtain ⟨v3, vs3, d3, ds3, p3, q3, rfl, rfl, rfl, h3, r3⟩ := trodAll_cons r2
  obtain ⟨v4, vs4, d4, ds4, p4, q4, rfl, rfl, rfl, h4, r4⟩ := trodAll_cons r3
  obtain ⟨rfl, rfl, rfl⟩ := trodAll_nil r4
  obtain rfl : args = #[v0, v1, v2, v3, v4] := by cases args; simp_all
  obtain ⟨rfl, rfl⟩ := trodVars_none hV
  have k0 := h0
  have lt0 : ∀ x ∈ p0, x.block < W.heap.size := by obtain ⟨m, hm⟩ := k0; exact DataW.trod_lt m _ _ _ hm
  obtain ⟨c0_0, c0_1, c0_2, y0_0, y0_1, y0_2, m0, rfl, rfl, rfl, hy0_0, hy0_1, hy0_2⟩ := open_agg3 Try.underlying23 (by kernel_rfl) (by kernel_rfl) (hval 0 23 v0 rfl rfl) h0
  obtain ⟨P0, e0_0, _, wP0⟩ := DataW.trod_int Try.underlying3 hy0_0
  obtain rfl := (List.cons.inj e0_0).1
  obtain ⟨Q0, e0_1, _, wQ0⟩ := DataW.trod_int Try.underlying3 hy0_1
  obtain rfl := (List.cons.inj e0_1).1
  obtain ⟨G0, e0_2, _, wG0⟩ := DataW.trod_int Try.underlying3 hy0_2
  obtain rfl := (List.cons.inj e0_2).1
  have k1 := h1
  have lt1 : ∀ x ∈ p1, x.block < W.heap.size := by obtain ⟨m, hm⟩ := k1; exact DataW.trod_lt m _ _ _ hm
  obtain ⟨H1, y1, hs1, rfl, bl1, bm1⟩ := inBas_open (hval 1 70 v1 rfl rfl) h1
  obtain ⟨a2, rfl, rfl, rfl, w2⟩ := open_int Try.underlying3 (hval 2 3 v2 rfl rfl) h2
  obtain ⟨a3, rfl, rfl, rfl, w3⟩ := open_int Try.underlying3 (hval 3 3 v3 rfl rfl) h3
  have k4 := h4
  have lt4 : ∀ x ∈ p4, x.block < W.heap.size := by obtain ⟨m, hm⟩ := k4; exact DataW.trod_lt m _ _ _ hm
  obtain ⟨a4, len4, cap4, rfl⟩ := okWide_slice Try.underlying25 (hval 4 25 v4 rfl rfl)
  obtain ⟨z4, w4⟩ : ∃ zs, IsRow .i64 W a4 len4 cap4 zs := by
    obtain ⟨fuel, hf⟩ := h4
    rcases open_ints Try.underlying25 Try.underlying3 (by kernel_rfl) hf with ⟨hcs, _⟩ | ⟨x, l, c, zs, hcs, _, hl, hm, hz, _, hcell, hwz⟩
    · simp [Value.cells] at hcs
      obtain ⟨rfl, rfl, rfl⟩ := hcs
      exact ⟨[], .inl ⟨rfl, rfl, rfl, rfl⟩⟩
    · simp [Value.cells] at hcs
      obtain ⟨rfl, rfl, rfl⟩ := hcs
      exact ⟨zs, .inr ⟨_, rfl, hl, hm, by simpa using hz, hcell, hwz⟩⟩
  clear hA0 hval0
  refine (walk P0 Q0 G0 H1 y1 a2 a3 a4 len4 cap4 z4 W wP0 wQ0 wG0 ⟨hs1, bl1, bm1⟩ w2 w3 w4).mono fun e W' ⟨he, bel⟩ => ?_
  subst he
  exact ⟨_, rfl, _, _, _, [], _, [], hW', trodAll_mk1 (shut_bool Try.underlying4 _), (trodAll_cons_mk (Below.trod laidOut (by kernel_rfl) (of_decide_eq_true (by kernel_rfl)) k0 bel lt0) (trodAll_cons_mk (Below.trod laidOut (by kernel_rfl) (of_decide_eq_true (by kernel_rfl)) k1 bel lt1) (trodAll_cons_mk (shut_int Try.underlying3 w2) (trodAll_cons_mk (shut_int Try.underlying3 w3) (trodAll_cons_mk (Below.trod laidOut (by kernel_rfl) (of_decide_eq_true (by kernel_rfl)) k4 bel lt4) trodAll_mk0))))), rfl, bel.frame _, fun h => by cases h⟩

theorem over : Rows.fnExactProveOpeningRow.holds Try.pinned (OpenSpec.ofChange Rows.fnExactProveOpeningSpec) :=
  OpenClaim.holds_of_wide 11 Try.f11 rfl rfl rfl rfl rfl rfl rfl ⟨rfl, rfl, rfl, rfl, rfl⟩ rfl rfl rfl rfl rfl (by kernel_rfl) Try.func11
    (show joinedFacts Try.prog 11 Try.f11 Rows.fnExactProveOpeningSpec Rows.fnExactProveOpeningRow = true by unfold joinedFacts; rw [Head.make, Head.lifts, Head.enters]; kernel_rfl)
    (of_decide_eq_true (by kernel_rfl)) (by unfold Func.isWrapper; first | (rw [if_pos (by decide +kernel)]; kernel_rfl) | (rw [if_neg (by decide +kernel)]; exact ⟨rfl, rfl⟩))
    (fun os started H enc _ => lifted os started H enc)

/-- The statement. -/
theorem proved : Rows.FnExactProveOpeningSaid := over
#print axioms proved
end Go.Proofs.Ytlgdcfficemebaa.fnExactProveOpening
