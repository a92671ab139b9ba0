/-
For every group, all bases, lists of integers and coins the law FnExactProveSum returns true: the program's ProveSum answers as the reference's does, leaves its arguments as they were, and its answer owns its memory.
No condition.
-/
import Derived.Test.YtfjaohmildkeoaaRows
import Derived.WalkKit
import Derived.ProofKit
import Derived.OpenShut
import Derived.ShutString
import Derived.ChangeOld
import Derived.Below
import Derived.Lib.SmallJoins
import Derived.Deep.DeepCutAuto
import Derived.Deep.RegionHeld3
import Derived.Test.YtfjaohmildkeoaaRngJ
import Derived.Test.YtfjaohmildkeoaaFacts
namespace Go.Proofs.Ytfjaohmildkeoaa.fnExactProveSum
open Go.Joins Go.ChangeShapes Go.WideShapes Go.ChangeAt Go.RowKit Go.Deep
open Go.ChangeMaps (open_string shut_string)
set_option linter.unusedVariables false

theorem own : ownKnob Try.prog.godebug = none := by kernel_rfl
theorem laidOut : laidOutB Try.prog = true := by kernel_rfl

/-- What the walk is told of a slice of integers that came in: it is nil; or it leads to a row of 'cap' cells that hold the numbers 'zs'. -/
def IsRow (k : IntKind) (w : World) (a : Option Addr) (len cap : Nat) (zs : List Int) : Prop :=
  (a = none ∧ len = 0 ∧ cap = 0 ∧ zs = []) ∨
  ∃ x, a = some x ∧ len ≤ cap ∧ cap ≤ maxLen ∧ zs.length = cap ∧ (∀ i, i < zs.length → w.cell? (x.add i) = some (.int k (zs.getD i 0))) ∧ ∀ n ∈ zs, (Lit.int k n).wf = true

set_option linter.unusedSimpArgs false
theorem ps_size (P Q G H : Int) (hs rs l cs : List Int) : (psV P Q G H hs rs l cs).n ≤ 24 := by
  unfold psV
  split <;> simp [suP, nilP, PrD.n]
theorem d2_midw {w w' : World} {A B b : Nat} {x y : Value} (h : D2 w b x y) (hm : Mid A B w w') (ho : b < A ∨ B ≤ b) : D2 w' b x y := ⟨jCell hm h.1 ho, jCell hm h.2 ho⟩
theorem gr_midw {w w' : World} {A B b : Nat} {P Q G : Int} (h : GR w b P Q G) (hm : Mid A B w w') (ho : b < A ∨ B ≤ b) : GR w' b P Q G := ⟨jCell hm h.1 ho, jCell hm h.2.1 ho, jCell hm h.2.2 ho⟩
def Lo (W w : World) : Prop := Below W.heap.size W w
theorem Lo.below {W w w' : World} (h : Lo W w) (hb : Below w.heap.size w w') : Lo W w' := bt h hb
theorem Lo.size {W w : World} (h : Lo W w) : W.heap.size ≤ w.heap.size := Below.size h
theorem set3_below {B : Nat} {w v : World} (h : Below B w v) {b : Nat} (hb : B ≤ b) (x y z : Value) : Below B w (((v.setCell ⟨b, 0, none⟩ x).setCell ⟨b, 1, none⟩ y).setCell ⟨b, 2, none⟩ z) := ((h.setCell hb _).setCell hb _).setCell hb _
theorem inP_more {B : Nat} {w : World} {v : Value} {p : PrD} (h : InP B w v p) {C : Nat} (hB : B ≤ C) (hC : C ≤ w.heap.size) : InP C w v p := by
  obtain ⟨a, b, c, rfl, h1, h2, h3⟩ := h
  exact ⟨a, b, c, rfl, h1.wide hB hC, h2.wide hB hC, h3.wide hB hC⟩
/-- A proof in a box, and where its lists lie: for the reference's, the program's. -/
def BoxP (W wx : World) (b : Nat) (x y z : Value) (p : PrD) : Prop := B3 wx b x y z ∧ InP wx.heap.size wx (.agg #[x, y, z]) p ∧ Below W.heap.size W wx ∧ W.heap.size ≤ b
theorem boxP_mk {W vp : World} {b q P : Nat} {x y z : Value} {p : PrD} (hB : Lo W vp) (hb : W.heap.size ≤ b) (hz : B3 vp b (.slice none 0 0) (.slice none 0 0) (.slice none 0 0)) (ho : OwT q P vp (.agg #[x, y, z]) p) (hd : b < q ∨ P ≤ b) : BoxP W (((vp.setCell ⟨b, 0, none⟩ x).setCell ⟨b, 1, none⟩ y).setCell ⟨b, 2, none⟩ z) b x y z p := by
  have hm := mid3 vp b x y z
  have hs := ho.le
  exact ⟨((hz.set0 _).set1 _).set2 _, inP_more (ho.mid hm (hd.symm.imp id (fun h => h))).toIn (Nat.le_trans hs hm.size) (Nat.le_refl _), set3_below hB hb x y z, hb⟩
def BoxQ (W wx : World) (b q P : Nat) (x y z : Value) (p : PrD) : Prop := B3 wx b x y z ∧ OwQ q P wx (.agg #[x, y, z]) p ∧ (b < q ∨ P ≤ b) ∧ W.heap.size ≤ q ∧ Below W.heap.size W wx ∧ W.heap.size ≤ b
theorem boxQ_mk {W vp : World} {b q P : Nat} {x y z : Value} {p : PrD} (hB : Lo W vp) (hq : W.heap.size ≤ q) (hb : W.heap.size ≤ b) (hz : B3 vp b (.slice none 0 0) (.slice none 0 0) (.slice none 0 0)) (ho : OwQ q P vp (.agg #[x, y, z]) p) (hd : b < q ∨ P ≤ b) : BoxQ W (((vp.setCell ⟨b, 0, none⟩ x).setCell ⟨b, 1, none⟩ y).setCell ⟨b, 2, none⟩ z) b q P x y z p := by
  have hm := mid3 vp b x y z
  exact ⟨((hz.set0 _).set1 _).set2 _, ho.mid hm (hd.symm.imp id (fun h => h)), hd, hq, set3_below hB hb x y z, hb⟩

/-! ### STEP 1: the walk: the Go text returns true and writes nothing that was there -/
set_option maxRecDepth 100000 in
set_option maxHeartbeats 25600000 in
theorem walk (P0 Q0 G0 : Int) (H1 : Int) (y1 : Value) (a2 : Option Addr) (len2 cap2 : Nat) (z2 : List Int) (a3 : Option Addr) (len3 cap3 : Nat) (z3 : List Int) (a4 : Option Addr) (len4 cap4 : Nat) (z4 : List Int) (w : World) (wP0 : (Lit.int .i64 P0).wf = true) (wQ0 : (Lit.int .i64 Q0).wf = true) (wG0 : (Lit.int .i64 G0).wf = true) (w1 : ∃ hs, InI w.heap.size w y1 hs ∧ hs.length ≤ maxLen) (w2 : IsRow .i64 w a2 len2 cap2 z2) (w3 : IsRow .i64 w a3 len3 cap3 z3) (w4 : IsRow .i64 w a4 len4 cap4 z4) :
    Calls Try.prog 4 #[.agg #[.int .i64 P0, .int .i64 Q0, .int .i64 G0], .agg #[.int .i64 H1, y1], .slice a2 len2 cap2, .slice a3 len3 cap3, .slice a4 len4 cap4] w fun e w' => e = .returned (.bool true) ∧ Below w.heap.size w w' := by
  obtain ⟨hs, hz, hm⟩ := w1
  obtain ⟨ya, yc, rfl⟩ := hz.shape
  obtain ⟨hrs, nrs, mrs⟩ := inI_of_row w2
  generalize z2.take len2 = rs at hrs nrs
  clear w2
  obtain ⟨hls, nls, mls⟩ := inI_of_row w3
  generalize z3.take len3 = ls at hls nls
  clear w3
  obtain ⟨hcs, ncs, mcs⟩ := inI_of_row w4
  generalize z4.take len4 = cs at hcs ncs
  clear w4
  have hal : Below w.heap.size w ((w.alloc (.cells #[.int .i64 P0, .int .i64 Q0, .int .i64 G0] 44)).alloc (.cells #[.int .i64 H1, .slice ya hs.length yc] 46)) := bt (ba _ _) (ba _ _)
  have R_0 := Lib.hid ((gr_at w w.heap.size rfl P0 Q0 G0 44).below (ba _ (.cells #[.int .i64 H1, .slice ya hs.length yc] 46)))
  have V_0 := Lib.hid (d2_at (w.alloc (.cells #[.int .i64 P0, .int .i64 Q0, .int .i64 G0] 44)) (w.heap.size + 1) (by simp) (.int .i64 H1) (.slice ya hs.length yc) 46)
  have A_0 := Lib.hid (hz.below hal)
  have RS_0 := Lib.hid (hrs.below hal)
  have LS_0 := Lib.hid (hls.below hal)
  have CS_0 := Lib.hid (hcs.below hal)
  have HB_0 := Lib.hid hal
  clear hal hz hrs hls hcs
  by_cases b2 : 1048576 < len2
  · have c2 : (1048576 : Int) < (len2 : Int) := by omega
    unfold maxLen at mrs
    go_enter Try.func4, Try.ntmps4
    go_wp2
    go_ret
    exact ⟨rfl, HB_0.out⟩
  have c2 : (len2 : Int) ≤ 1048576 := by omega
  have lrs : rs.length ≤ 1048576 := by omega
  by_cases b3 : 1048576 < len3
  · have c3 : (1048576 : Int) < (len3 : Int) := by omega
    unfold maxLen at mls
    go_enter Try.func4, Try.ntmps4
    go_wp2
    go_ret
    exact ⟨rfl, HB_0.out⟩
  have c3 : (len3 : Int) ≤ 1048576 := by omega
  have lls : ls.length ≤ 1048576 := by omega
  by_cases b4 : 1048576 < len4
  · have c4 : (1048576 : Int) < (len4 : Int) := by omega
    unfold maxLen at mcs
    go_enter Try.func4, Try.ntmps4
    go_wp2
    go_ret
    exact ⟨rfl, HB_0.out⟩
  have c4 : (len4 : Int) ≤ 1048576 := by omega
  have lcs : cs.length ≤ 1048576 := by omega
  by_cases bq : 1048576 < (hs.length : Int)
  · have E2 := Lib.hid (show szV hs.length 1048576 = -1 by unfold szV; rw [if_neg (by omega)])
    obtain ⟨v0, v1⟩ := V_0.out
    go_enter Try.func4, Try.ntmps4
    go_wp2_with fail
    refine (szBas_any A_0.out (by omega) (by omega) hm).mono ?_
    rw [E2.out]
    rintro e u1 ⟨rfl, hb⟩
    have HB_1 := Lib.hid (bt HB_0.out hb)
    clear hb v0 v1
    go_wp2
    go_ret
    exact ⟨rfl, HB_1.out⟩
  have E2 := Lib.hid (show szV hs.length 1048576 = 1048576 - (hs.length : Int) by unfold szV; rw [if_pos (by omega)])
  have hsl : hs.length ≤ 1048576 := by omega
  have hqi : 0 ≤ 1048576 - (hs.length : Int) := by omega
  have HVL := Lib.hid (ps_size P0 Q0 G0 H1 hs rs ls cs)
  generalize hV : psV P0 Q0 G0 H1 hs rs ls cs = res at HVL
  generalize hK : psB P0 Q0 G0 H1 hs rs ls cs = ok
  have HV := Lib.hid hV
  have HK := Lib.hid hK
  have hrl : res.n ≤ 24 := HVL.out
  clear hV hK
  obtain ⟨v0, v1⟩ := V_0.out
  go_enter Try.func4, Try.ntmps4
  go_wp2_with fail
  refine (szBas_any A_0.out (by omega) (by omega) hm).mono ?_
  rw [E2.out]
  rintro e u1 ⟨rfl, hb⟩
  clear v0 v1
  have HB_1 := Lib.hid (bt HB_0.out hb)
  have R_1 := Lib.hid (R_0.out.below hb)
  have V_1 := Lib.hid (V_0.out.below hb)
  have A_1 := Lib.hid (A_0.out.below hb)
  have RS_1 := Lib.hid (RS_0.out.below hb)
  have LS_1 := Lib.hid (LS_0.out.below hb)
  have CS_1 := Lib.hid (CS_0.out.below hb)
  clear hb HB_0 R_0 V_0 A_0 RS_0 LS_0 CS_0
  go_upto_region 11 with fail
  go_cut [12, 13] (fun s1 s2 wx => ∃ (b : Nat) (a1_ : Option Addr) (c1_ : Nat) (a2_ : Option Addr) (c2_ : Nat) (a3_ : Option Addr) (c3_ : Nat), s1 = .pointer (some ⟨b, 0, none⟩) ∧ s2 = .bool ok ∧ BoxP u1 wx b (.slice a1_ res.c.length c1_) (.slice a2_ res.h.length c2_) (.slice a3_ res.r.length c3_) res)
  case first =>
    have LO_1 := Lib.hid (show Lo u1 u1 from Below.refl _ _)
    have LR9 := Lib.hid (R_1.out.lt)
    have LV9 := Lib.hid (V_1.out.lt)
    have hbd : Below u1.heap.size u1 u1.drew := (Below.refl _ u1).drew
    have HB_s := Lib.hid (bt HB_1.out hbd)
    have R_s := Lib.hid (R_1.out.below hbd)
    have V_s := Lib.hid (V_1.out.below hbd)
    have A_s := Lib.hid (A_1.out.below hbd)
    have RS_s := Lib.hid (RS_1.out.below hbd)
    have LS_s := Lib.hid (LS_1.out.below hbd)
    have CS_s := Lib.hid (CS_1.out.below hbd)
    have LO_s := Lib.hid (LO_1.out.below hbd)
    clear hbd
    refine wp_region_held_drew (S := (fun w' => (w'.cell? ⟨w.heap.size, 0, none⟩ = some (.int .i64 P0) ∧ w'.cell? ⟨w.heap.size, 1, none⟩ = some (.int .i64 Q0) ∧ w'.cell? ⟨w.heap.size, 2, none⟩ = some (.int .i64 G0)) ∧ (w'.cell? ⟨w.heap.size + 1, 0, none⟩ = some (.int .i64 H1) ∧ w'.cell? ⟨w.heap.size + 1, 1, none⟩ = some (.slice ya hs.length yc)))) (by kernel_rfl) (show _ from ⟨⟨R_1.out.1, R_1.out.2.1, R_1.out.2.2⟩, ⟨V_1.out.1, V_1.out.2⟩⟩) (fun hHeld => ?_)
    generalize hW0 : u1.drew = Ws at *
    clear hW0
    refine wpAnyH_take (i := 0) (v := ?_) rfl (by kernel_rfl) (by kernel_rfl) (by kernel_rfl) (fun _ _ _ h => h) (Or.inl ⟨by kernel_rfl, ?_⟩) (by assumption) ?_
    rotate_left 1
    · intro w9 hSw
      try dsimp only at hSw
      go_simp
      try with_reducible rfl
    try simp only [Act.put, List.getElem_toArray, List.getElem_cons_succ, List.getElem_cons_zero, List.setIfInBounds_toArray, List.set_cons_zero, List.set_cons_succ]
    refine wpAnyH_take (i := 2) (v := ?_) rfl (by kernel_rfl) (by kernel_rfl) (by kernel_rfl) (fun _ _ _ h => h) (Or.inl ⟨by kernel_rfl, ?_⟩) (by assumption) ?_
    rotate_left 1
    · intro w9 hSw
      try dsimp only at hSw
      go_simp
      try with_reducible rfl
    try simp only [Act.put, List.getElem_toArray, List.getElem_cons_succ, List.getElem_cons_zero, List.setIfInBounds_toArray, List.set_cons_zero, List.set_cons_succ]
    refine wpAnyH_take (i := 4) (v := ?_) rfl (by kernel_rfl) (by kernel_rfl) (by kernel_rfl) (fun _ _ _ h => h) (Or.inl ⟨by kernel_rfl, ?_⟩) (by assumption) ?_
    rotate_left 1
    · intro w9 hSw
      try dsimp only at hSw
      go_simp
      try with_reducible rfl
    try simp only [Act.put, List.getElem_toArray, List.getElem_cons_succ, List.getElem_cons_zero, List.setIfInBounds_toArray, List.set_cons_zero, List.set_cons_succ]
    refine wpAnyH_take (i := 6) (v := ?_) rfl (by kernel_rfl) (by kernel_rfl) (by kernel_rfl) (fun _ _ _ h => h) (Or.inl ⟨by kernel_rfl, ?_⟩) (by assumption) ?_
    rotate_left 1
    · intro w9 hSw
      try dsimp only at hSw
      go_simp
      try with_reducible rfl
    try simp only [Act.put, List.getElem_toArray, List.getElem_cons_succ, List.getElem_cons_zero, List.setIfInBounds_toArray, List.set_cons_zero, List.set_cons_succ]
    refine wpAnyH_take (i := 8) (v := ?_) rfl (by kernel_rfl) (by kernel_rfl) (by kernel_rfl) (fun _ _ _ h => h) (Or.inl ⟨by kernel_rfl, ?_⟩) (by assumption) ?_
    rotate_left 1
    · intro w9 hSw
      try dsimp only at hSw
      go_simp
      try with_reducible rfl
    try simp only [Act.put, List.getElem_toArray, List.getElem_cons_succ, List.getElem_cons_zero, List.setIfInBounds_toArray, List.set_cons_zero, List.set_cons_succ]
    refine wpAnyH_ready (rs := [1, 14]) (by kernel_rfl) (by simp) ?_
    refine AllReadyH.cons rfl (fun K hK => ?_) (AllReadyH.cons rfl (fun K hK => ?_) (AllReadyH.nil))
    · go_simp
      go_at_call 26
      refine (toGroup_any _ _ _ _).mono ?_
      rintro e' Wsb ⟨rfl, hb⟩
      have HB_sb := Lib.hid (bt HB_s.out hb)
      have R_sb := Lib.hid (R_s.out.below hb)
      have V_sb := Lib.hid (V_s.out.below hb)
      have A_sb := Lib.hid (A_s.out.below hb)
      have RS_sb := Lib.hid (RS_s.out.below hb)
      have LS_sb := Lib.hid (LS_s.out.below hb)
      have CS_sb := Lib.hid (CS_s.out.below hb)
      have LO_sb := Lib.hid (LO_s.out.below hb)
      clear hb
      go_wp2_with fail
      refine hK.out _ _ (show _ from ⟨⟨R_sb.out.1, R_sb.out.2.1, R_sb.out.2.2⟩, ⟨V_sb.out.1, V_sb.out.2⟩⟩) (fun hHeld => ?_)
      clear hK K
      try simp only [Act.put, List.getElem_toArray, List.getElem_cons_succ, List.getElem_cons_zero, List.setIfInBounds_toArray, List.set_cons_zero, List.set_cons_succ]
      refine wpAnyH_ready (rs := [3, 14]) (by kernel_rfl) (by simp) ?_
      refine AllReadyH.cons rfl (fun K hK => ?_) (AllReadyH.cons rfl (fun K hK => ?_) (AllReadyH.nil))
      · go_simp
        go_at_call 27
        refine (toBas_any A_sb.out (by omega)).mono ?_
        rintro e' Wsbd ⟨yw, rfl, ho, hb⟩
        have HB_sbd := Lib.hid (bt HB_sb.out hb)
        have R_sbd := Lib.hid (R_sb.out.below hb)
        have V_sbd := Lib.hid (V_sb.out.below hb)
        have A_sbd := Lib.hid (A_sb.out.below hb)
        have RS_sbd := Lib.hid (RS_sb.out.below hb)
        have LS_sbd := Lib.hid (LS_sb.out.below hb)
        have CS_sbd := Lib.hid (CS_sb.out.below hb)
        have LO_sbd := Lib.hid (LO_sb.out.below hb)
        have CB_sbd := Lib.hid (ho.toIn)
        clear ho
        clear hb
        go_wp2_with fail
        refine hK.out _ _ (show _ from ⟨⟨R_sbd.out.1, R_sbd.out.2.1, R_sbd.out.2.2⟩, ⟨V_sbd.out.1, V_sbd.out.2⟩⟩) (fun hHeld => ?_)
        clear hK K
        try simp only [Act.put, List.getElem_toArray, List.getElem_cons_succ, List.getElem_cons_zero, List.setIfInBounds_toArray, List.set_cons_zero, List.set_cons_succ]
        refine wpAnyH_ready (rs := [5, 14]) (by kernel_rfl) (by simp) ?_
        refine AllReadyH.cons rfl (fun K hK => ?_) (AllReadyH.cons rfl (fun K hK => ?_) (AllReadyH.nil))
        · go_simp
          go_at_call 28
          refine (toI_any RS_sbd.out (by omega)).mono ?_
          rintro e' Wsbdf ⟨xrs, rfl, ho, hb⟩
          have HB_sbdf := Lib.hid (bt HB_sbd.out hb)
          have R_sbdf := Lib.hid (R_sbd.out.below hb)
          have V_sbdf := Lib.hid (V_sbd.out.below hb)
          have A_sbdf := Lib.hid (A_sbd.out.below hb)
          have RS_sbdf := Lib.hid (RS_sbd.out.below hb)
          have LS_sbdf := Lib.hid (LS_sbd.out.below hb)
          have CS_sbdf := Lib.hid (CS_sbd.out.below hb)
          have LO_sbdf := Lib.hid (LO_sbd.out.below hb)
          have CB_sbdf := Lib.hid (CB_sbd.out.below hb)
          have CRS_sbdf := Lib.hid (ho.toIn)
          clear ho
          clear hb
          go_wp2_with fail
          refine hK.out _ _ (show _ from ⟨⟨R_sbdf.out.1, R_sbdf.out.2.1, R_sbdf.out.2.2⟩, ⟨V_sbdf.out.1, V_sbdf.out.2⟩⟩) (fun hHeld => ?_)
          clear hK K
          try simp only [Act.put, List.getElem_toArray, List.getElem_cons_succ, List.getElem_cons_zero, List.setIfInBounds_toArray, List.set_cons_zero, List.set_cons_succ]
          refine wpAnyH_ready (rs := [7, 14]) (by kernel_rfl) (by simp) ?_
          refine AllReadyH.cons rfl (fun K hK => ?_) (AllReadyH.cons rfl (fun K hK => ?_) (AllReadyH.nil))
          · go_simp
            go_at_call 28
            refine (toI_any LS_sbdf.out (by omega)).mono ?_
            rintro e' Wsbdfh ⟨xls, rfl, ho, hb⟩
            have HB_sbdfh := Lib.hid (bt HB_sbdf.out hb)
            have R_sbdfh := Lib.hid (R_sbdf.out.below hb)
            have V_sbdfh := Lib.hid (V_sbdf.out.below hb)
            have A_sbdfh := Lib.hid (A_sbdf.out.below hb)
            have RS_sbdfh := Lib.hid (RS_sbdf.out.below hb)
            have LS_sbdfh := Lib.hid (LS_sbdf.out.below hb)
            have CS_sbdfh := Lib.hid (CS_sbdf.out.below hb)
            have LO_sbdfh := Lib.hid (LO_sbdf.out.below hb)
            have CB_sbdfh := Lib.hid (CB_sbdf.out.below hb)
            have CRS_sbdfh := Lib.hid (CRS_sbdf.out.below hb)
            have CLS_sbdfh := Lib.hid (ho.toIn)
            clear ho
            clear hb
            go_wp2_with fail
            refine hK.out _ _ (show _ from ⟨⟨R_sbdfh.out.1, R_sbdfh.out.2.1, R_sbdfh.out.2.2⟩, ⟨V_sbdfh.out.1, V_sbdfh.out.2⟩⟩) (fun hHeld => ?_)
            clear hK K
            try simp only [Act.put, List.getElem_toArray, List.getElem_cons_succ, List.getElem_cons_zero, List.setIfInBounds_toArray, List.set_cons_zero, List.set_cons_succ]
            refine wpAnyH_ready (rs := [9, 14]) (by kernel_rfl) (by simp) ?_
            refine AllReadyH.cons rfl (fun K hK => ?_) (AllReadyH.cons rfl (fun K hK => ?_) (AllReadyH.nil))
            · go_simp
              go_at_call 28
              refine (toI_any CS_sbdfh.out (by omega)).mono ?_
              rintro e' Wsbdfhj ⟨xcs, rfl, ho, hb⟩
              have HB_sbdfhj := Lib.hid (bt HB_sbdfh.out hb)
              have R_sbdfhj := Lib.hid (R_sbdfh.out.below hb)
              have V_sbdfhj := Lib.hid (V_sbdfh.out.below hb)
              have A_sbdfhj := Lib.hid (A_sbdfh.out.below hb)
              have RS_sbdfhj := Lib.hid (RS_sbdfh.out.below hb)
              have LS_sbdfhj := Lib.hid (LS_sbdfh.out.below hb)
              have CS_sbdfhj := Lib.hid (CS_sbdfh.out.below hb)
              have LO_sbdfhj := Lib.hid (LO_sbdfh.out.below hb)
              have CB_sbdfhj := Lib.hid (CB_sbdfh.out.below hb)
              have CRS_sbdfhj := Lib.hid (CRS_sbdfh.out.below hb)
              have CLS_sbdfhj := Lib.hid (CLS_sbdfh.out.below hb)
              have CCS_sbdfhj := Lib.hid (ho.toIn)
              clear ho
              clear hb
              go_wp2_with fail
              refine hK.out _ _ (show _ from ⟨⟨R_sbdfhj.out.1, R_sbdfhj.out.2.1, R_sbdfhj.out.2.2⟩, ⟨V_sbdfhj.out.1, V_sbdfhj.out.2⟩⟩) (fun hHeld => ?_)
              clear hK K
              try simp only [Act.put, List.getElem_toArray, List.getElem_cons_succ, List.getElem_cons_zero, List.setIfInBounds_toArray, List.set_cons_zero, List.set_cons_succ]
              refine wpAnyH_ready (rs := [10, 14]) (by kernel_rfl) (by simp) ?_
              refine AllReadyH.cons rfl (fun K hK => ?_) (AllReadyH.cons rfl (fun K hK => ?_) (AllReadyH.nil))
              · go_simp
                (first | have LQ := Lib.hid Z_sbdfhj.out.lt | skip)
                have LQS := Lib.hid LO_sbdfhj.out.size
                go_at_call 25
                refine (sProveSum_any P0 Q0 G0 H1 hsl lrs lls lcs CB_sbdfhj.out CRS_sbdfhj.out CLS_sbdfhj.out CCS_sbdfhj.out).mono ?_
                rw [HV.out, HK.out]
                rintro e' Wsbdfhjk ⟨za, zb, zc, rfl, ho, hb⟩
                obtain ⟨za1, za2, zb1, zb2, zc1, zc2, hsh⟩ := inP_shapeQ (OwT.toIn ho)
                simp only [Value.agg.injEq, Array.mk.injEq, List.cons.injEq, and_true] at hsh
                obtain ⟨rfl, rfl, rfl⟩ := hsh
                have HB_sbdfhjk := Lib.hid (bt HB_sbdfhj.out hb)
                have R_sbdfhjk := Lib.hid (R_sbdfhj.out.below hb)
                have V_sbdfhjk := Lib.hid (V_sbdfhj.out.below hb)
                have A_sbdfhjk := Lib.hid (A_sbdfhj.out.below hb)
                have RS_sbdfhjk := Lib.hid (RS_sbdfhj.out.below hb)
                have LS_sbdfhjk := Lib.hid (LS_sbdfhj.out.below hb)
                have CS_sbdfhjk := Lib.hid (CS_sbdfhj.out.below hb)
                have LO_sbdfhjk := Lib.hid (LO_sbdfhj.out.below hb)
                have CB_sbdfhjk := Lib.hid (CB_sbdfhj.out.below hb)
                have CRS_sbdfhjk := Lib.hid (CRS_sbdfhj.out.below hb)
                have CLS_sbdfhjk := Lib.hid (CLS_sbdfhj.out.below hb)
                have CCS_sbdfhjk := Lib.hid (CCS_sbdfhj.out.below hb)
                have OT_sbdfhjk := Lib.hid (ho)
                clear ho
                clear hb
                go_wp2_with fail
                refine hK.out _ _ (show _ from ⟨⟨R_sbdfhjk.out.1, R_sbdfhjk.out.2.1, R_sbdfhjk.out.2.2⟩, ⟨V_sbdfhjk.out.1, V_sbdfhjk.out.2⟩⟩) (fun hHeld => ?_)
                clear hK K
                try simp only [Act.put, List.getElem_toArray, List.getElem_cons_succ, List.getElem_cons_zero, List.setIfInBounds_toArray, List.set_cons_zero, List.set_cons_succ]
                refine wpAnyH_take (i := 11) (v := ?_) rfl (by kernel_rfl) (by kernel_rfl) (by kernel_rfl) (fun _ _ _ h => h) (Or.inl ⟨by kernel_rfl, ?_⟩) (by assumption) ?_
                rotate_left 1
                · intro w9 hSw
                  try dsimp only at hSw
                  go_simp
                  try with_reducible rfl
                try simp only [Act.put, List.getElem_toArray, List.getElem_cons_succ, List.getElem_cons_zero, List.setIfInBounds_toArray, List.set_cons_zero, List.set_cons_succ]
                refine wpAnyH_take (i := 12) (v := ?_) rfl (by kernel_rfl) (by kernel_rfl) (by kernel_rfl) (fun _ _ _ h => h) (Or.inl ⟨by kernel_rfl, ?_⟩) (by assumption) ?_
                rotate_left 1
                · intro w9 hSw
                  try dsimp only at hSw
                  go_simp
                  try with_reducible rfl
                try simp only [Act.put, List.getElem_toArray, List.getElem_cons_succ, List.getElem_cons_zero, List.setIfInBounds_toArray, List.set_cons_zero, List.set_cons_succ]
                refine wpAnyH_take (i := 13) (v := ?_) rfl (by kernel_rfl) (by kernel_rfl) (by kernel_rfl) (fun _ _ _ h => h) (Or.inl ⟨by kernel_rfl, ?_⟩) (by assumption) ?_
                rotate_left 1
                · intro w9 hSw
                  try dsimp only at hSw
                  go_simp
                  try with_reducible rfl
                try simp only [Act.put, List.getElem_toArray, List.getElem_cons_succ, List.getElem_cons_zero, List.setIfInBounds_toArray, List.set_cons_zero, List.set_cons_succ]
                refine wpAnyH_ready (rs := [14]) (by kernel_rfl) (by simp) ?_
                refine AllReadyH.cons rfl (fun K hK => ?_) (AllReadyH.nil)
                go_simp
                have hb := ba Wsbdfhjk (.cells #[.slice none 0 0, .slice none 0 0, .slice none 0 0] 49)
                have HB_sbdfhjko := Lib.hid (bt HB_sbdfhjk.out hb)
                have R_sbdfhjko := Lib.hid (R_sbdfhjk.out.below hb)
                have V_sbdfhjko := Lib.hid (V_sbdfhjk.out.below hb)
                have A_sbdfhjko := Lib.hid (A_sbdfhjk.out.below hb)
                have RS_sbdfhjko := Lib.hid (RS_sbdfhjk.out.below hb)
                have LS_sbdfhjko := Lib.hid (LS_sbdfhjk.out.below hb)
                have CS_sbdfhjko := Lib.hid (CS_sbdfhjk.out.below hb)
                have LO_sbdfhjko := Lib.hid (LO_sbdfhjk.out.below hb)
                have CB_sbdfhjko := Lib.hid (CB_sbdfhjk.out.below hb)
                have CRS_sbdfhjko := Lib.hid (CRS_sbdfhjk.out.below hb)
                have CLS_sbdfhjko := Lib.hid (CLS_sbdfhjk.out.below hb)
                have CCS_sbdfhjko := Lib.hid (CCS_sbdfhjk.out.below hb)
                have OT_sbdfhjko := Lib.hid (OT_sbdfhjk.out.below hb)
                have Z_sbdfhjko := Lib.hid (show B3 (Wsbdfhjk.alloc (.cells #[.slice none 0 0, .slice none 0 0, .slice none 0 0] 49)) Wsbdfhjk.heap.size (.slice none 0 0) (.slice none 0 0) (.slice none 0 0) from b3_new Wsbdfhjk _ _ _ 49)
                have LB := Lib.hid (show u1.heap.size ≤ Wsbdfhjk.heap.size from LO_sbdfhjk.out.size)
                (first | have LD := Lib.hid OT_sbdfhjk.out.le | skip)
                clear hb
                refine hK.out _ _ (show _ from ⟨⟨R_sbdfhjko.out.1, R_sbdfhjko.out.2.1, R_sbdfhjko.out.2.2⟩, ⟨V_sbdfhjko.out.1, V_sbdfhjko.out.2⟩⟩) (fun hHeld => ?_)
                clear hK K
                try simp only [Act.put, List.getElem_toArray, List.getElem_cons_succ, List.getElem_cons_zero, List.setIfInBounds_toArray, List.set_cons_zero, List.set_cons_succ]
                generalize hW9 : Wsbdfhjk.alloc (.cells #[.slice none 0 0, .slice none 0 0, .slice none 0 0] 49) = Wsbdfhjko at *
                clear hW9
                have hm5 := mid3 Wsbdfhjko (Wsbdfhjk.heap.size) (.slice za1 res.c.length za2) (.slice zb1 res.h.length zb2) (.slice zc1 res.r.length zc2)
                have R_y := Lib.hid (gr_midw R_sbdfhjko.out hm5 (.inl (Nat.lt_of_lt_of_le LR9.out LB.out)))
                have V_y := Lib.hid (d2_midw V_sbdfhjko.out hm5 (.inl (Nat.lt_of_lt_of_le LV9.out LB.out)))
                have BX : BoxP u1 (((Wsbdfhjko.setCell ⟨Wsbdfhjk.heap.size, 0, none⟩ (.slice za1 res.c.length za2)).setCell ⟨Wsbdfhjk.heap.size, 1, none⟩ (.slice zb1 res.h.length zb2)).setCell ⟨Wsbdfhjk.heap.size, 2, none⟩ (.slice zc1 res.r.length zc2)) (Wsbdfhjk.heap.size) (.slice za1 res.c.length za2) (.slice zb1 res.h.length zb2) (.slice zc1 res.r.length zc2) res := (by first | exact boxP_mk LO_sbdfhjko.out LB.out Z_sbdfhjko.out OT_sbdfhjko.out (.inl LQ.out) | exact boxP_mk LO_sbdfhjko.out LB.out Z_sbdfhjko.out OT_sbdfhjko.out (.inr LD.out))
                have BX := Lib.hid BX
                clear hm5
                refine wpAnyH_ready (rs := [15]) (by kernel_rfl) (by simp) ?_
                refine AllReadyH.cons rfl (fun K hK => ?_) AllReadyH.nil
                obtain ⟨y0, y1, y2, yf⟩ := Z_sbdfhjko.out
                have yf0 := yf 0
                have yf1 := yf 1
                have yf2 := yf 2
                clear yf
                go_simp
                refine hK.out _ _ (show _ from ⟨⟨R_y.out.1, R_y.out.2.1, R_y.out.2.2⟩, ⟨V_y.out.1, V_y.out.2⟩⟩) (fun hHeld => ?_)
                clear hK K
                try simp only [Act.put, List.getElem_toArray, List.getElem_cons_succ, List.getElem_cons_zero, List.setIfInBounds_toArray, List.set_cons_zero, List.set_cons_succ]
                refine wpAnyH_take (i := 16) (v := ?_) rfl (by kernel_rfl) (by kernel_rfl) (by kernel_rfl) (fun _ _ _ h => h) (Or.inl ⟨by kernel_rfl, ?_⟩) (by assumption) ?_
                rotate_left 1
                · intro w9 hSw
                  try dsimp only at hSw
                  go_simp
                  try with_reducible rfl
                try simp only [Act.put, List.getElem_toArray, List.getElem_cons_succ, List.getElem_cons_zero, List.setIfInBounds_toArray, List.set_cons_zero, List.set_cons_succ]
                refine wpAnyH_done (by kernel_rfl) ?_ _
                go_wp2_with fail
                go_meet
                exact ⟨_, _, _, _, _, _, _, rfl, rfl, BX.out⟩
              · go_simp
                have hb := ba Wsbdfhj (.cells #[.slice none 0 0, .slice none 0 0, .slice none 0 0] 49)
                have HB_sbdfhjo := Lib.hid (bt HB_sbdfhj.out hb)
                have R_sbdfhjo := Lib.hid (R_sbdfhj.out.below hb)
                have V_sbdfhjo := Lib.hid (V_sbdfhj.out.below hb)
                have A_sbdfhjo := Lib.hid (A_sbdfhj.out.below hb)
                have RS_sbdfhjo := Lib.hid (RS_sbdfhj.out.below hb)
                have LS_sbdfhjo := Lib.hid (LS_sbdfhj.out.below hb)
                have CS_sbdfhjo := Lib.hid (CS_sbdfhj.out.below hb)
                have LO_sbdfhjo := Lib.hid (LO_sbdfhj.out.below hb)
                have CB_sbdfhjo := Lib.hid (CB_sbdfhj.out.below hb)
                have CRS_sbdfhjo := Lib.hid (CRS_sbdfhj.out.below hb)
                have CLS_sbdfhjo := Lib.hid (CLS_sbdfhj.out.below hb)
                have CCS_sbdfhjo := Lib.hid (CCS_sbdfhj.out.below hb)
                have Z_sbdfhjo := Lib.hid (show B3 (Wsbdfhj.alloc (.cells #[.slice none 0 0, .slice none 0 0, .slice none 0 0] 49)) Wsbdfhj.heap.size (.slice none 0 0) (.slice none 0 0) (.slice none 0 0) from b3_new Wsbdfhj _ _ _ 49)
                have LB := Lib.hid (show u1.heap.size ≤ Wsbdfhj.heap.size from LO_sbdfhj.out.size)
                (first | have LD := Lib.hid OT_sbdfhj.out.le | skip)
                clear hb
                refine hK.out _ _ (show _ from ⟨⟨R_sbdfhjo.out.1, R_sbdfhjo.out.2.1, R_sbdfhjo.out.2.2⟩, ⟨V_sbdfhjo.out.1, V_sbdfhjo.out.2⟩⟩) (fun hHeld => ?_)
                clear hK K
                try simp only [Act.put, List.getElem_toArray, List.getElem_cons_succ, List.getElem_cons_zero, List.setIfInBounds_toArray, List.set_cons_zero, List.set_cons_succ]
                generalize hW9 : Wsbdfhj.alloc (.cells #[.slice none 0 0, .slice none 0 0, .slice none 0 0] 49) = Wsbdfhjo at *
                clear hW9
                refine wpAnyH_ready (rs := [10]) (by kernel_rfl) (by simp) ?_
                refine AllReadyH.cons rfl (fun K hK => ?_) (AllReadyH.nil)
                go_simp
                (first | have LQ := Lib.hid Z_sbdfhjo.out.lt | skip)
                have LQS := Lib.hid LO_sbdfhjo.out.size
                go_at_call 25
                refine (sProveSum_any P0 Q0 G0 H1 hsl lrs lls lcs CB_sbdfhjo.out CRS_sbdfhjo.out CLS_sbdfhjo.out CCS_sbdfhjo.out).mono ?_
                rw [HV.out, HK.out]
                rintro e' Wsbdfhjok ⟨za, zb, zc, rfl, ho, hb⟩
                obtain ⟨za1, za2, zb1, zb2, zc1, zc2, hsh⟩ := inP_shapeQ (OwT.toIn ho)
                simp only [Value.agg.injEq, Array.mk.injEq, List.cons.injEq, and_true] at hsh
                obtain ⟨rfl, rfl, rfl⟩ := hsh
                have HB_sbdfhjok := Lib.hid (bt HB_sbdfhjo.out hb)
                have R_sbdfhjok := Lib.hid (R_sbdfhjo.out.below hb)
                have V_sbdfhjok := Lib.hid (V_sbdfhjo.out.below hb)
                have A_sbdfhjok := Lib.hid (A_sbdfhjo.out.below hb)
                have RS_sbdfhjok := Lib.hid (RS_sbdfhjo.out.below hb)
                have LS_sbdfhjok := Lib.hid (LS_sbdfhjo.out.below hb)
                have CS_sbdfhjok := Lib.hid (CS_sbdfhjo.out.below hb)
                have LO_sbdfhjok := Lib.hid (LO_sbdfhjo.out.below hb)
                have CB_sbdfhjok := Lib.hid (CB_sbdfhjo.out.below hb)
                have CRS_sbdfhjok := Lib.hid (CRS_sbdfhjo.out.below hb)
                have CLS_sbdfhjok := Lib.hid (CLS_sbdfhjo.out.below hb)
                have CCS_sbdfhjok := Lib.hid (CCS_sbdfhjo.out.below hb)
                have Z_sbdfhjok := Lib.hid (Z_sbdfhjo.out.below hb)
                have OT_sbdfhjok := Lib.hid (ho)
                clear ho
                clear hb
                go_wp2_with fail
                refine hK.out _ _ (show _ from ⟨⟨R_sbdfhjok.out.1, R_sbdfhjok.out.2.1, R_sbdfhjok.out.2.2⟩, ⟨V_sbdfhjok.out.1, V_sbdfhjok.out.2⟩⟩) (fun hHeld => ?_)
                clear hK K
                try simp only [Act.put, List.getElem_toArray, List.getElem_cons_succ, List.getElem_cons_zero, List.setIfInBounds_toArray, List.set_cons_zero, List.set_cons_succ]
                refine wpAnyH_take (i := 11) (v := ?_) rfl (by kernel_rfl) (by kernel_rfl) (by kernel_rfl) (fun _ _ _ h => h) (Or.inl ⟨by kernel_rfl, ?_⟩) (by assumption) ?_
                rotate_left 1
                · intro w9 hSw
                  try dsimp only at hSw
                  go_simp
                  try with_reducible rfl
                try simp only [Act.put, List.getElem_toArray, List.getElem_cons_succ, List.getElem_cons_zero, List.setIfInBounds_toArray, List.set_cons_zero, List.set_cons_succ]
                refine wpAnyH_take (i := 12) (v := ?_) rfl (by kernel_rfl) (by kernel_rfl) (by kernel_rfl) (fun _ _ _ h => h) (Or.inl ⟨by kernel_rfl, ?_⟩) (by assumption) ?_
                rotate_left 1
                · intro w9 hSw
                  try dsimp only at hSw
                  go_simp
                  try with_reducible rfl
                try simp only [Act.put, List.getElem_toArray, List.getElem_cons_succ, List.getElem_cons_zero, List.setIfInBounds_toArray, List.set_cons_zero, List.set_cons_succ]
                refine wpAnyH_take (i := 13) (v := ?_) rfl (by kernel_rfl) (by kernel_rfl) (by kernel_rfl) (fun _ _ _ h => h) (Or.inl ⟨by kernel_rfl, ?_⟩) (by assumption) ?_
                rotate_left 1
                · intro w9 hSw
                  try dsimp only at hSw
                  go_simp
                  try with_reducible rfl
                try simp only [Act.put, List.getElem_toArray, List.getElem_cons_succ, List.getElem_cons_zero, List.setIfInBounds_toArray, List.set_cons_zero, List.set_cons_succ]
                have hm5 := mid3 Wsbdfhjok (Wsbdfhj.heap.size) (.slice za1 res.c.length za2) (.slice zb1 res.h.length zb2) (.slice zc1 res.r.length zc2)
                have R_y := Lib.hid (gr_midw R_sbdfhjok.out hm5 (.inl (Nat.lt_of_lt_of_le LR9.out LB.out)))
                have V_y := Lib.hid (d2_midw V_sbdfhjok.out hm5 (.inl (Nat.lt_of_lt_of_le LV9.out LB.out)))
                have BX : BoxP u1 (((Wsbdfhjok.setCell ⟨Wsbdfhj.heap.size, 0, none⟩ (.slice za1 res.c.length za2)).setCell ⟨Wsbdfhj.heap.size, 1, none⟩ (.slice zb1 res.h.length zb2)).setCell ⟨Wsbdfhj.heap.size, 2, none⟩ (.slice zc1 res.r.length zc2)) (Wsbdfhj.heap.size) (.slice za1 res.c.length za2) (.slice zb1 res.h.length zb2) (.slice zc1 res.r.length zc2) res := (by first | exact boxP_mk LO_sbdfhjok.out LB.out Z_sbdfhjok.out OT_sbdfhjok.out (.inl LQ.out) | exact boxP_mk LO_sbdfhjok.out LB.out Z_sbdfhjok.out OT_sbdfhjok.out (.inr LD.out))
                have BX := Lib.hid BX
                clear hm5
                refine wpAnyH_ready (rs := [15]) (by kernel_rfl) (by simp) ?_
                refine AllReadyH.cons rfl (fun K hK => ?_) AllReadyH.nil
                obtain ⟨y0, y1, y2, yf⟩ := Z_sbdfhjok.out
                have yf0 := yf 0
                have yf1 := yf 1
                have yf2 := yf 2
                clear yf
                go_simp
                refine hK.out _ _ (show _ from ⟨⟨R_y.out.1, R_y.out.2.1, R_y.out.2.2⟩, ⟨V_y.out.1, V_y.out.2⟩⟩) (fun hHeld => ?_)
                clear hK K
                try simp only [Act.put, List.getElem_toArray, List.getElem_cons_succ, List.getElem_cons_zero, List.setIfInBounds_toArray, List.set_cons_zero, List.set_cons_succ]
                refine wpAnyH_take (i := 16) (v := ?_) rfl (by kernel_rfl) (by kernel_rfl) (by kernel_rfl) (fun _ _ _ h => h) (Or.inl ⟨by kernel_rfl, ?_⟩) (by assumption) ?_
                rotate_left 1
                · intro w9 hSw
                  try dsimp only at hSw
                  go_simp
                  try with_reducible rfl
                try simp only [Act.put, List.getElem_toArray, List.getElem_cons_succ, List.getElem_cons_zero, List.setIfInBounds_toArray, List.set_cons_zero, List.set_cons_succ]
                refine wpAnyH_done (by kernel_rfl) ?_ _
                go_wp2_with fail
                go_meet
                exact ⟨_, _, _, _, _, _, _, rfl, rfl, BX.out⟩
            · go_simp
              have hb := ba Wsbdfh (.cells #[.slice none 0 0, .slice none 0 0, .slice none 0 0] 49)
              have HB_sbdfho := Lib.hid (bt HB_sbdfh.out hb)
              have R_sbdfho := Lib.hid (R_sbdfh.out.below hb)
              have V_sbdfho := Lib.hid (V_sbdfh.out.below hb)
              have A_sbdfho := Lib.hid (A_sbdfh.out.below hb)
              have RS_sbdfho := Lib.hid (RS_sbdfh.out.below hb)
              have LS_sbdfho := Lib.hid (LS_sbdfh.out.below hb)
              have CS_sbdfho := Lib.hid (CS_sbdfh.out.below hb)
              have LO_sbdfho := Lib.hid (LO_sbdfh.out.below hb)
              have CB_sbdfho := Lib.hid (CB_sbdfh.out.below hb)
              have CRS_sbdfho := Lib.hid (CRS_sbdfh.out.below hb)
              have CLS_sbdfho := Lib.hid (CLS_sbdfh.out.below hb)
              have Z_sbdfho := Lib.hid (show B3 (Wsbdfh.alloc (.cells #[.slice none 0 0, .slice none 0 0, .slice none 0 0] 49)) Wsbdfh.heap.size (.slice none 0 0) (.slice none 0 0) (.slice none 0 0) from b3_new Wsbdfh _ _ _ 49)
              have LB := Lib.hid (show u1.heap.size ≤ Wsbdfh.heap.size from LO_sbdfh.out.size)
              (first | have LD := Lib.hid OT_sbdfh.out.le | skip)
              clear hb
              refine hK.out _ _ (show _ from ⟨⟨R_sbdfho.out.1, R_sbdfho.out.2.1, R_sbdfho.out.2.2⟩, ⟨V_sbdfho.out.1, V_sbdfho.out.2⟩⟩) (fun hHeld => ?_)
              clear hK K
              try simp only [Act.put, List.getElem_toArray, List.getElem_cons_succ, List.getElem_cons_zero, List.setIfInBounds_toArray, List.set_cons_zero, List.set_cons_succ]
              generalize hW9 : Wsbdfh.alloc (.cells #[.slice none 0 0, .slice none 0 0, .slice none 0 0] 49) = Wsbdfho at *
              clear hW9
              refine wpAnyH_ready (rs := [9]) (by kernel_rfl) (by simp) ?_
              refine AllReadyH.cons rfl (fun K hK => ?_) (AllReadyH.nil)
              go_simp
              go_at_call 28
              refine (toI_any CS_sbdfho.out (by omega)).mono ?_
              rintro e' Wsbdfhoj ⟨xcs, rfl, ho, hb⟩
              have HB_sbdfhoj := Lib.hid (bt HB_sbdfho.out hb)
              have R_sbdfhoj := Lib.hid (R_sbdfho.out.below hb)
              have V_sbdfhoj := Lib.hid (V_sbdfho.out.below hb)
              have A_sbdfhoj := Lib.hid (A_sbdfho.out.below hb)
              have RS_sbdfhoj := Lib.hid (RS_sbdfho.out.below hb)
              have LS_sbdfhoj := Lib.hid (LS_sbdfho.out.below hb)
              have CS_sbdfhoj := Lib.hid (CS_sbdfho.out.below hb)
              have LO_sbdfhoj := Lib.hid (LO_sbdfho.out.below hb)
              have CB_sbdfhoj := Lib.hid (CB_sbdfho.out.below hb)
              have CRS_sbdfhoj := Lib.hid (CRS_sbdfho.out.below hb)
              have CLS_sbdfhoj := Lib.hid (CLS_sbdfho.out.below hb)
              have Z_sbdfhoj := Lib.hid (Z_sbdfho.out.below hb)
              have CCS_sbdfhoj := Lib.hid (ho.toIn)
              clear ho
              clear hb
              go_wp2_with fail
              refine hK.out _ _ (show _ from ⟨⟨R_sbdfhoj.out.1, R_sbdfhoj.out.2.1, R_sbdfhoj.out.2.2⟩, ⟨V_sbdfhoj.out.1, V_sbdfhoj.out.2⟩⟩) (fun hHeld => ?_)
              clear hK K
              try simp only [Act.put, List.getElem_toArray, List.getElem_cons_succ, List.getElem_cons_zero, List.setIfInBounds_toArray, List.set_cons_zero, List.set_cons_succ]
              refine wpAnyH_ready (rs := [10]) (by kernel_rfl) (by simp) ?_
              refine AllReadyH.cons rfl (fun K hK => ?_) (AllReadyH.nil)
              go_simp
              (first | have LQ := Lib.hid Z_sbdfhoj.out.lt | skip)
              have LQS := Lib.hid LO_sbdfhoj.out.size
              go_at_call 25
              refine (sProveSum_any P0 Q0 G0 H1 hsl lrs lls lcs CB_sbdfhoj.out CRS_sbdfhoj.out CLS_sbdfhoj.out CCS_sbdfhoj.out).mono ?_
              rw [HV.out, HK.out]
              rintro e' Wsbdfhojk ⟨za, zb, zc, rfl, ho, hb⟩
              obtain ⟨za1, za2, zb1, zb2, zc1, zc2, hsh⟩ := inP_shapeQ (OwT.toIn ho)
              simp only [Value.agg.injEq, Array.mk.injEq, List.cons.injEq, and_true] at hsh
              obtain ⟨rfl, rfl, rfl⟩ := hsh
              have HB_sbdfhojk := Lib.hid (bt HB_sbdfhoj.out hb)
              have R_sbdfhojk := Lib.hid (R_sbdfhoj.out.below hb)
              have V_sbdfhojk := Lib.hid (V_sbdfhoj.out.below hb)
              have A_sbdfhojk := Lib.hid (A_sbdfhoj.out.below hb)
              have RS_sbdfhojk := Lib.hid (RS_sbdfhoj.out.below hb)
              have LS_sbdfhojk := Lib.hid (LS_sbdfhoj.out.below hb)
              have CS_sbdfhojk := Lib.hid (CS_sbdfhoj.out.below hb)
              have LO_sbdfhojk := Lib.hid (LO_sbdfhoj.out.below hb)
              have CB_sbdfhojk := Lib.hid (CB_sbdfhoj.out.below hb)
              have CRS_sbdfhojk := Lib.hid (CRS_sbdfhoj.out.below hb)
              have CLS_sbdfhojk := Lib.hid (CLS_sbdfhoj.out.below hb)
              have Z_sbdfhojk := Lib.hid (Z_sbdfhoj.out.below hb)
              have CCS_sbdfhojk := Lib.hid (CCS_sbdfhoj.out.below hb)
              have OT_sbdfhojk := Lib.hid (ho)
              clear ho
              clear hb
              go_wp2_with fail
              refine hK.out _ _ (show _ from ⟨⟨R_sbdfhojk.out.1, R_sbdfhojk.out.2.1, R_sbdfhojk.out.2.2⟩, ⟨V_sbdfhojk.out.1, V_sbdfhojk.out.2⟩⟩) (fun hHeld => ?_)
              clear hK K
              try simp only [Act.put, List.getElem_toArray, List.getElem_cons_succ, List.getElem_cons_zero, List.setIfInBounds_toArray, List.set_cons_zero, List.set_cons_succ]
              refine wpAnyH_take (i := 11) (v := ?_) rfl (by kernel_rfl) (by kernel_rfl) (by kernel_rfl) (fun _ _ _ h => h) (Or.inl ⟨by kernel_rfl, ?_⟩) (by assumption) ?_
              rotate_left 1
              · intro w9 hSw
                try dsimp only at hSw
                go_simp
                try with_reducible rfl
              try simp only [Act.put, List.getElem_toArray, List.getElem_cons_succ, List.getElem_cons_zero, List.setIfInBounds_toArray, List.set_cons_zero, List.set_cons_succ]
              refine wpAnyH_take (i := 12) (v := ?_) rfl (by kernel_rfl) (by kernel_rfl) (by kernel_rfl) (fun _ _ _ h => h) (Or.inl ⟨by kernel_rfl, ?_⟩) (by assumption) ?_
              rotate_left 1
              · intro w9 hSw
                try dsimp only at hSw
                go_simp
                try with_reducible rfl
              try simp only [Act.put, List.getElem_toArray, List.getElem_cons_succ, List.getElem_cons_zero, List.setIfInBounds_toArray, List.set_cons_zero, List.set_cons_succ]
              refine wpAnyH_take (i := 13) (v := ?_) rfl (by kernel_rfl) (by kernel_rfl) (by kernel_rfl) (fun _ _ _ h => h) (Or.inl ⟨by kernel_rfl, ?_⟩) (by assumption) ?_
              rotate_left 1
              · intro w9 hSw
                try dsimp only at hSw
                go_simp
                try with_reducible rfl
              try simp only [Act.put, List.getElem_toArray, List.getElem_cons_succ, List.getElem_cons_zero, List.setIfInBounds_toArray, List.set_cons_zero, List.set_cons_succ]
              have hm5 := mid3 Wsbdfhojk (Wsbdfh.heap.size) (.slice za1 res.c.length za2) (.slice zb1 res.h.length zb2) (.slice zc1 res.r.length zc2)
              have R_y := Lib.hid (gr_midw R_sbdfhojk.out hm5 (.inl (Nat.lt_of_lt_of_le LR9.out LB.out)))
              have V_y := Lib.hid (d2_midw V_sbdfhojk.out hm5 (.inl (Nat.lt_of_lt_of_le LV9.out LB.out)))
              have BX : BoxP u1 (((Wsbdfhojk.setCell ⟨Wsbdfh.heap.size, 0, none⟩ (.slice za1 res.c.length za2)).setCell ⟨Wsbdfh.heap.size, 1, none⟩ (.slice zb1 res.h.length zb2)).setCell ⟨Wsbdfh.heap.size, 2, none⟩ (.slice zc1 res.r.length zc2)) (Wsbdfh.heap.size) (.slice za1 res.c.length za2) (.slice zb1 res.h.length zb2) (.slice zc1 res.r.length zc2) res := (by first | exact boxP_mk LO_sbdfhojk.out LB.out Z_sbdfhojk.out OT_sbdfhojk.out (.inl LQ.out) | exact boxP_mk LO_sbdfhojk.out LB.out Z_sbdfhojk.out OT_sbdfhojk.out (.inr LD.out))
              have BX := Lib.hid BX
              clear hm5
              refine wpAnyH_ready (rs := [15]) (by kernel_rfl) (by simp) ?_
              refine AllReadyH.cons rfl (fun K hK => ?_) AllReadyH.nil
              obtain ⟨y0, y1, y2, yf⟩ := Z_sbdfhojk.out
              have yf0 := yf 0
              have yf1 := yf 1
              have yf2 := yf 2
              clear yf
              go_simp
              refine hK.out _ _ (show _ from ⟨⟨R_y.out.1, R_y.out.2.1, R_y.out.2.2⟩, ⟨V_y.out.1, V_y.out.2⟩⟩) (fun hHeld => ?_)
              clear hK K
              try simp only [Act.put, List.getElem_toArray, List.getElem_cons_succ, List.getElem_cons_zero, List.setIfInBounds_toArray, List.set_cons_zero, List.set_cons_succ]
              refine wpAnyH_take (i := 16) (v := ?_) rfl (by kernel_rfl) (by kernel_rfl) (by kernel_rfl) (fun _ _ _ h => h) (Or.inl ⟨by kernel_rfl, ?_⟩) (by assumption) ?_
              rotate_left 1
              · intro w9 hSw
                try dsimp only at hSw
                go_simp
                try with_reducible rfl
              try simp only [Act.put, List.getElem_toArray, List.getElem_cons_succ, List.getElem_cons_zero, List.setIfInBounds_toArray, List.set_cons_zero, List.set_cons_succ]
              refine wpAnyH_done (by kernel_rfl) ?_ _
              go_wp2_with fail
              go_meet
              exact ⟨_, _, _, _, _, _, _, rfl, rfl, BX.out⟩
          · go_simp
            have hb := ba Wsbdf (.cells #[.slice none 0 0, .slice none 0 0, .slice none 0 0] 49)
            have HB_sbdfo := Lib.hid (bt HB_sbdf.out hb)
            have R_sbdfo := Lib.hid (R_sbdf.out.below hb)
            have V_sbdfo := Lib.hid (V_sbdf.out.below hb)
            have A_sbdfo := Lib.hid (A_sbdf.out.below hb)
            have RS_sbdfo := Lib.hid (RS_sbdf.out.below hb)
            have LS_sbdfo := Lib.hid (LS_sbdf.out.below hb)
            have CS_sbdfo := Lib.hid (CS_sbdf.out.below hb)
            have LO_sbdfo := Lib.hid (LO_sbdf.out.below hb)
            have CB_sbdfo := Lib.hid (CB_sbdf.out.below hb)
            have CRS_sbdfo := Lib.hid (CRS_sbdf.out.below hb)
            have Z_sbdfo := Lib.hid (show B3 (Wsbdf.alloc (.cells #[.slice none 0 0, .slice none 0 0, .slice none 0 0] 49)) Wsbdf.heap.size (.slice none 0 0) (.slice none 0 0) (.slice none 0 0) from b3_new Wsbdf _ _ _ 49)
            have LB := Lib.hid (show u1.heap.size ≤ Wsbdf.heap.size from LO_sbdf.out.size)
            (first | have LD := Lib.hid OT_sbdf.out.le | skip)
            clear hb
            refine hK.out _ _ (show _ from ⟨⟨R_sbdfo.out.1, R_sbdfo.out.2.1, R_sbdfo.out.2.2⟩, ⟨V_sbdfo.out.1, V_sbdfo.out.2⟩⟩) (fun hHeld => ?_)
            clear hK K
            try simp only [Act.put, List.getElem_toArray, List.getElem_cons_succ, List.getElem_cons_zero, List.setIfInBounds_toArray, List.set_cons_zero, List.set_cons_succ]
            generalize hW9 : Wsbdf.alloc (.cells #[.slice none 0 0, .slice none 0 0, .slice none 0 0] 49) = Wsbdfo at *
            clear hW9
            refine wpAnyH_ready (rs := [7]) (by kernel_rfl) (by simp) ?_
            refine AllReadyH.cons rfl (fun K hK => ?_) (AllReadyH.nil)
            go_simp
            go_at_call 28
            refine (toI_any LS_sbdfo.out (by omega)).mono ?_
            rintro e' Wsbdfoh ⟨xls, rfl, ho, hb⟩
            have HB_sbdfoh := Lib.hid (bt HB_sbdfo.out hb)
            have R_sbdfoh := Lib.hid (R_sbdfo.out.below hb)
            have V_sbdfoh := Lib.hid (V_sbdfo.out.below hb)
            have A_sbdfoh := Lib.hid (A_sbdfo.out.below hb)
            have RS_sbdfoh := Lib.hid (RS_sbdfo.out.below hb)
            have LS_sbdfoh := Lib.hid (LS_sbdfo.out.below hb)
            have CS_sbdfoh := Lib.hid (CS_sbdfo.out.below hb)
            have LO_sbdfoh := Lib.hid (LO_sbdfo.out.below hb)
            have CB_sbdfoh := Lib.hid (CB_sbdfo.out.below hb)
            have CRS_sbdfoh := Lib.hid (CRS_sbdfo.out.below hb)
            have Z_sbdfoh := Lib.hid (Z_sbdfo.out.below hb)
            have CLS_sbdfoh := Lib.hid (ho.toIn)
            clear ho
            clear hb
            go_wp2_with fail
            refine hK.out _ _ (show _ from ⟨⟨R_sbdfoh.out.1, R_sbdfoh.out.2.1, R_sbdfoh.out.2.2⟩, ⟨V_sbdfoh.out.1, V_sbdfoh.out.2⟩⟩) (fun hHeld => ?_)
            clear hK K
            try simp only [Act.put, List.getElem_toArray, List.getElem_cons_succ, List.getElem_cons_zero, List.setIfInBounds_toArray, List.set_cons_zero, List.set_cons_succ]
            refine wpAnyH_ready (rs := [9]) (by kernel_rfl) (by simp) ?_
            refine AllReadyH.cons rfl (fun K hK => ?_) (AllReadyH.nil)
            go_simp
            go_at_call 28
            refine (toI_any CS_sbdfoh.out (by omega)).mono ?_
            rintro e' Wsbdfohj ⟨xcs, rfl, ho, hb⟩
            have HB_sbdfohj := Lib.hid (bt HB_sbdfoh.out hb)
            have R_sbdfohj := Lib.hid (R_sbdfoh.out.below hb)
            have V_sbdfohj := Lib.hid (V_sbdfoh.out.below hb)
            have A_sbdfohj := Lib.hid (A_sbdfoh.out.below hb)
            have RS_sbdfohj := Lib.hid (RS_sbdfoh.out.below hb)
            have LS_sbdfohj := Lib.hid (LS_sbdfoh.out.below hb)
            have CS_sbdfohj := Lib.hid (CS_sbdfoh.out.below hb)
            have LO_sbdfohj := Lib.hid (LO_sbdfoh.out.below hb)
            have CB_sbdfohj := Lib.hid (CB_sbdfoh.out.below hb)
            have CRS_sbdfohj := Lib.hid (CRS_sbdfoh.out.below hb)
            have Z_sbdfohj := Lib.hid (Z_sbdfoh.out.below hb)
            have CLS_sbdfohj := Lib.hid (CLS_sbdfoh.out.below hb)
            have CCS_sbdfohj := Lib.hid (ho.toIn)
            clear ho
            clear hb
            go_wp2_with fail
            refine hK.out _ _ (show _ from ⟨⟨R_sbdfohj.out.1, R_sbdfohj.out.2.1, R_sbdfohj.out.2.2⟩, ⟨V_sbdfohj.out.1, V_sbdfohj.out.2⟩⟩) (fun hHeld => ?_)
            clear hK K
            try simp only [Act.put, List.getElem_toArray, List.getElem_cons_succ, List.getElem_cons_zero, List.setIfInBounds_toArray, List.set_cons_zero, List.set_cons_succ]
            refine wpAnyH_ready (rs := [10]) (by kernel_rfl) (by simp) ?_
            refine AllReadyH.cons rfl (fun K hK => ?_) (AllReadyH.nil)
            go_simp
            (first | have LQ := Lib.hid Z_sbdfohj.out.lt | skip)
            have LQS := Lib.hid LO_sbdfohj.out.size
            go_at_call 25
            refine (sProveSum_any P0 Q0 G0 H1 hsl lrs lls lcs CB_sbdfohj.out CRS_sbdfohj.out CLS_sbdfohj.out CCS_sbdfohj.out).mono ?_
            rw [HV.out, HK.out]
            rintro e' Wsbdfohjk ⟨za, zb, zc, rfl, ho, hb⟩
            obtain ⟨za1, za2, zb1, zb2, zc1, zc2, hsh⟩ := inP_shapeQ (OwT.toIn ho)
            simp only [Value.agg.injEq, Array.mk.injEq, List.cons.injEq, and_true] at hsh
            obtain ⟨rfl, rfl, rfl⟩ := hsh
            have HB_sbdfohjk := Lib.hid (bt HB_sbdfohj.out hb)
            have R_sbdfohjk := Lib.hid (R_sbdfohj.out.below hb)
            have V_sbdfohjk := Lib.hid (V_sbdfohj.out.below hb)
            have A_sbdfohjk := Lib.hid (A_sbdfohj.out.below hb)
            have RS_sbdfohjk := Lib.hid (RS_sbdfohj.out.below hb)
            have LS_sbdfohjk := Lib.hid (LS_sbdfohj.out.below hb)
            have CS_sbdfohjk := Lib.hid (CS_sbdfohj.out.below hb)
            have LO_sbdfohjk := Lib.hid (LO_sbdfohj.out.below hb)
            have CB_sbdfohjk := Lib.hid (CB_sbdfohj.out.below hb)
            have CRS_sbdfohjk := Lib.hid (CRS_sbdfohj.out.below hb)
            have Z_sbdfohjk := Lib.hid (Z_sbdfohj.out.below hb)
            have CLS_sbdfohjk := Lib.hid (CLS_sbdfohj.out.below hb)
            have CCS_sbdfohjk := Lib.hid (CCS_sbdfohj.out.below hb)
            have OT_sbdfohjk := Lib.hid (ho)
            clear ho
            clear hb
            go_wp2_with fail
            refine hK.out _ _ (show _ from ⟨⟨R_sbdfohjk.out.1, R_sbdfohjk.out.2.1, R_sbdfohjk.out.2.2⟩, ⟨V_sbdfohjk.out.1, V_sbdfohjk.out.2⟩⟩) (fun hHeld => ?_)
            clear hK K
            try simp only [Act.put, List.getElem_toArray, List.getElem_cons_succ, List.getElem_cons_zero, List.setIfInBounds_toArray, List.set_cons_zero, List.set_cons_succ]
            refine wpAnyH_take (i := 11) (v := ?_) rfl (by kernel_rfl) (by kernel_rfl) (by kernel_rfl) (fun _ _ _ h => h) (Or.inl ⟨by kernel_rfl, ?_⟩) (by assumption) ?_
            rotate_left 1
            · intro w9 hSw
              try dsimp only at hSw
              go_simp
              try with_reducible rfl
            try simp only [Act.put, List.getElem_toArray, List.getElem_cons_succ, List.getElem_cons_zero, List.setIfInBounds_toArray, List.set_cons_zero, List.set_cons_succ]
            refine wpAnyH_take (i := 12) (v := ?_) rfl (by kernel_rfl) (by kernel_rfl) (by kernel_rfl) (fun _ _ _ h => h) (Or.inl ⟨by kernel_rfl, ?_⟩) (by assumption) ?_
            rotate_left 1
            · intro w9 hSw
              try dsimp only at hSw
              go_simp
              try with_reducible rfl
            try simp only [Act.put, List.getElem_toArray, List.getElem_cons_succ, List.getElem_cons_zero, List.setIfInBounds_toArray, List.set_cons_zero, List.set_cons_succ]
            refine wpAnyH_take (i := 13) (v := ?_) rfl (by kernel_rfl) (by kernel_rfl) (by kernel_rfl) (fun _ _ _ h => h) (Or.inl ⟨by kernel_rfl, ?_⟩) (by assumption) ?_
            rotate_left 1
            · intro w9 hSw
              try dsimp only at hSw
              go_simp
              try with_reducible rfl
            try simp only [Act.put, List.getElem_toArray, List.getElem_cons_succ, List.getElem_cons_zero, List.setIfInBounds_toArray, List.set_cons_zero, List.set_cons_succ]
            have hm5 := mid3 Wsbdfohjk (Wsbdf.heap.size) (.slice za1 res.c.length za2) (.slice zb1 res.h.length zb2) (.slice zc1 res.r.length zc2)
            have R_y := Lib.hid (gr_midw R_sbdfohjk.out hm5 (.inl (Nat.lt_of_lt_of_le LR9.out LB.out)))
            have V_y := Lib.hid (d2_midw V_sbdfohjk.out hm5 (.inl (Nat.lt_of_lt_of_le LV9.out LB.out)))
            have BX : BoxP u1 (((Wsbdfohjk.setCell ⟨Wsbdf.heap.size, 0, none⟩ (.slice za1 res.c.length za2)).setCell ⟨Wsbdf.heap.size, 1, none⟩ (.slice zb1 res.h.length zb2)).setCell ⟨Wsbdf.heap.size, 2, none⟩ (.slice zc1 res.r.length zc2)) (Wsbdf.heap.size) (.slice za1 res.c.length za2) (.slice zb1 res.h.length zb2) (.slice zc1 res.r.length zc2) res := (by first | exact boxP_mk LO_sbdfohjk.out LB.out Z_sbdfohjk.out OT_sbdfohjk.out (.inl LQ.out) | exact boxP_mk LO_sbdfohjk.out LB.out Z_sbdfohjk.out OT_sbdfohjk.out (.inr LD.out))
            have BX := Lib.hid BX
            clear hm5
            refine wpAnyH_ready (rs := [15]) (by kernel_rfl) (by simp) ?_
            refine AllReadyH.cons rfl (fun K hK => ?_) AllReadyH.nil
            obtain ⟨y0, y1, y2, yf⟩ := Z_sbdfohjk.out
            have yf0 := yf 0
            have yf1 := yf 1
            have yf2 := yf 2
            clear yf
            go_simp
            refine hK.out _ _ (show _ from ⟨⟨R_y.out.1, R_y.out.2.1, R_y.out.2.2⟩, ⟨V_y.out.1, V_y.out.2⟩⟩) (fun hHeld => ?_)
            clear hK K
            try simp only [Act.put, List.getElem_toArray, List.getElem_cons_succ, List.getElem_cons_zero, List.setIfInBounds_toArray, List.set_cons_zero, List.set_cons_succ]
            refine wpAnyH_take (i := 16) (v := ?_) rfl (by kernel_rfl) (by kernel_rfl) (by kernel_rfl) (fun _ _ _ h => h) (Or.inl ⟨by kernel_rfl, ?_⟩) (by assumption) ?_
            rotate_left 1
            · intro w9 hSw
              try dsimp only at hSw
              go_simp
              try with_reducible rfl
            try simp only [Act.put, List.getElem_toArray, List.getElem_cons_succ, List.getElem_cons_zero, List.setIfInBounds_toArray, List.set_cons_zero, List.set_cons_succ]
            refine wpAnyH_done (by kernel_rfl) ?_ _
            go_wp2_with fail
            go_meet
            exact ⟨_, _, _, _, _, _, _, rfl, rfl, BX.out⟩
        · go_simp
          have hb := ba Wsbd (.cells #[.slice none 0 0, .slice none 0 0, .slice none 0 0] 49)
          have HB_sbdo := Lib.hid (bt HB_sbd.out hb)
          have R_sbdo := Lib.hid (R_sbd.out.below hb)
          have V_sbdo := Lib.hid (V_sbd.out.below hb)
          have A_sbdo := Lib.hid (A_sbd.out.below hb)
          have RS_sbdo := Lib.hid (RS_sbd.out.below hb)
          have LS_sbdo := Lib.hid (LS_sbd.out.below hb)
          have CS_sbdo := Lib.hid (CS_sbd.out.below hb)
          have LO_sbdo := Lib.hid (LO_sbd.out.below hb)
          have CB_sbdo := Lib.hid (CB_sbd.out.below hb)
          have Z_sbdo := Lib.hid (show B3 (Wsbd.alloc (.cells #[.slice none 0 0, .slice none 0 0, .slice none 0 0] 49)) Wsbd.heap.size (.slice none 0 0) (.slice none 0 0) (.slice none 0 0) from b3_new Wsbd _ _ _ 49)
          have LB := Lib.hid (show u1.heap.size ≤ Wsbd.heap.size from LO_sbd.out.size)
          (first | have LD := Lib.hid OT_sbd.out.le | skip)
          clear hb
          refine hK.out _ _ (show _ from ⟨⟨R_sbdo.out.1, R_sbdo.out.2.1, R_sbdo.out.2.2⟩, ⟨V_sbdo.out.1, V_sbdo.out.2⟩⟩) (fun hHeld => ?_)
          clear hK K
          try simp only [Act.put, List.getElem_toArray, List.getElem_cons_succ, List.getElem_cons_zero, List.setIfInBounds_toArray, List.set_cons_zero, List.set_cons_succ]
          generalize hW9 : Wsbd.alloc (.cells #[.slice none 0 0, .slice none 0 0, .slice none 0 0] 49) = Wsbdo at *
          clear hW9
          refine wpAnyH_ready (rs := [5]) (by kernel_rfl) (by simp) ?_
          refine AllReadyH.cons rfl (fun K hK => ?_) (AllReadyH.nil)
          go_simp
          go_at_call 28
          refine (toI_any RS_sbdo.out (by omega)).mono ?_
          rintro e' Wsbdof ⟨xrs, rfl, ho, hb⟩
          have HB_sbdof := Lib.hid (bt HB_sbdo.out hb)
          have R_sbdof := Lib.hid (R_sbdo.out.below hb)
          have V_sbdof := Lib.hid (V_sbdo.out.below hb)
          have A_sbdof := Lib.hid (A_sbdo.out.below hb)
          have RS_sbdof := Lib.hid (RS_sbdo.out.below hb)
          have LS_sbdof := Lib.hid (LS_sbdo.out.below hb)
          have CS_sbdof := Lib.hid (CS_sbdo.out.below hb)
          have LO_sbdof := Lib.hid (LO_sbdo.out.below hb)
          have CB_sbdof := Lib.hid (CB_sbdo.out.below hb)
          have Z_sbdof := Lib.hid (Z_sbdo.out.below hb)
          have CRS_sbdof := Lib.hid (ho.toIn)
          clear ho
          clear hb
          go_wp2_with fail
          refine hK.out _ _ (show _ from ⟨⟨R_sbdof.out.1, R_sbdof.out.2.1, R_sbdof.out.2.2⟩, ⟨V_sbdof.out.1, V_sbdof.out.2⟩⟩) (fun hHeld => ?_)
          clear hK K
          try simp only [Act.put, List.getElem_toArray, List.getElem_cons_succ, List.getElem_cons_zero, List.setIfInBounds_toArray, List.set_cons_zero, List.set_cons_succ]
          refine wpAnyH_ready (rs := [7]) (by kernel_rfl) (by simp) ?_
          refine AllReadyH.cons rfl (fun K hK => ?_) (AllReadyH.nil)
          go_simp
          go_at_call 28
          refine (toI_any LS_sbdof.out (by omega)).mono ?_
          rintro e' Wsbdofh ⟨xls, rfl, ho, hb⟩
          have HB_sbdofh := Lib.hid (bt HB_sbdof.out hb)
          have R_sbdofh := Lib.hid (R_sbdof.out.below hb)
          have V_sbdofh := Lib.hid (V_sbdof.out.below hb)
          have A_sbdofh := Lib.hid (A_sbdof.out.below hb)
          have RS_sbdofh := Lib.hid (RS_sbdof.out.below hb)
          have LS_sbdofh := Lib.hid (LS_sbdof.out.below hb)
          have CS_sbdofh := Lib.hid (CS_sbdof.out.below hb)
          have LO_sbdofh := Lib.hid (LO_sbdof.out.below hb)
          have CB_sbdofh := Lib.hid (CB_sbdof.out.below hb)
          have Z_sbdofh := Lib.hid (Z_sbdof.out.below hb)
          have CRS_sbdofh := Lib.hid (CRS_sbdof.out.below hb)
          have CLS_sbdofh := Lib.hid (ho.toIn)
          clear ho
          clear hb
          go_wp2_with fail
          refine hK.out _ _ (show _ from ⟨⟨R_sbdofh.out.1, R_sbdofh.out.2.1, R_sbdofh.out.2.2⟩, ⟨V_sbdofh.out.1, V_sbdofh.out.2⟩⟩) (fun hHeld => ?_)
          clear hK K
          try simp only [Act.put, List.getElem_toArray, List.getElem_cons_succ, List.getElem_cons_zero, List.setIfInBounds_toArray, List.set_cons_zero, List.set_cons_succ]
          refine wpAnyH_ready (rs := [9]) (by kernel_rfl) (by simp) ?_
          refine AllReadyH.cons rfl (fun K hK => ?_) (AllReadyH.nil)
          go_simp
          go_at_call 28
          refine (toI_any CS_sbdofh.out (by omega)).mono ?_
          rintro e' Wsbdofhj ⟨xcs, rfl, ho, hb⟩
          have HB_sbdofhj := Lib.hid (bt HB_sbdofh.out hb)
          have R_sbdofhj := Lib.hid (R_sbdofh.out.below hb)
          have V_sbdofhj := Lib.hid (V_sbdofh.out.below hb)
          have A_sbdofhj := Lib.hid (A_sbdofh.out.below hb)
          have RS_sbdofhj := Lib.hid (RS_sbdofh.out.below hb)
          have LS_sbdofhj := Lib.hid (LS_sbdofh.out.below hb)
          have CS_sbdofhj := Lib.hid (CS_sbdofh.out.below hb)
          have LO_sbdofhj := Lib.hid (LO_sbdofh.out.below hb)
          have CB_sbdofhj := Lib.hid (CB_sbdofh.out.below hb)
          have Z_sbdofhj := Lib.hid (Z_sbdofh.out.below hb)
          have CRS_sbdofhj := Lib.hid (CRS_sbdofh.out.below hb)
          have CLS_sbdofhj := Lib.hid (CLS_sbdofh.out.below hb)
          have CCS_sbdofhj := Lib.hid (ho.toIn)
          clear ho
          clear hb
          go_wp2_with fail
          refine hK.out _ _ (show _ from ⟨⟨R_sbdofhj.out.1, R_sbdofhj.out.2.1, R_sbdofhj.out.2.2⟩, ⟨V_sbdofhj.out.1, V_sbdofhj.out.2⟩⟩) (fun hHeld => ?_)
          clear hK K
          try simp only [Act.put, List.getElem_toArray, List.getElem_cons_succ, List.getElem_cons_zero, List.setIfInBounds_toArray, List.set_cons_zero, List.set_cons_succ]
          refine wpAnyH_ready (rs := [10]) (by kernel_rfl) (by simp) ?_
          refine AllReadyH.cons rfl (fun K hK => ?_) (AllReadyH.nil)
          go_simp
          (first | have LQ := Lib.hid Z_sbdofhj.out.lt | skip)
          have LQS := Lib.hid LO_sbdofhj.out.size
          go_at_call 25
          refine (sProveSum_any P0 Q0 G0 H1 hsl lrs lls lcs CB_sbdofhj.out CRS_sbdofhj.out CLS_sbdofhj.out CCS_sbdofhj.out).mono ?_
          rw [HV.out, HK.out]
          rintro e' Wsbdofhjk ⟨za, zb, zc, rfl, ho, hb⟩
          obtain ⟨za1, za2, zb1, zb2, zc1, zc2, hsh⟩ := inP_shapeQ (OwT.toIn ho)
          simp only [Value.agg.injEq, Array.mk.injEq, List.cons.injEq, and_true] at hsh
          obtain ⟨rfl, rfl, rfl⟩ := hsh
          have HB_sbdofhjk := Lib.hid (bt HB_sbdofhj.out hb)
          have R_sbdofhjk := Lib.hid (R_sbdofhj.out.below hb)
          have V_sbdofhjk := Lib.hid (V_sbdofhj.out.below hb)
          have A_sbdofhjk := Lib.hid (A_sbdofhj.out.below hb)
          have RS_sbdofhjk := Lib.hid (RS_sbdofhj.out.below hb)
          have LS_sbdofhjk := Lib.hid (LS_sbdofhj.out.below hb)
          have CS_sbdofhjk := Lib.hid (CS_sbdofhj.out.below hb)
          have LO_sbdofhjk := Lib.hid (LO_sbdofhj.out.below hb)
          have CB_sbdofhjk := Lib.hid (CB_sbdofhj.out.below hb)
          have Z_sbdofhjk := Lib.hid (Z_sbdofhj.out.below hb)
          have CRS_sbdofhjk := Lib.hid (CRS_sbdofhj.out.below hb)
          have CLS_sbdofhjk := Lib.hid (CLS_sbdofhj.out.below hb)
          have CCS_sbdofhjk := Lib.hid (CCS_sbdofhj.out.below hb)
          have OT_sbdofhjk := Lib.hid (ho)
          clear ho
          clear hb
          go_wp2_with fail
          refine hK.out _ _ (show _ from ⟨⟨R_sbdofhjk.out.1, R_sbdofhjk.out.2.1, R_sbdofhjk.out.2.2⟩, ⟨V_sbdofhjk.out.1, V_sbdofhjk.out.2⟩⟩) (fun hHeld => ?_)
          clear hK K
          try simp only [Act.put, List.getElem_toArray, List.getElem_cons_succ, List.getElem_cons_zero, List.setIfInBounds_toArray, List.set_cons_zero, List.set_cons_succ]
          refine wpAnyH_take (i := 11) (v := ?_) rfl (by kernel_rfl) (by kernel_rfl) (by kernel_rfl) (fun _ _ _ h => h) (Or.inl ⟨by kernel_rfl, ?_⟩) (by assumption) ?_
          rotate_left 1
          · intro w9 hSw
            try dsimp only at hSw
            go_simp
            try with_reducible rfl
          try simp only [Act.put, List.getElem_toArray, List.getElem_cons_succ, List.getElem_cons_zero, List.setIfInBounds_toArray, List.set_cons_zero, List.set_cons_succ]
          refine wpAnyH_take (i := 12) (v := ?_) rfl (by kernel_rfl) (by kernel_rfl) (by kernel_rfl) (fun _ _ _ h => h) (Or.inl ⟨by kernel_rfl, ?_⟩) (by assumption) ?_
          rotate_left 1
          · intro w9 hSw
            try dsimp only at hSw
            go_simp
            try with_reducible rfl
          try simp only [Act.put, List.getElem_toArray, List.getElem_cons_succ, List.getElem_cons_zero, List.setIfInBounds_toArray, List.set_cons_zero, List.set_cons_succ]
          refine wpAnyH_take (i := 13) (v := ?_) rfl (by kernel_rfl) (by kernel_rfl) (by kernel_rfl) (fun _ _ _ h => h) (Or.inl ⟨by kernel_rfl, ?_⟩) (by assumption) ?_
          rotate_left 1
          · intro w9 hSw
            try dsimp only at hSw
            go_simp
            try with_reducible rfl
          try simp only [Act.put, List.getElem_toArray, List.getElem_cons_succ, List.getElem_cons_zero, List.setIfInBounds_toArray, List.set_cons_zero, List.set_cons_succ]
          have hm5 := mid3 Wsbdofhjk (Wsbd.heap.size) (.slice za1 res.c.length za2) (.slice zb1 res.h.length zb2) (.slice zc1 res.r.length zc2)
          have R_y := Lib.hid (gr_midw R_sbdofhjk.out hm5 (.inl (Nat.lt_of_lt_of_le LR9.out LB.out)))
          have V_y := Lib.hid (d2_midw V_sbdofhjk.out hm5 (.inl (Nat.lt_of_lt_of_le LV9.out LB.out)))
          have BX : BoxP u1 (((Wsbdofhjk.setCell ⟨Wsbd.heap.size, 0, none⟩ (.slice za1 res.c.length za2)).setCell ⟨Wsbd.heap.size, 1, none⟩ (.slice zb1 res.h.length zb2)).setCell ⟨Wsbd.heap.size, 2, none⟩ (.slice zc1 res.r.length zc2)) (Wsbd.heap.size) (.slice za1 res.c.length za2) (.slice zb1 res.h.length zb2) (.slice zc1 res.r.length zc2) res := (by first | exact boxP_mk LO_sbdofhjk.out LB.out Z_sbdofhjk.out OT_sbdofhjk.out (.inl LQ.out) | exact boxP_mk LO_sbdofhjk.out LB.out Z_sbdofhjk.out OT_sbdofhjk.out (.inr LD.out))
          have BX := Lib.hid BX
          clear hm5
          refine wpAnyH_ready (rs := [15]) (by kernel_rfl) (by simp) ?_
          refine AllReadyH.cons rfl (fun K hK => ?_) AllReadyH.nil
          obtain ⟨y0, y1, y2, yf⟩ := Z_sbdofhjk.out
          have yf0 := yf 0
          have yf1 := yf 1
          have yf2 := yf 2
          clear yf
          go_simp
          refine hK.out _ _ (show _ from ⟨⟨R_y.out.1, R_y.out.2.1, R_y.out.2.2⟩, ⟨V_y.out.1, V_y.out.2⟩⟩) (fun hHeld => ?_)
          clear hK K
          try simp only [Act.put, List.getElem_toArray, List.getElem_cons_succ, List.getElem_cons_zero, List.setIfInBounds_toArray, List.set_cons_zero, List.set_cons_succ]
          refine wpAnyH_take (i := 16) (v := ?_) rfl (by kernel_rfl) (by kernel_rfl) (by kernel_rfl) (fun _ _ _ h => h) (Or.inl ⟨by kernel_rfl, ?_⟩) (by assumption) ?_
          rotate_left 1
          · intro w9 hSw
            try dsimp only at hSw
            go_simp
            try with_reducible rfl
          try simp only [Act.put, List.getElem_toArray, List.getElem_cons_succ, List.getElem_cons_zero, List.setIfInBounds_toArray, List.set_cons_zero, List.set_cons_succ]
          refine wpAnyH_done (by kernel_rfl) ?_ _
          go_wp2_with fail
          go_meet
          exact ⟨_, _, _, _, _, _, _, rfl, rfl, BX.out⟩
      · go_simp
        have hb := ba Wsb (.cells #[.slice none 0 0, .slice none 0 0, .slice none 0 0] 49)
        have HB_sbo := Lib.hid (bt HB_sb.out hb)
        have R_sbo := Lib.hid (R_sb.out.below hb)
        have V_sbo := Lib.hid (V_sb.out.below hb)
        have A_sbo := Lib.hid (A_sb.out.below hb)
        have RS_sbo := Lib.hid (RS_sb.out.below hb)
        have LS_sbo := Lib.hid (LS_sb.out.below hb)
        have CS_sbo := Lib.hid (CS_sb.out.below hb)
        have LO_sbo := Lib.hid (LO_sb.out.below hb)
        have Z_sbo := Lib.hid (show B3 (Wsb.alloc (.cells #[.slice none 0 0, .slice none 0 0, .slice none 0 0] 49)) Wsb.heap.size (.slice none 0 0) (.slice none 0 0) (.slice none 0 0) from b3_new Wsb _ _ _ 49)
        have LB := Lib.hid (show u1.heap.size ≤ Wsb.heap.size from LO_sb.out.size)
        (first | have LD := Lib.hid OT_sb.out.le | skip)
        clear hb
        refine hK.out _ _ (show _ from ⟨⟨R_sbo.out.1, R_sbo.out.2.1, R_sbo.out.2.2⟩, ⟨V_sbo.out.1, V_sbo.out.2⟩⟩) (fun hHeld => ?_)
        clear hK K
        try simp only [Act.put, List.getElem_toArray, List.getElem_cons_succ, List.getElem_cons_zero, List.setIfInBounds_toArray, List.set_cons_zero, List.set_cons_succ]
        generalize hW9 : Wsb.alloc (.cells #[.slice none 0 0, .slice none 0 0, .slice none 0 0] 49) = Wsbo at *
        clear hW9
        refine wpAnyH_ready (rs := [3]) (by kernel_rfl) (by simp) ?_
        refine AllReadyH.cons rfl (fun K hK => ?_) (AllReadyH.nil)
        go_simp
        go_at_call 27
        refine (toBas_any A_sbo.out (by omega)).mono ?_
        rintro e' Wsbod ⟨yw, rfl, ho, hb⟩
        have HB_sbod := Lib.hid (bt HB_sbo.out hb)
        have R_sbod := Lib.hid (R_sbo.out.below hb)
        have V_sbod := Lib.hid (V_sbo.out.below hb)
        have A_sbod := Lib.hid (A_sbo.out.below hb)
        have RS_sbod := Lib.hid (RS_sbo.out.below hb)
        have LS_sbod := Lib.hid (LS_sbo.out.below hb)
        have CS_sbod := Lib.hid (CS_sbo.out.below hb)
        have LO_sbod := Lib.hid (LO_sbo.out.below hb)
        have Z_sbod := Lib.hid (Z_sbo.out.below hb)
        have CB_sbod := Lib.hid (ho.toIn)
        clear ho
        clear hb
        go_wp2_with fail
        refine hK.out _ _ (show _ from ⟨⟨R_sbod.out.1, R_sbod.out.2.1, R_sbod.out.2.2⟩, ⟨V_sbod.out.1, V_sbod.out.2⟩⟩) (fun hHeld => ?_)
        clear hK K
        try simp only [Act.put, List.getElem_toArray, List.getElem_cons_succ, List.getElem_cons_zero, List.setIfInBounds_toArray, List.set_cons_zero, List.set_cons_succ]
        refine wpAnyH_ready (rs := [5]) (by kernel_rfl) (by simp) ?_
        refine AllReadyH.cons rfl (fun K hK => ?_) (AllReadyH.nil)
        go_simp
        go_at_call 28
        refine (toI_any RS_sbod.out (by omega)).mono ?_
        rintro e' Wsbodf ⟨xrs, rfl, ho, hb⟩
        have HB_sbodf := Lib.hid (bt HB_sbod.out hb)
        have R_sbodf := Lib.hid (R_sbod.out.below hb)
        have V_sbodf := Lib.hid (V_sbod.out.below hb)
        have A_sbodf := Lib.hid (A_sbod.out.below hb)
        have RS_sbodf := Lib.hid (RS_sbod.out.below hb)
        have LS_sbodf := Lib.hid (LS_sbod.out.below hb)
        have CS_sbodf := Lib.hid (CS_sbod.out.below hb)
        have LO_sbodf := Lib.hid (LO_sbod.out.below hb)
        have Z_sbodf := Lib.hid (Z_sbod.out.below hb)
        have CB_sbodf := Lib.hid (CB_sbod.out.below hb)
        have CRS_sbodf := Lib.hid (ho.toIn)
        clear ho
        clear hb
        go_wp2_with fail
        refine hK.out _ _ (show _ from ⟨⟨R_sbodf.out.1, R_sbodf.out.2.1, R_sbodf.out.2.2⟩, ⟨V_sbodf.out.1, V_sbodf.out.2⟩⟩) (fun hHeld => ?_)
        clear hK K
        try simp only [Act.put, List.getElem_toArray, List.getElem_cons_succ, List.getElem_cons_zero, List.setIfInBounds_toArray, List.set_cons_zero, List.set_cons_succ]
        refine wpAnyH_ready (rs := [7]) (by kernel_rfl) (by simp) ?_
        refine AllReadyH.cons rfl (fun K hK => ?_) (AllReadyH.nil)
        go_simp
        go_at_call 28
        refine (toI_any LS_sbodf.out (by omega)).mono ?_
        rintro e' Wsbodfh ⟨xls, rfl, ho, hb⟩
        have HB_sbodfh := Lib.hid (bt HB_sbodf.out hb)
        have R_sbodfh := Lib.hid (R_sbodf.out.below hb)
        have V_sbodfh := Lib.hid (V_sbodf.out.below hb)
        have A_sbodfh := Lib.hid (A_sbodf.out.below hb)
        have RS_sbodfh := Lib.hid (RS_sbodf.out.below hb)
        have LS_sbodfh := Lib.hid (LS_sbodf.out.below hb)
        have CS_sbodfh := Lib.hid (CS_sbodf.out.below hb)
        have LO_sbodfh := Lib.hid (LO_sbodf.out.below hb)
        have Z_sbodfh := Lib.hid (Z_sbodf.out.below hb)
        have CB_sbodfh := Lib.hid (CB_sbodf.out.below hb)
        have CRS_sbodfh := Lib.hid (CRS_sbodf.out.below hb)
        have CLS_sbodfh := Lib.hid (ho.toIn)
        clear ho
        clear hb
        go_wp2_with fail
        refine hK.out _ _ (show _ from ⟨⟨R_sbodfh.out.1, R_sbodfh.out.2.1, R_sbodfh.out.2.2⟩, ⟨V_sbodfh.out.1, V_sbodfh.out.2⟩⟩) (fun hHeld => ?_)
        clear hK K
        try simp only [Act.put, List.getElem_toArray, List.getElem_cons_succ, List.getElem_cons_zero, List.setIfInBounds_toArray, List.set_cons_zero, List.set_cons_succ]
        refine wpAnyH_ready (rs := [9]) (by kernel_rfl) (by simp) ?_
        refine AllReadyH.cons rfl (fun K hK => ?_) (AllReadyH.nil)
        go_simp
        go_at_call 28
        refine (toI_any CS_sbodfh.out (by omega)).mono ?_
        rintro e' Wsbodfhj ⟨xcs, rfl, ho, hb⟩
        have HB_sbodfhj := Lib.hid (bt HB_sbodfh.out hb)
        have R_sbodfhj := Lib.hid (R_sbodfh.out.below hb)
        have V_sbodfhj := Lib.hid (V_sbodfh.out.below hb)
        have A_sbodfhj := Lib.hid (A_sbodfh.out.below hb)
        have RS_sbodfhj := Lib.hid (RS_sbodfh.out.below hb)
        have LS_sbodfhj := Lib.hid (LS_sbodfh.out.below hb)
        have CS_sbodfhj := Lib.hid (CS_sbodfh.out.below hb)
        have LO_sbodfhj := Lib.hid (LO_sbodfh.out.below hb)
        have Z_sbodfhj := Lib.hid (Z_sbodfh.out.below hb)
        have CB_sbodfhj := Lib.hid (CB_sbodfh.out.below hb)
        have CRS_sbodfhj := Lib.hid (CRS_sbodfh.out.below hb)
        have CLS_sbodfhj := Lib.hid (CLS_sbodfh.out.below hb)
        have CCS_sbodfhj := Lib.hid (ho.toIn)
        clear ho
        clear hb
        go_wp2_with fail
        refine hK.out _ _ (show _ from ⟨⟨R_sbodfhj.out.1, R_sbodfhj.out.2.1, R_sbodfhj.out.2.2⟩, ⟨V_sbodfhj.out.1, V_sbodfhj.out.2⟩⟩) (fun hHeld => ?_)
        clear hK K
        try simp only [Act.put, List.getElem_toArray, List.getElem_cons_succ, List.getElem_cons_zero, List.setIfInBounds_toArray, List.set_cons_zero, List.set_cons_succ]
        refine wpAnyH_ready (rs := [10]) (by kernel_rfl) (by simp) ?_
        refine AllReadyH.cons rfl (fun K hK => ?_) (AllReadyH.nil)
        go_simp
        (first | have LQ := Lib.hid Z_sbodfhj.out.lt | skip)
        have LQS := Lib.hid LO_sbodfhj.out.size
        go_at_call 25
        refine (sProveSum_any P0 Q0 G0 H1 hsl lrs lls lcs CB_sbodfhj.out CRS_sbodfhj.out CLS_sbodfhj.out CCS_sbodfhj.out).mono ?_
        rw [HV.out, HK.out]
        rintro e' Wsbodfhjk ⟨za, zb, zc, rfl, ho, hb⟩
        obtain ⟨za1, za2, zb1, zb2, zc1, zc2, hsh⟩ := inP_shapeQ (OwT.toIn ho)
        simp only [Value.agg.injEq, Array.mk.injEq, List.cons.injEq, and_true] at hsh
        obtain ⟨rfl, rfl, rfl⟩ := hsh
        have HB_sbodfhjk := Lib.hid (bt HB_sbodfhj.out hb)
        have R_sbodfhjk := Lib.hid (R_sbodfhj.out.below hb)
        have V_sbodfhjk := Lib.hid (V_sbodfhj.out.below hb)
        have A_sbodfhjk := Lib.hid (A_sbodfhj.out.below hb)
        have RS_sbodfhjk := Lib.hid (RS_sbodfhj.out.below hb)
        have LS_sbodfhjk := Lib.hid (LS_sbodfhj.out.below hb)
        have CS_sbodfhjk := Lib.hid (CS_sbodfhj.out.below hb)
        have LO_sbodfhjk := Lib.hid (LO_sbodfhj.out.below hb)
        have Z_sbodfhjk := Lib.hid (Z_sbodfhj.out.below hb)
        have CB_sbodfhjk := Lib.hid (CB_sbodfhj.out.below hb)
        have CRS_sbodfhjk := Lib.hid (CRS_sbodfhj.out.below hb)
        have CLS_sbodfhjk := Lib.hid (CLS_sbodfhj.out.below hb)
        have CCS_sbodfhjk := Lib.hid (CCS_sbodfhj.out.below hb)
        have OT_sbodfhjk := Lib.hid (ho)
        clear ho
        clear hb
        go_wp2_with fail
        refine hK.out _ _ (show _ from ⟨⟨R_sbodfhjk.out.1, R_sbodfhjk.out.2.1, R_sbodfhjk.out.2.2⟩, ⟨V_sbodfhjk.out.1, V_sbodfhjk.out.2⟩⟩) (fun hHeld => ?_)
        clear hK K
        try simp only [Act.put, List.getElem_toArray, List.getElem_cons_succ, List.getElem_cons_zero, List.setIfInBounds_toArray, List.set_cons_zero, List.set_cons_succ]
        refine wpAnyH_take (i := 11) (v := ?_) rfl (by kernel_rfl) (by kernel_rfl) (by kernel_rfl) (fun _ _ _ h => h) (Or.inl ⟨by kernel_rfl, ?_⟩) (by assumption) ?_
        rotate_left 1
        · intro w9 hSw
          try dsimp only at hSw
          go_simp
          try with_reducible rfl
        try simp only [Act.put, List.getElem_toArray, List.getElem_cons_succ, List.getElem_cons_zero, List.setIfInBounds_toArray, List.set_cons_zero, List.set_cons_succ]
        refine wpAnyH_take (i := 12) (v := ?_) rfl (by kernel_rfl) (by kernel_rfl) (by kernel_rfl) (fun _ _ _ h => h) (Or.inl ⟨by kernel_rfl, ?_⟩) (by assumption) ?_
        rotate_left 1
        · intro w9 hSw
          try dsimp only at hSw
          go_simp
          try with_reducible rfl
        try simp only [Act.put, List.getElem_toArray, List.getElem_cons_succ, List.getElem_cons_zero, List.setIfInBounds_toArray, List.set_cons_zero, List.set_cons_succ]
        refine wpAnyH_take (i := 13) (v := ?_) rfl (by kernel_rfl) (by kernel_rfl) (by kernel_rfl) (fun _ _ _ h => h) (Or.inl ⟨by kernel_rfl, ?_⟩) (by assumption) ?_
        rotate_left 1
        · intro w9 hSw
          try dsimp only at hSw
          go_simp
          try with_reducible rfl
        try simp only [Act.put, List.getElem_toArray, List.getElem_cons_succ, List.getElem_cons_zero, List.setIfInBounds_toArray, List.set_cons_zero, List.set_cons_succ]
        have hm5 := mid3 Wsbodfhjk (Wsb.heap.size) (.slice za1 res.c.length za2) (.slice zb1 res.h.length zb2) (.slice zc1 res.r.length zc2)
        have R_y := Lib.hid (gr_midw R_sbodfhjk.out hm5 (.inl (Nat.lt_of_lt_of_le LR9.out LB.out)))
        have V_y := Lib.hid (d2_midw V_sbodfhjk.out hm5 (.inl (Nat.lt_of_lt_of_le LV9.out LB.out)))
        have BX : BoxP u1 (((Wsbodfhjk.setCell ⟨Wsb.heap.size, 0, none⟩ (.slice za1 res.c.length za2)).setCell ⟨Wsb.heap.size, 1, none⟩ (.slice zb1 res.h.length zb2)).setCell ⟨Wsb.heap.size, 2, none⟩ (.slice zc1 res.r.length zc2)) (Wsb.heap.size) (.slice za1 res.c.length za2) (.slice zb1 res.h.length zb2) (.slice zc1 res.r.length zc2) res := (by first | exact boxP_mk LO_sbodfhjk.out LB.out Z_sbodfhjk.out OT_sbodfhjk.out (.inl LQ.out) | exact boxP_mk LO_sbodfhjk.out LB.out Z_sbodfhjk.out OT_sbodfhjk.out (.inr LD.out))
        have BX := Lib.hid BX
        clear hm5
        refine wpAnyH_ready (rs := [15]) (by kernel_rfl) (by simp) ?_
        refine AllReadyH.cons rfl (fun K hK => ?_) AllReadyH.nil
        obtain ⟨y0, y1, y2, yf⟩ := Z_sbodfhjk.out
        have yf0 := yf 0
        have yf1 := yf 1
        have yf2 := yf 2
        clear yf
        go_simp
        refine hK.out _ _ (show _ from ⟨⟨R_y.out.1, R_y.out.2.1, R_y.out.2.2⟩, ⟨V_y.out.1, V_y.out.2⟩⟩) (fun hHeld => ?_)
        clear hK K
        try simp only [Act.put, List.getElem_toArray, List.getElem_cons_succ, List.getElem_cons_zero, List.setIfInBounds_toArray, List.set_cons_zero, List.set_cons_succ]
        refine wpAnyH_take (i := 16) (v := ?_) rfl (by kernel_rfl) (by kernel_rfl) (by kernel_rfl) (fun _ _ _ h => h) (Or.inl ⟨by kernel_rfl, ?_⟩) (by assumption) ?_
        rotate_left 1
        · intro w9 hSw
          try dsimp only at hSw
          go_simp
          try with_reducible rfl
        try simp only [Act.put, List.getElem_toArray, List.getElem_cons_succ, List.getElem_cons_zero, List.setIfInBounds_toArray, List.set_cons_zero, List.set_cons_succ]
        refine wpAnyH_done (by kernel_rfl) ?_ _
        go_wp2_with fail
        go_meet
        exact ⟨_, _, _, _, _, _, _, rfl, rfl, BX.out⟩
    · go_simp
      have hb := ba Ws (.cells #[.slice none 0 0, .slice none 0 0, .slice none 0 0] 49)
      have HB_so := Lib.hid (bt HB_s.out hb)
      have R_so := Lib.hid (R_s.out.below hb)
      have V_so := Lib.hid (V_s.out.below hb)
      have A_so := Lib.hid (A_s.out.below hb)
      have RS_so := Lib.hid (RS_s.out.below hb)
      have LS_so := Lib.hid (LS_s.out.below hb)
      have CS_so := Lib.hid (CS_s.out.below hb)
      have LO_so := Lib.hid (LO_s.out.below hb)
      have Z_so := Lib.hid (show B3 (Ws.alloc (.cells #[.slice none 0 0, .slice none 0 0, .slice none 0 0] 49)) Ws.heap.size (.slice none 0 0) (.slice none 0 0) (.slice none 0 0) from b3_new Ws _ _ _ 49)
      have LB := Lib.hid (show u1.heap.size ≤ Ws.heap.size from LO_s.out.size)
      (first | have LD := Lib.hid OT_s.out.le | skip)
      clear hb
      refine hK.out _ _ (show _ from ⟨⟨R_so.out.1, R_so.out.2.1, R_so.out.2.2⟩, ⟨V_so.out.1, V_so.out.2⟩⟩) (fun hHeld => ?_)
      clear hK K
      try simp only [Act.put, List.getElem_toArray, List.getElem_cons_succ, List.getElem_cons_zero, List.setIfInBounds_toArray, List.set_cons_zero, List.set_cons_succ]
      generalize hW9 : Ws.alloc (.cells #[.slice none 0 0, .slice none 0 0, .slice none 0 0] 49) = Wso at *
      clear hW9
      refine wpAnyH_ready (rs := [1]) (by kernel_rfl) (by simp) ?_
      refine AllReadyH.cons rfl (fun K hK => ?_) (AllReadyH.nil)
      go_simp
      go_at_call 26
      refine (toGroup_any _ _ _ _).mono ?_
      rintro e' Wsob ⟨rfl, hb⟩
      have HB_sob := Lib.hid (bt HB_so.out hb)
      have R_sob := Lib.hid (R_so.out.below hb)
      have V_sob := Lib.hid (V_so.out.below hb)
      have A_sob := Lib.hid (A_so.out.below hb)
      have RS_sob := Lib.hid (RS_so.out.below hb)
      have LS_sob := Lib.hid (LS_so.out.below hb)
      have CS_sob := Lib.hid (CS_so.out.below hb)
      have LO_sob := Lib.hid (LO_so.out.below hb)
      have Z_sob := Lib.hid (Z_so.out.below hb)
      clear hb
      go_wp2_with fail
      refine hK.out _ _ (show _ from ⟨⟨R_sob.out.1, R_sob.out.2.1, R_sob.out.2.2⟩, ⟨V_sob.out.1, V_sob.out.2⟩⟩) (fun hHeld => ?_)
      clear hK K
      try simp only [Act.put, List.getElem_toArray, List.getElem_cons_succ, List.getElem_cons_zero, List.setIfInBounds_toArray, List.set_cons_zero, List.set_cons_succ]
      refine wpAnyH_ready (rs := [3]) (by kernel_rfl) (by simp) ?_
      refine AllReadyH.cons rfl (fun K hK => ?_) (AllReadyH.nil)
      go_simp
      go_at_call 27
      refine (toBas_any A_sob.out (by omega)).mono ?_
      rintro e' Wsobd ⟨yw, rfl, ho, hb⟩
      have HB_sobd := Lib.hid (bt HB_sob.out hb)
      have R_sobd := Lib.hid (R_sob.out.below hb)
      have V_sobd := Lib.hid (V_sob.out.below hb)
      have A_sobd := Lib.hid (A_sob.out.below hb)
      have RS_sobd := Lib.hid (RS_sob.out.below hb)
      have LS_sobd := Lib.hid (LS_sob.out.below hb)
      have CS_sobd := Lib.hid (CS_sob.out.below hb)
      have LO_sobd := Lib.hid (LO_sob.out.below hb)
      have Z_sobd := Lib.hid (Z_sob.out.below hb)
      have CB_sobd := Lib.hid (ho.toIn)
      clear ho
      clear hb
      go_wp2_with fail
      refine hK.out _ _ (show _ from ⟨⟨R_sobd.out.1, R_sobd.out.2.1, R_sobd.out.2.2⟩, ⟨V_sobd.out.1, V_sobd.out.2⟩⟩) (fun hHeld => ?_)
      clear hK K
      try simp only [Act.put, List.getElem_toArray, List.getElem_cons_succ, List.getElem_cons_zero, List.setIfInBounds_toArray, List.set_cons_zero, List.set_cons_succ]
      refine wpAnyH_ready (rs := [5]) (by kernel_rfl) (by simp) ?_
      refine AllReadyH.cons rfl (fun K hK => ?_) (AllReadyH.nil)
      go_simp
      go_at_call 28
      refine (toI_any RS_sobd.out (by omega)).mono ?_
      rintro e' Wsobdf ⟨xrs, rfl, ho, hb⟩
      have HB_sobdf := Lib.hid (bt HB_sobd.out hb)
      have R_sobdf := Lib.hid (R_sobd.out.below hb)
      have V_sobdf := Lib.hid (V_sobd.out.below hb)
      have A_sobdf := Lib.hid (A_sobd.out.below hb)
      have RS_sobdf := Lib.hid (RS_sobd.out.below hb)
      have LS_sobdf := Lib.hid (LS_sobd.out.below hb)
      have CS_sobdf := Lib.hid (CS_sobd.out.below hb)
      have LO_sobdf := Lib.hid (LO_sobd.out.below hb)
      have Z_sobdf := Lib.hid (Z_sobd.out.below hb)
      have CB_sobdf := Lib.hid (CB_sobd.out.below hb)
      have CRS_sobdf := Lib.hid (ho.toIn)
      clear ho
      clear hb
      go_wp2_with fail
      refine hK.out _ _ (show _ from ⟨⟨R_sobdf.out.1, R_sobdf.out.2.1, R_sobdf.out.2.2⟩, ⟨V_sobdf.out.1, V_sobdf.out.2⟩⟩) (fun hHeld => ?_)
      clear hK K
      try simp only [Act.put, List.getElem_toArray, List.getElem_cons_succ, List.getElem_cons_zero, List.setIfInBounds_toArray, List.set_cons_zero, List.set_cons_succ]
      refine wpAnyH_ready (rs := [7]) (by kernel_rfl) (by simp) ?_
      refine AllReadyH.cons rfl (fun K hK => ?_) (AllReadyH.nil)
      go_simp
      go_at_call 28
      refine (toI_any LS_sobdf.out (by omega)).mono ?_
      rintro e' Wsobdfh ⟨xls, rfl, ho, hb⟩
      have HB_sobdfh := Lib.hid (bt HB_sobdf.out hb)
      have R_sobdfh := Lib.hid (R_sobdf.out.below hb)
      have V_sobdfh := Lib.hid (V_sobdf.out.below hb)
      have A_sobdfh := Lib.hid (A_sobdf.out.below hb)
      have RS_sobdfh := Lib.hid (RS_sobdf.out.below hb)
      have LS_sobdfh := Lib.hid (LS_sobdf.out.below hb)
      have CS_sobdfh := Lib.hid (CS_sobdf.out.below hb)
      have LO_sobdfh := Lib.hid (LO_sobdf.out.below hb)
      have Z_sobdfh := Lib.hid (Z_sobdf.out.below hb)
      have CB_sobdfh := Lib.hid (CB_sobdf.out.below hb)
      have CRS_sobdfh := Lib.hid (CRS_sobdf.out.below hb)
      have CLS_sobdfh := Lib.hid (ho.toIn)
      clear ho
      clear hb
      go_wp2_with fail
      refine hK.out _ _ (show _ from ⟨⟨R_sobdfh.out.1, R_sobdfh.out.2.1, R_sobdfh.out.2.2⟩, ⟨V_sobdfh.out.1, V_sobdfh.out.2⟩⟩) (fun hHeld => ?_)
      clear hK K
      try simp only [Act.put, List.getElem_toArray, List.getElem_cons_succ, List.getElem_cons_zero, List.setIfInBounds_toArray, List.set_cons_zero, List.set_cons_succ]
      refine wpAnyH_ready (rs := [9]) (by kernel_rfl) (by simp) ?_
      refine AllReadyH.cons rfl (fun K hK => ?_) (AllReadyH.nil)
      go_simp
      go_at_call 28
      refine (toI_any CS_sobdfh.out (by omega)).mono ?_
      rintro e' Wsobdfhj ⟨xcs, rfl, ho, hb⟩
      have HB_sobdfhj := Lib.hid (bt HB_sobdfh.out hb)
      have R_sobdfhj := Lib.hid (R_sobdfh.out.below hb)
      have V_sobdfhj := Lib.hid (V_sobdfh.out.below hb)
      have A_sobdfhj := Lib.hid (A_sobdfh.out.below hb)
      have RS_sobdfhj := Lib.hid (RS_sobdfh.out.below hb)
      have LS_sobdfhj := Lib.hid (LS_sobdfh.out.below hb)
      have CS_sobdfhj := Lib.hid (CS_sobdfh.out.below hb)
      have LO_sobdfhj := Lib.hid (LO_sobdfh.out.below hb)
      have Z_sobdfhj := Lib.hid (Z_sobdfh.out.below hb)
      have CB_sobdfhj := Lib.hid (CB_sobdfh.out.below hb)
      have CRS_sobdfhj := Lib.hid (CRS_sobdfh.out.below hb)
      have CLS_sobdfhj := Lib.hid (CLS_sobdfh.out.below hb)
      have CCS_sobdfhj := Lib.hid (ho.toIn)
      clear ho
      clear hb
      go_wp2_with fail
      refine hK.out _ _ (show _ from ⟨⟨R_sobdfhj.out.1, R_sobdfhj.out.2.1, R_sobdfhj.out.2.2⟩, ⟨V_sobdfhj.out.1, V_sobdfhj.out.2⟩⟩) (fun hHeld => ?_)
      clear hK K
      try simp only [Act.put, List.getElem_toArray, List.getElem_cons_succ, List.getElem_cons_zero, List.setIfInBounds_toArray, List.set_cons_zero, List.set_cons_succ]
      refine wpAnyH_ready (rs := [10]) (by kernel_rfl) (by simp) ?_
      refine AllReadyH.cons rfl (fun K hK => ?_) (AllReadyH.nil)
      go_simp
      (first | have LQ := Lib.hid Z_sobdfhj.out.lt | skip)
      have LQS := Lib.hid LO_sobdfhj.out.size
      go_at_call 25
      refine (sProveSum_any P0 Q0 G0 H1 hsl lrs lls lcs CB_sobdfhj.out CRS_sobdfhj.out CLS_sobdfhj.out CCS_sobdfhj.out).mono ?_
      rw [HV.out, HK.out]
      rintro e' Wsobdfhjk ⟨za, zb, zc, rfl, ho, hb⟩
      obtain ⟨za1, za2, zb1, zb2, zc1, zc2, hsh⟩ := inP_shapeQ (OwT.toIn ho)
      simp only [Value.agg.injEq, Array.mk.injEq, List.cons.injEq, and_true] at hsh
      obtain ⟨rfl, rfl, rfl⟩ := hsh
      have HB_sobdfhjk := Lib.hid (bt HB_sobdfhj.out hb)
      have R_sobdfhjk := Lib.hid (R_sobdfhj.out.below hb)
      have V_sobdfhjk := Lib.hid (V_sobdfhj.out.below hb)
      have A_sobdfhjk := Lib.hid (A_sobdfhj.out.below hb)
      have RS_sobdfhjk := Lib.hid (RS_sobdfhj.out.below hb)
      have LS_sobdfhjk := Lib.hid (LS_sobdfhj.out.below hb)
      have CS_sobdfhjk := Lib.hid (CS_sobdfhj.out.below hb)
      have LO_sobdfhjk := Lib.hid (LO_sobdfhj.out.below hb)
      have Z_sobdfhjk := Lib.hid (Z_sobdfhj.out.below hb)
      have CB_sobdfhjk := Lib.hid (CB_sobdfhj.out.below hb)
      have CRS_sobdfhjk := Lib.hid (CRS_sobdfhj.out.below hb)
      have CLS_sobdfhjk := Lib.hid (CLS_sobdfhj.out.below hb)
      have CCS_sobdfhjk := Lib.hid (CCS_sobdfhj.out.below hb)
      have OT_sobdfhjk := Lib.hid (ho)
      clear ho
      clear hb
      go_wp2_with fail
      refine hK.out _ _ (show _ from ⟨⟨R_sobdfhjk.out.1, R_sobdfhjk.out.2.1, R_sobdfhjk.out.2.2⟩, ⟨V_sobdfhjk.out.1, V_sobdfhjk.out.2⟩⟩) (fun hHeld => ?_)
      clear hK K
      try simp only [Act.put, List.getElem_toArray, List.getElem_cons_succ, List.getElem_cons_zero, List.setIfInBounds_toArray, List.set_cons_zero, List.set_cons_succ]
      refine wpAnyH_take (i := 11) (v := ?_) rfl (by kernel_rfl) (by kernel_rfl) (by kernel_rfl) (fun _ _ _ h => h) (Or.inl ⟨by kernel_rfl, ?_⟩) (by assumption) ?_
      rotate_left 1
      · intro w9 hSw
        try dsimp only at hSw
        go_simp
        try with_reducible rfl
      try simp only [Act.put, List.getElem_toArray, List.getElem_cons_succ, List.getElem_cons_zero, List.setIfInBounds_toArray, List.set_cons_zero, List.set_cons_succ]
      refine wpAnyH_take (i := 12) (v := ?_) rfl (by kernel_rfl) (by kernel_rfl) (by kernel_rfl) (fun _ _ _ h => h) (Or.inl ⟨by kernel_rfl, ?_⟩) (by assumption) ?_
      rotate_left 1
      · intro w9 hSw
        try dsimp only at hSw
        go_simp
        try with_reducible rfl
      try simp only [Act.put, List.getElem_toArray, List.getElem_cons_succ, List.getElem_cons_zero, List.setIfInBounds_toArray, List.set_cons_zero, List.set_cons_succ]
      refine wpAnyH_take (i := 13) (v := ?_) rfl (by kernel_rfl) (by kernel_rfl) (by kernel_rfl) (fun _ _ _ h => h) (Or.inl ⟨by kernel_rfl, ?_⟩) (by assumption) ?_
      rotate_left 1
      · intro w9 hSw
        try dsimp only at hSw
        go_simp
        try with_reducible rfl
      try simp only [Act.put, List.getElem_toArray, List.getElem_cons_succ, List.getElem_cons_zero, List.setIfInBounds_toArray, List.set_cons_zero, List.set_cons_succ]
      have hm5 := mid3 Wsobdfhjk (Ws.heap.size) (.slice za1 res.c.length za2) (.slice zb1 res.h.length zb2) (.slice zc1 res.r.length zc2)
      have R_y := Lib.hid (gr_midw R_sobdfhjk.out hm5 (.inl (Nat.lt_of_lt_of_le LR9.out LB.out)))
      have V_y := Lib.hid (d2_midw V_sobdfhjk.out hm5 (.inl (Nat.lt_of_lt_of_le LV9.out LB.out)))
      have BX : BoxP u1 (((Wsobdfhjk.setCell ⟨Ws.heap.size, 0, none⟩ (.slice za1 res.c.length za2)).setCell ⟨Ws.heap.size, 1, none⟩ (.slice zb1 res.h.length zb2)).setCell ⟨Ws.heap.size, 2, none⟩ (.slice zc1 res.r.length zc2)) (Ws.heap.size) (.slice za1 res.c.length za2) (.slice zb1 res.h.length zb2) (.slice zc1 res.r.length zc2) res := (by first | exact boxP_mk LO_sobdfhjk.out LB.out Z_sobdfhjk.out OT_sobdfhjk.out (.inl LQ.out) | exact boxP_mk LO_sobdfhjk.out LB.out Z_sobdfhjk.out OT_sobdfhjk.out (.inr LD.out))
      have BX := Lib.hid BX
      clear hm5
      refine wpAnyH_ready (rs := [15]) (by kernel_rfl) (by simp) ?_
      refine AllReadyH.cons rfl (fun K hK => ?_) AllReadyH.nil
      obtain ⟨y0, y1, y2, yf⟩ := Z_sobdfhjk.out
      have yf0 := yf 0
      have yf1 := yf 1
      have yf2 := yf 2
      clear yf
      go_simp
      refine hK.out _ _ (show _ from ⟨⟨R_y.out.1, R_y.out.2.1, R_y.out.2.2⟩, ⟨V_y.out.1, V_y.out.2⟩⟩) (fun hHeld => ?_)
      clear hK K
      try simp only [Act.put, List.getElem_toArray, List.getElem_cons_succ, List.getElem_cons_zero, List.setIfInBounds_toArray, List.set_cons_zero, List.set_cons_succ]
      refine wpAnyH_take (i := 16) (v := ?_) rfl (by kernel_rfl) (by kernel_rfl) (by kernel_rfl) (fun _ _ _ h => h) (Or.inl ⟨by kernel_rfl, ?_⟩) (by assumption) ?_
      rotate_left 1
      · intro w9 hSw
        try dsimp only at hSw
        go_simp
        try with_reducible rfl
      try simp only [Act.put, List.getElem_toArray, List.getElem_cons_succ, List.getElem_cons_zero, List.setIfInBounds_toArray, List.set_cons_zero, List.set_cons_succ]
      refine wpAnyH_done (by kernel_rfl) ?_ _
      go_wp2_with fail
      go_meet
      exact ⟨_, _, _, _, _, _, _, rfl, rfl, BX.out⟩
  case rest =>
    obtain ⟨b, w1_, w2_, w3_, w4_, w5_, w6_, rfl, rfl, hbx⟩ := hcut
    have hb := hbx.2.2.1
    have HB_2 := Lib.hid (bt HB_1.out hb)
    have R_2 := Lib.hid (R_1.out.below hb)
    have V_2 := Lib.hid (V_1.out.below hb)
    have A_2 := Lib.hid (A_1.out.below hb)
    have RS_2 := Lib.hid (RS_1.out.below hb)
    have LS_2 := Lib.hid (LS_1.out.below hb)
    have CS_2 := Lib.hid (CS_1.out.below hb)
    have WB_2 := Lib.hid (hbx.1)
    have WL_2 := Lib.hid (hbx.2.1)
    clear hb HB_1 R_1 V_1 A_1 RS_1 LS_1 CS_1
    clear hbx
    have LBR := Lib.hid R_2.out.lt
    have LBV := Lib.hid V_2.out.lt
    have LBA := Lib.hid A_2.out.le
    have LBRS := Lib.hid RS_2.out.le
    have LBLS := Lib.hid LS_2.out.le
    have LBCS := Lib.hid CS_2.out.le
    have LBWB := Lib.hid WB_2.out.lt
    have LBWL := Lib.hid WL_2.out.le
    have LBHB := Lib.hid HB_2.out.size
    obtain ⟨v0, v1⟩ := V_2.out
    go_wp2_with fail
    refine (toBas_any A_2.out (by omega)).mono ?_
    rintro e u2 ⟨yx, rfl, ho, hb1⟩
    obtain ⟨xa, xc, rfl⟩ := ho.toIn.shape
    clear v0 v1
    have hba := ba u2 (.cells #[.int .i64 H1, .slice xa hs.length xc] 53)
    have hb := bt hb1 hba
    have HB_3 := Lib.hid (bt HB_2.out hb)
    have R_3 := Lib.hid (R_2.out.below hb)
    have V_3 := Lib.hid (V_2.out.below hb)
    have A_3 := Lib.hid (A_2.out.below hb)
    have RS_3 := Lib.hid (RS_2.out.below hb)
    have LS_3 := Lib.hid (LS_2.out.below hb)
    have CS_3 := Lib.hid (CS_2.out.below hb)
    have WB_3 := Lib.hid (WB_2.out.below hb)
    have WL_3 := Lib.hid (WL_2.out.below hb)
    have X_3 := Lib.hid (d2_at u2 u2.heap.size rfl (.int .i64 H1) (.slice xa hs.length xc) 53)
    have B_3 := Lib.hid (ho.below hba)
    clear hb HB_2 R_2 V_2 A_2 RS_2 LS_2 CS_2 WB_2 WL_2
    clear ho hb1 hba
    have LCR := Lib.hid R_3.out.lt
    have LCV := Lib.hid V_3.out.lt
    have LCA := Lib.hid A_3.out.le
    have LCRS := Lib.hid RS_3.out.le
    have LCLS := Lib.hid LS_3.out.le
    have LCCS := Lib.hid CS_3.out.le
    have LCWB := Lib.hid WB_3.out.lt
    have LCWL := Lib.hid WL_3.out.le
    have LCHB := Lib.hid HB_3.out.size
    have LCB := Lib.hid B_3.out.le
    obtain ⟨x0, x1⟩ := X_3.out
    go_wp2_with fail
    refine (toI_any RS_3.out (by omega)).mono ?_
    rintro e u3 ⟨qrs, rfl, ho, hb⟩
    have HB_4 := Lib.hid (bt HB_3.out hb)
    have R_4 := Lib.hid (R_3.out.below hb)
    have V_4 := Lib.hid (V_3.out.below hb)
    have A_4 := Lib.hid (A_3.out.below hb)
    have RS_4 := Lib.hid (RS_3.out.below hb)
    have LS_4 := Lib.hid (LS_3.out.below hb)
    have CS_4 := Lib.hid (CS_3.out.below hb)
    have WB_4 := Lib.hid (WB_3.out.below hb)
    have WL_4 := Lib.hid (WL_3.out.below hb)
    have X_4 := Lib.hid (X_3.out.below hb)
    have B_4 := Lib.hid (B_3.out.below hb)
    have QRS_4 := Lib.hid (ho)
    clear hb HB_3 R_3 V_3 A_3 RS_3 LS_3 CS_3 WB_3 WL_3 X_3 B_3
    clear ho
    clear x0 x1
    have LDR := Lib.hid R_4.out.lt
    have LDV := Lib.hid V_4.out.lt
    have LDA := Lib.hid A_4.out.le
    have LDRS := Lib.hid RS_4.out.le
    have LDLS := Lib.hid LS_4.out.le
    have LDCS := Lib.hid CS_4.out.le
    have LDWB := Lib.hid WB_4.out.lt
    have LDWL := Lib.hid WL_4.out.le
    have LDHB := Lib.hid HB_4.out.size
    have LDB := Lib.hid B_4.out.le
    have LDQRS := Lib.hid QRS_4.out.le
    obtain ⟨x0, x1⟩ := X_4.out
    go_wp2_with fail
    refine (toI_any LS_4.out (by omega)).mono ?_
    rintro e u4 ⟨qls, rfl, ho, hb⟩
    have HB_5 := Lib.hid (bt HB_4.out hb)
    have R_5 := Lib.hid (R_4.out.below hb)
    have V_5 := Lib.hid (V_4.out.below hb)
    have A_5 := Lib.hid (A_4.out.below hb)
    have RS_5 := Lib.hid (RS_4.out.below hb)
    have LS_5 := Lib.hid (LS_4.out.below hb)
    have CS_5 := Lib.hid (CS_4.out.below hb)
    have WB_5 := Lib.hid (WB_4.out.below hb)
    have WL_5 := Lib.hid (WL_4.out.below hb)
    have X_5 := Lib.hid (X_4.out.below hb)
    have B_5 := Lib.hid (B_4.out.below hb)
    have QRS_5 := Lib.hid (QRS_4.out.below hb)
    have QLS_5 := Lib.hid (ho)
    clear hb HB_4 R_4 V_4 A_4 RS_4 LS_4 CS_4 WB_4 WL_4 X_4 B_4 QRS_4
    clear ho
    clear x0 x1
    have LER := Lib.hid R_5.out.lt
    have LEV := Lib.hid V_5.out.lt
    have LEA := Lib.hid A_5.out.le
    have LERS := Lib.hid RS_5.out.le
    have LELS := Lib.hid LS_5.out.le
    have LECS := Lib.hid CS_5.out.le
    have LEWB := Lib.hid WB_5.out.lt
    have LEWL := Lib.hid WL_5.out.le
    have LEHB := Lib.hid HB_5.out.size
    have LEB := Lib.hid B_5.out.le
    have LEQRS := Lib.hid QRS_5.out.le
    have LEQLS := Lib.hid QLS_5.out.le
    obtain ⟨x0, x1⟩ := X_5.out
    go_wp2_with fail
    refine (toI_any CS_5.out (by omega)).mono ?_
    rintro e u5 ⟨qcs, rfl, ho, hb⟩
    have HB_6 := Lib.hid (bt HB_5.out hb)
    have R_6 := Lib.hid (R_5.out.below hb)
    have V_6 := Lib.hid (V_5.out.below hb)
    have A_6 := Lib.hid (A_5.out.below hb)
    have RS_6 := Lib.hid (RS_5.out.below hb)
    have LS_6 := Lib.hid (LS_5.out.below hb)
    have CS_6 := Lib.hid (CS_5.out.below hb)
    have WB_6 := Lib.hid (WB_5.out.below hb)
    have WL_6 := Lib.hid (WL_5.out.below hb)
    have X_6 := Lib.hid (X_5.out.below hb)
    have B_6 := Lib.hid (B_5.out.below hb)
    have QRS_6 := Lib.hid (QRS_5.out.below hb)
    have QLS_6 := Lib.hid (QLS_5.out.below hb)
    have QCS_6 := Lib.hid (ho)
    clear hb HB_5 R_5 V_5 A_5 RS_5 LS_5 CS_5 WB_5 WL_5 X_5 B_5 QRS_5 QLS_5
    clear ho
    clear x0 x1
    have LGR := Lib.hid R_6.out.lt
    have LGV := Lib.hid V_6.out.lt
    have LGA := Lib.hid A_6.out.le
    have LGRS := Lib.hid RS_6.out.le
    have LGLS := Lib.hid LS_6.out.le
    have LGCS := Lib.hid CS_6.out.le
    have LGWB := Lib.hid WB_6.out.lt
    have LGWL := Lib.hid WL_6.out.le
    have LGHB := Lib.hid HB_6.out.size
    have LGB := Lib.hid B_6.out.le
    have LGQRS := Lib.hid QRS_6.out.le
    have LGQLS := Lib.hid QLS_6.out.le
    have LGQCS := Lib.hid QCS_6.out.le
    go_upto_region 16 with fail
    go_cut [18, 19] (fun s1 s2 wx => ∃ (b q P : Nat) (a1_ : Option Addr) (c1_ : Nat) (a2_ : Option Addr) (c2_ : Nat) (a3_ : Option Addr) (c3_ : Nat), s1 = .pointer (some ⟨b, 0, none⟩) ∧ s2 = .bool ok ∧ BoxQ u5 wx b q P (.slice a1_ res.c.length c1_) (.slice a2_ res.h.length c2_) (.slice a3_ res.r.length c3_) res)
    case first =>
      have LO_6 := Lib.hid (show Lo u5 u5 from Below.refl _ _)
      have LR9 := Lib.hid (R_6.out.lt)
      have LX9 := Lib.hid (X_6.out.lt)
      have hbd : Below u5.heap.size u5 u5.drew := (Below.refl _ u5).drew
      have HB_s := Lib.hid (bt HB_6.out hbd)
      have R_s := Lib.hid (R_6.out.below hbd)
      have V_s := Lib.hid (V_6.out.below hbd)
      have A_s := Lib.hid (A_6.out.below hbd)
      have RS_s := Lib.hid (RS_6.out.below hbd)
      have LS_s := Lib.hid (LS_6.out.below hbd)
      have CS_s := Lib.hid (CS_6.out.below hbd)
      have WB_s := Lib.hid (WB_6.out.below hbd)
      have WL_s := Lib.hid (WL_6.out.below hbd)
      have X_s := Lib.hid (X_6.out.below hbd)
      have B_s := Lib.hid (B_6.out.below hbd)
      have QRS_s := Lib.hid (QRS_6.out.below hbd)
      have QLS_s := Lib.hid (QLS_6.out.below hbd)
      have QCS_s := Lib.hid (QCS_6.out.below hbd)
      have LO_s := Lib.hid (LO_6.out.below hbd)
      clear hbd
      refine wp_region_held_drew (S := (fun w' => (w'.cell? ⟨w.heap.size, 0, none⟩ = some (.int .i64 P0) ∧ w'.cell? ⟨w.heap.size, 1, none⟩ = some (.int .i64 Q0) ∧ w'.cell? ⟨w.heap.size, 2, none⟩ = some (.int .i64 G0)) ∧ (w'.cell? ⟨u2.heap.size, 0, none⟩ = some (.int .i64 H1) ∧ w'.cell? ⟨u2.heap.size, 1, none⟩ = some (.slice xa hs.length xc)))) (by kernel_rfl) (show _ from ⟨⟨R_6.out.1, R_6.out.2.1, R_6.out.2.2⟩, ⟨X_6.out.1, X_6.out.2⟩⟩) (fun hHeld => ?_)
      generalize hW0 : u5.drew = Ws at *
      clear hW0
      refine wpAnyH_take (i := 0) (v := ?_) rfl (by kernel_rfl) (by kernel_rfl) (by kernel_rfl) (fun _ _ _ h => h) (Or.inl ⟨by kernel_rfl, ?_⟩) (by assumption) ?_
      rotate_left 1
      · intro w9 hSw
        try dsimp only at hSw
        go_simp
        try with_reducible rfl
      try simp only [Act.put, List.getElem_toArray, List.getElem_cons_succ, List.getElem_cons_zero, List.setIfInBounds_toArray, List.set_cons_zero, List.set_cons_succ]
      refine wpAnyH_take (i := 2) (v := ?_) rfl (by kernel_rfl) (by kernel_rfl) (by kernel_rfl) (fun _ _ _ h => h) (Or.inl ⟨by kernel_rfl, ?_⟩) (by assumption) ?_
      rotate_left 1
      · intro w9 hSw
        try dsimp only at hSw
        go_simp
        try with_reducible rfl
      try simp only [Act.put, List.getElem_toArray, List.getElem_cons_succ, List.getElem_cons_zero, List.setIfInBounds_toArray, List.set_cons_zero, List.set_cons_succ]
      refine wpAnyH_take (i := 3) (v := ?_) rfl (by kernel_rfl) (by kernel_rfl) (by kernel_rfl) (fun _ _ _ h => h) (Or.inl ⟨by kernel_rfl, ?_⟩) (by assumption) ?_
      rotate_left 1
      · intro w9 hSw
        try dsimp only at hSw
        go_simp
        try with_reducible rfl
      try simp only [Act.put, List.getElem_toArray, List.getElem_cons_succ, List.getElem_cons_zero, List.setIfInBounds_toArray, List.set_cons_zero, List.set_cons_succ]
      refine wpAnyH_take (i := 4) (v := ?_) rfl (by kernel_rfl) (by kernel_rfl) (by kernel_rfl) (fun _ _ _ h => h) (Or.inl ⟨by kernel_rfl, ?_⟩) (by assumption) ?_
      rotate_left 1
      · intro w9 hSw
        try dsimp only at hSw
        go_simp
        try with_reducible rfl
      try simp only [Act.put, List.getElem_toArray, List.getElem_cons_succ, List.getElem_cons_zero, List.setIfInBounds_toArray, List.set_cons_zero, List.set_cons_succ]
      refine wpAnyH_take (i := 5) (v := ?_) rfl (by kernel_rfl) (by kernel_rfl) (by kernel_rfl) (fun _ _ _ h => h) (Or.inl ⟨by kernel_rfl, ?_⟩) (by assumption) ?_
      rotate_left 1
      · intro w9 hSw
        try dsimp only at hSw
        go_simp
        try with_reducible rfl
      try simp only [Act.put, List.getElem_toArray, List.getElem_cons_succ, List.getElem_cons_zero, List.setIfInBounds_toArray, List.set_cons_zero, List.set_cons_succ]
      refine wpAnyH_ready (rs := [1, 10]) (by kernel_rfl) (by simp) ?_
      refine AllReadyH.cons rfl (fun K hK => ?_) (AllReadyH.cons rfl (fun K hK => ?_) (AllReadyH.nil))
      · go_simp
        go_at_call 26
        refine (toGroup_any _ _ _ _).mono ?_
        rintro e' Wsb ⟨rfl, hb⟩
        have HB_sb := Lib.hid (bt HB_s.out hb)
        have R_sb := Lib.hid (R_s.out.below hb)
        have V_sb := Lib.hid (V_s.out.below hb)
        have A_sb := Lib.hid (A_s.out.below hb)
        have RS_sb := Lib.hid (RS_s.out.below hb)
        have LS_sb := Lib.hid (LS_s.out.below hb)
        have CS_sb := Lib.hid (CS_s.out.below hb)
        have WB_sb := Lib.hid (WB_s.out.below hb)
        have WL_sb := Lib.hid (WL_s.out.below hb)
        have X_sb := Lib.hid (X_s.out.below hb)
        have B_sb := Lib.hid (B_s.out.below hb)
        have QRS_sb := Lib.hid (QRS_s.out.below hb)
        have QLS_sb := Lib.hid (QLS_s.out.below hb)
        have QCS_sb := Lib.hid (QCS_s.out.below hb)
        have LO_sb := Lib.hid (LO_s.out.below hb)
        clear hb
        go_wp2_with fail
        refine hK.out _ _ (show _ from ⟨⟨R_sb.out.1, R_sb.out.2.1, R_sb.out.2.2⟩, ⟨X_sb.out.1, X_sb.out.2⟩⟩) (fun hHeld => ?_)
        clear hK K
        try simp only [Act.put, List.getElem_toArray, List.getElem_cons_succ, List.getElem_cons_zero, List.setIfInBounds_toArray, List.set_cons_zero, List.set_cons_succ]
        refine wpAnyH_ready (rs := [6, 10]) (by kernel_rfl) (by simp) ?_
        refine AllReadyH.cons rfl (fun K hK => ?_) (AllReadyH.cons rfl (fun K hK => ?_) (AllReadyH.nil))
        · go_simp
          (first | have LQ := Lib.hid Z_sb.out.lt | skip)
          have LQS := Lib.hid LO_sb.out.size
          go_at_call 29
          refine (proveSum_any P0 Q0 G0 H1 hsl lrs lls lcs B_sb.out.toIn QRS_sb.out.toIn QLS_sb.out.toIn QCS_sb.out.toIn).mono ?_
          rw [HV.out, HK.out]
          rintro e' Wsbg ⟨za, zb, zc, rfl, ho, hb⟩
          obtain ⟨za1, za2, zb1, zb2, zc1, zc2, hsh⟩ := inP_shapeQ (OwQ.toIn ho)
          simp only [Value.agg.injEq, Array.mk.injEq, List.cons.injEq, and_true] at hsh
          obtain ⟨rfl, rfl, rfl⟩ := hsh
          have HB_sbg := Lib.hid (bt HB_sb.out hb)
          have R_sbg := Lib.hid (R_sb.out.below hb)
          have V_sbg := Lib.hid (V_sb.out.below hb)
          have A_sbg := Lib.hid (A_sb.out.below hb)
          have RS_sbg := Lib.hid (RS_sb.out.below hb)
          have LS_sbg := Lib.hid (LS_sb.out.below hb)
          have CS_sbg := Lib.hid (CS_sb.out.below hb)
          have WB_sbg := Lib.hid (WB_sb.out.below hb)
          have WL_sbg := Lib.hid (WL_sb.out.below hb)
          have X_sbg := Lib.hid (X_sb.out.below hb)
          have B_sbg := Lib.hid (B_sb.out.below hb)
          have QRS_sbg := Lib.hid (QRS_sb.out.below hb)
          have QLS_sbg := Lib.hid (QLS_sb.out.below hb)
          have QCS_sbg := Lib.hid (QCS_sb.out.below hb)
          have LO_sbg := Lib.hid (LO_sb.out.below hb)
          have OT_sbg := Lib.hid (ho)
          clear ho
          clear hb
          go_wp2_with fail
          refine hK.out _ _ (show _ from ⟨⟨R_sbg.out.1, R_sbg.out.2.1, R_sbg.out.2.2⟩, ⟨X_sbg.out.1, X_sbg.out.2⟩⟩) (fun hHeld => ?_)
          clear hK K
          try simp only [Act.put, List.getElem_toArray, List.getElem_cons_succ, List.getElem_cons_zero, List.setIfInBounds_toArray, List.set_cons_zero, List.set_cons_succ]
          refine wpAnyH_take (i := 7) (v := ?_) rfl (by kernel_rfl) (by kernel_rfl) (by kernel_rfl) (fun _ _ _ h => h) (Or.inl ⟨by kernel_rfl, ?_⟩) (by assumption) ?_
          rotate_left 1
          · intro w9 hSw
            try dsimp only at hSw
            go_simp
            try with_reducible rfl
          try simp only [Act.put, List.getElem_toArray, List.getElem_cons_succ, List.getElem_cons_zero, List.setIfInBounds_toArray, List.set_cons_zero, List.set_cons_succ]
          refine wpAnyH_take (i := 8) (v := ?_) rfl (by kernel_rfl) (by kernel_rfl) (by kernel_rfl) (fun _ _ _ h => h) (Or.inl ⟨by kernel_rfl, ?_⟩) (by assumption) ?_
          rotate_left 1
          · intro w9 hSw
            try dsimp only at hSw
            go_simp
            try with_reducible rfl
          try simp only [Act.put, List.getElem_toArray, List.getElem_cons_succ, List.getElem_cons_zero, List.setIfInBounds_toArray, List.set_cons_zero, List.set_cons_succ]
          refine wpAnyH_take (i := 9) (v := ?_) rfl (by kernel_rfl) (by kernel_rfl) (by kernel_rfl) (fun _ _ _ h => h) (Or.inl ⟨by kernel_rfl, ?_⟩) (by assumption) ?_
          rotate_left 1
          · intro w9 hSw
            try dsimp only at hSw
            go_simp
            try with_reducible rfl
          try simp only [Act.put, List.getElem_toArray, List.getElem_cons_succ, List.getElem_cons_zero, List.setIfInBounds_toArray, List.set_cons_zero, List.set_cons_succ]
          refine wpAnyH_ready (rs := [10]) (by kernel_rfl) (by simp) ?_
          refine AllReadyH.cons rfl (fun K hK => ?_) (AllReadyH.nil)
          go_simp
          have hb := ba Wsbg (.cells #[.slice none 0 0, .slice none 0 0, .slice none 0 0] 49)
          have HB_sbgk := Lib.hid (bt HB_sbg.out hb)
          have R_sbgk := Lib.hid (R_sbg.out.below hb)
          have V_sbgk := Lib.hid (V_sbg.out.below hb)
          have A_sbgk := Lib.hid (A_sbg.out.below hb)
          have RS_sbgk := Lib.hid (RS_sbg.out.below hb)
          have LS_sbgk := Lib.hid (LS_sbg.out.below hb)
          have CS_sbgk := Lib.hid (CS_sbg.out.below hb)
          have WB_sbgk := Lib.hid (WB_sbg.out.below hb)
          have WL_sbgk := Lib.hid (WL_sbg.out.below hb)
          have X_sbgk := Lib.hid (X_sbg.out.below hb)
          have B_sbgk := Lib.hid (B_sbg.out.below hb)
          have QRS_sbgk := Lib.hid (QRS_sbg.out.below hb)
          have QLS_sbgk := Lib.hid (QLS_sbg.out.below hb)
          have QCS_sbgk := Lib.hid (QCS_sbg.out.below hb)
          have LO_sbgk := Lib.hid (LO_sbg.out.below hb)
          have OT_sbgk := Lib.hid (OT_sbg.out.below hb)
          have Z_sbgk := Lib.hid (show B3 (Wsbg.alloc (.cells #[.slice none 0 0, .slice none 0 0, .slice none 0 0] 49)) Wsbg.heap.size (.slice none 0 0) (.slice none 0 0) (.slice none 0 0) from b3_new Wsbg _ _ _ 49)
          have LB := Lib.hid (show u5.heap.size ≤ Wsbg.heap.size from LO_sbg.out.size)
          (first | have LD := Lib.hid OT_sbg.out.le | skip)
          clear hb
          refine hK.out _ _ (show _ from ⟨⟨R_sbgk.out.1, R_sbgk.out.2.1, R_sbgk.out.2.2⟩, ⟨X_sbgk.out.1, X_sbgk.out.2⟩⟩) (fun hHeld => ?_)
          clear hK K
          try simp only [Act.put, List.getElem_toArray, List.getElem_cons_succ, List.getElem_cons_zero, List.setIfInBounds_toArray, List.set_cons_zero, List.set_cons_succ]
          generalize hW9 : Wsbg.alloc (.cells #[.slice none 0 0, .slice none 0 0, .slice none 0 0] 49) = Wsbgk at *
          clear hW9
          have hm5 := mid3 Wsbgk (Wsbg.heap.size) (.slice za1 res.c.length za2) (.slice zb1 res.h.length zb2) (.slice zc1 res.r.length zc2)
          have R_y := Lib.hid (gr_midw R_sbgk.out hm5 (.inl (Nat.lt_of_lt_of_le LR9.out LB.out)))
          have X_y := Lib.hid (d2_midw X_sbgk.out hm5 (.inl (Nat.lt_of_lt_of_le LX9.out LB.out)))
          have BX : BoxQ u5 (((Wsbgk.setCell ⟨Wsbg.heap.size, 0, none⟩ (.slice za1 res.c.length za2)).setCell ⟨Wsbg.heap.size, 1, none⟩ (.slice zb1 res.h.length zb2)).setCell ⟨Wsbg.heap.size, 2, none⟩ (.slice zc1 res.r.length zc2)) (Wsbg.heap.size) _ _ (.slice za1 res.c.length za2) (.slice zb1 res.h.length zb2) (.slice zc1 res.r.length zc2) res := (by first | exact boxQ_mk LO_sbgk.out LQS.out LB.out Z_sbgk.out OT_sbgk.out (.inl LQ.out) | exact boxQ_mk LO_sbgk.out LQS.out LB.out Z_sbgk.out OT_sbgk.out (.inr LD.out))
          have BX := Lib.hid BX
          clear hm5
          refine wpAnyH_ready (rs := [11]) (by kernel_rfl) (by simp) ?_
          refine AllReadyH.cons rfl (fun K hK => ?_) AllReadyH.nil
          obtain ⟨y0, y1, y2, yf⟩ := Z_sbgk.out
          have yf0 := yf 0
          have yf1 := yf 1
          have yf2 := yf 2
          clear yf
          go_simp
          refine hK.out _ _ (show _ from ⟨⟨R_y.out.1, R_y.out.2.1, R_y.out.2.2⟩, ⟨X_y.out.1, X_y.out.2⟩⟩) (fun hHeld => ?_)
          clear hK K
          try simp only [Act.put, List.getElem_toArray, List.getElem_cons_succ, List.getElem_cons_zero, List.setIfInBounds_toArray, List.set_cons_zero, List.set_cons_succ]
          refine wpAnyH_take (i := 12) (v := ?_) rfl (by kernel_rfl) (by kernel_rfl) (by kernel_rfl) (fun _ _ _ h => h) (Or.inl ⟨by kernel_rfl, ?_⟩) (by assumption) ?_
          rotate_left 1
          · intro w9 hSw
            try dsimp only at hSw
            go_simp
            try with_reducible rfl
          try simp only [Act.put, List.getElem_toArray, List.getElem_cons_succ, List.getElem_cons_zero, List.setIfInBounds_toArray, List.set_cons_zero, List.set_cons_succ]
          refine wpAnyH_done (by kernel_rfl) ?_ _
          go_wp2_with fail
          go_meet
          exact ⟨_, _, _, _, _, _, _, _, _, rfl, rfl, BX.out⟩
        · go_simp
          have hb := ba Wsb (.cells #[.slice none 0 0, .slice none 0 0, .slice none 0 0] 49)
          have HB_sbk := Lib.hid (bt HB_sb.out hb)
          have R_sbk := Lib.hid (R_sb.out.below hb)
          have V_sbk := Lib.hid (V_sb.out.below hb)
          have A_sbk := Lib.hid (A_sb.out.below hb)
          have RS_sbk := Lib.hid (RS_sb.out.below hb)
          have LS_sbk := Lib.hid (LS_sb.out.below hb)
          have CS_sbk := Lib.hid (CS_sb.out.below hb)
          have WB_sbk := Lib.hid (WB_sb.out.below hb)
          have WL_sbk := Lib.hid (WL_sb.out.below hb)
          have X_sbk := Lib.hid (X_sb.out.below hb)
          have B_sbk := Lib.hid (B_sb.out.below hb)
          have QRS_sbk := Lib.hid (QRS_sb.out.below hb)
          have QLS_sbk := Lib.hid (QLS_sb.out.below hb)
          have QCS_sbk := Lib.hid (QCS_sb.out.below hb)
          have LO_sbk := Lib.hid (LO_sb.out.below hb)
          have Z_sbk := Lib.hid (show B3 (Wsb.alloc (.cells #[.slice none 0 0, .slice none 0 0, .slice none 0 0] 49)) Wsb.heap.size (.slice none 0 0) (.slice none 0 0) (.slice none 0 0) from b3_new Wsb _ _ _ 49)
          have LB := Lib.hid (show u5.heap.size ≤ Wsb.heap.size from LO_sb.out.size)
          (first | have LD := Lib.hid OT_sb.out.le | skip)
          clear hb
          refine hK.out _ _ (show _ from ⟨⟨R_sbk.out.1, R_sbk.out.2.1, R_sbk.out.2.2⟩, ⟨X_sbk.out.1, X_sbk.out.2⟩⟩) (fun hHeld => ?_)
          clear hK K
          try simp only [Act.put, List.getElem_toArray, List.getElem_cons_succ, List.getElem_cons_zero, List.setIfInBounds_toArray, List.set_cons_zero, List.set_cons_succ]
          generalize hW9 : Wsb.alloc (.cells #[.slice none 0 0, .slice none 0 0, .slice none 0 0] 49) = Wsbk at *
          clear hW9
          refine wpAnyH_ready (rs := [6]) (by kernel_rfl) (by simp) ?_
          refine AllReadyH.cons rfl (fun K hK => ?_) (AllReadyH.nil)
          go_simp
          (first | have LQ := Lib.hid Z_sbk.out.lt | skip)
          have LQS := Lib.hid LO_sbk.out.size
          go_at_call 29
          refine (proveSum_any P0 Q0 G0 H1 hsl lrs lls lcs B_sbk.out.toIn QRS_sbk.out.toIn QLS_sbk.out.toIn QCS_sbk.out.toIn).mono ?_
          rw [HV.out, HK.out]
          rintro e' Wsbkg ⟨za, zb, zc, rfl, ho, hb⟩
          obtain ⟨za1, za2, zb1, zb2, zc1, zc2, hsh⟩ := inP_shapeQ (OwQ.toIn ho)
          simp only [Value.agg.injEq, Array.mk.injEq, List.cons.injEq, and_true] at hsh
          obtain ⟨rfl, rfl, rfl⟩ := hsh
          have HB_sbkg := Lib.hid (bt HB_sbk.out hb)
          have R_sbkg := Lib.hid (R_sbk.out.below hb)
          have V_sbkg := Lib.hid (V_sbk.out.below hb)
          have A_sbkg := Lib.hid (A_sbk.out.below hb)
          have RS_sbkg := Lib.hid (RS_sbk.out.below hb)
          have LS_sbkg := Lib.hid (LS_sbk.out.below hb)
          have CS_sbkg := Lib.hid (CS_sbk.out.below hb)
          have WB_sbkg := Lib.hid (WB_sbk.out.below hb)
          have WL_sbkg := Lib.hid (WL_sbk.out.below hb)
          have X_sbkg := Lib.hid (X_sbk.out.below hb)
          have B_sbkg := Lib.hid (B_sbk.out.below hb)
          have QRS_sbkg := Lib.hid (QRS_sbk.out.below hb)
          have QLS_sbkg := Lib.hid (QLS_sbk.out.below hb)
          have QCS_sbkg := Lib.hid (QCS_sbk.out.below hb)
          have LO_sbkg := Lib.hid (LO_sbk.out.below hb)
          have Z_sbkg := Lib.hid (Z_sbk.out.below hb)
          have OT_sbkg := Lib.hid (ho)
          clear ho
          clear hb
          go_wp2_with fail
          refine hK.out _ _ (show _ from ⟨⟨R_sbkg.out.1, R_sbkg.out.2.1, R_sbkg.out.2.2⟩, ⟨X_sbkg.out.1, X_sbkg.out.2⟩⟩) (fun hHeld => ?_)
          clear hK K
          try simp only [Act.put, List.getElem_toArray, List.getElem_cons_succ, List.getElem_cons_zero, List.setIfInBounds_toArray, List.set_cons_zero, List.set_cons_succ]
          refine wpAnyH_take (i := 7) (v := ?_) rfl (by kernel_rfl) (by kernel_rfl) (by kernel_rfl) (fun _ _ _ h => h) (Or.inl ⟨by kernel_rfl, ?_⟩) (by assumption) ?_
          rotate_left 1
          · intro w9 hSw
            try dsimp only at hSw
            go_simp
            try with_reducible rfl
          try simp only [Act.put, List.getElem_toArray, List.getElem_cons_succ, List.getElem_cons_zero, List.setIfInBounds_toArray, List.set_cons_zero, List.set_cons_succ]
          refine wpAnyH_take (i := 8) (v := ?_) rfl (by kernel_rfl) (by kernel_rfl) (by kernel_rfl) (fun _ _ _ h => h) (Or.inl ⟨by kernel_rfl, ?_⟩) (by assumption) ?_
          rotate_left 1
          · intro w9 hSw
            try dsimp only at hSw
            go_simp
            try with_reducible rfl
          try simp only [Act.put, List.getElem_toArray, List.getElem_cons_succ, List.getElem_cons_zero, List.setIfInBounds_toArray, List.set_cons_zero, List.set_cons_succ]
          refine wpAnyH_take (i := 9) (v := ?_) rfl (by kernel_rfl) (by kernel_rfl) (by kernel_rfl) (fun _ _ _ h => h) (Or.inl ⟨by kernel_rfl, ?_⟩) (by assumption) ?_
          rotate_left 1
          · intro w9 hSw
            try dsimp only at hSw
            go_simp
            try with_reducible rfl
          try simp only [Act.put, List.getElem_toArray, List.getElem_cons_succ, List.getElem_cons_zero, List.setIfInBounds_toArray, List.set_cons_zero, List.set_cons_succ]
          have hm5 := mid3 Wsbkg (Wsb.heap.size) (.slice za1 res.c.length za2) (.slice zb1 res.h.length zb2) (.slice zc1 res.r.length zc2)
          have R_y := Lib.hid (gr_midw R_sbkg.out hm5 (.inl (Nat.lt_of_lt_of_le LR9.out LB.out)))
          have X_y := Lib.hid (d2_midw X_sbkg.out hm5 (.inl (Nat.lt_of_lt_of_le LX9.out LB.out)))
          have BX : BoxQ u5 (((Wsbkg.setCell ⟨Wsb.heap.size, 0, none⟩ (.slice za1 res.c.length za2)).setCell ⟨Wsb.heap.size, 1, none⟩ (.slice zb1 res.h.length zb2)).setCell ⟨Wsb.heap.size, 2, none⟩ (.slice zc1 res.r.length zc2)) (Wsb.heap.size) _ _ (.slice za1 res.c.length za2) (.slice zb1 res.h.length zb2) (.slice zc1 res.r.length zc2) res := (by first | exact boxQ_mk LO_sbkg.out LQS.out LB.out Z_sbkg.out OT_sbkg.out (.inl LQ.out) | exact boxQ_mk LO_sbkg.out LQS.out LB.out Z_sbkg.out OT_sbkg.out (.inr LD.out))
          have BX := Lib.hid BX
          clear hm5
          refine wpAnyH_ready (rs := [11]) (by kernel_rfl) (by simp) ?_
          refine AllReadyH.cons rfl (fun K hK => ?_) AllReadyH.nil
          obtain ⟨y0, y1, y2, yf⟩ := Z_sbkg.out
          have yf0 := yf 0
          have yf1 := yf 1
          have yf2 := yf 2
          clear yf
          go_simp
          refine hK.out _ _ (show _ from ⟨⟨R_y.out.1, R_y.out.2.1, R_y.out.2.2⟩, ⟨X_y.out.1, X_y.out.2⟩⟩) (fun hHeld => ?_)
          clear hK K
          try simp only [Act.put, List.getElem_toArray, List.getElem_cons_succ, List.getElem_cons_zero, List.setIfInBounds_toArray, List.set_cons_zero, List.set_cons_succ]
          refine wpAnyH_take (i := 12) (v := ?_) rfl (by kernel_rfl) (by kernel_rfl) (by kernel_rfl) (fun _ _ _ h => h) (Or.inl ⟨by kernel_rfl, ?_⟩) (by assumption) ?_
          rotate_left 1
          · intro w9 hSw
            try dsimp only at hSw
            go_simp
            try with_reducible rfl
          try simp only [Act.put, List.getElem_toArray, List.getElem_cons_succ, List.getElem_cons_zero, List.setIfInBounds_toArray, List.set_cons_zero, List.set_cons_succ]
          refine wpAnyH_done (by kernel_rfl) ?_ _
          go_wp2_with fail
          go_meet
          exact ⟨_, _, _, _, _, _, _, _, _, rfl, rfl, BX.out⟩
      · go_simp
        have hb := ba Ws (.cells #[.slice none 0 0, .slice none 0 0, .slice none 0 0] 49)
        have HB_sk := Lib.hid (bt HB_s.out hb)
        have R_sk := Lib.hid (R_s.out.below hb)
        have V_sk := Lib.hid (V_s.out.below hb)
        have A_sk := Lib.hid (A_s.out.below hb)
        have RS_sk := Lib.hid (RS_s.out.below hb)
        have LS_sk := Lib.hid (LS_s.out.below hb)
        have CS_sk := Lib.hid (CS_s.out.below hb)
        have WB_sk := Lib.hid (WB_s.out.below hb)
        have WL_sk := Lib.hid (WL_s.out.below hb)
        have X_sk := Lib.hid (X_s.out.below hb)
        have B_sk := Lib.hid (B_s.out.below hb)
        have QRS_sk := Lib.hid (QRS_s.out.below hb)
        have QLS_sk := Lib.hid (QLS_s.out.below hb)
        have QCS_sk := Lib.hid (QCS_s.out.below hb)
        have LO_sk := Lib.hid (LO_s.out.below hb)
        have Z_sk := Lib.hid (show B3 (Ws.alloc (.cells #[.slice none 0 0, .slice none 0 0, .slice none 0 0] 49)) Ws.heap.size (.slice none 0 0) (.slice none 0 0) (.slice none 0 0) from b3_new Ws _ _ _ 49)
        have LB := Lib.hid (show u5.heap.size ≤ Ws.heap.size from LO_s.out.size)
        (first | have LD := Lib.hid OT_s.out.le | skip)
        clear hb
        refine hK.out _ _ (show _ from ⟨⟨R_sk.out.1, R_sk.out.2.1, R_sk.out.2.2⟩, ⟨X_sk.out.1, X_sk.out.2⟩⟩) (fun hHeld => ?_)
        clear hK K
        try simp only [Act.put, List.getElem_toArray, List.getElem_cons_succ, List.getElem_cons_zero, List.setIfInBounds_toArray, List.set_cons_zero, List.set_cons_succ]
        generalize hW9 : Ws.alloc (.cells #[.slice none 0 0, .slice none 0 0, .slice none 0 0] 49) = Wsk at *
        clear hW9
        refine wpAnyH_ready (rs := [1]) (by kernel_rfl) (by simp) ?_
        refine AllReadyH.cons rfl (fun K hK => ?_) (AllReadyH.nil)
        go_simp
        go_at_call 26
        refine (toGroup_any _ _ _ _).mono ?_
        rintro e' Wskb ⟨rfl, hb⟩
        have HB_skb := Lib.hid (bt HB_sk.out hb)
        have R_skb := Lib.hid (R_sk.out.below hb)
        have V_skb := Lib.hid (V_sk.out.below hb)
        have A_skb := Lib.hid (A_sk.out.below hb)
        have RS_skb := Lib.hid (RS_sk.out.below hb)
        have LS_skb := Lib.hid (LS_sk.out.below hb)
        have CS_skb := Lib.hid (CS_sk.out.below hb)
        have WB_skb := Lib.hid (WB_sk.out.below hb)
        have WL_skb := Lib.hid (WL_sk.out.below hb)
        have X_skb := Lib.hid (X_sk.out.below hb)
        have B_skb := Lib.hid (B_sk.out.below hb)
        have QRS_skb := Lib.hid (QRS_sk.out.below hb)
        have QLS_skb := Lib.hid (QLS_sk.out.below hb)
        have QCS_skb := Lib.hid (QCS_sk.out.below hb)
        have LO_skb := Lib.hid (LO_sk.out.below hb)
        have Z_skb := Lib.hid (Z_sk.out.below hb)
        clear hb
        go_wp2_with fail
        refine hK.out _ _ (show _ from ⟨⟨R_skb.out.1, R_skb.out.2.1, R_skb.out.2.2⟩, ⟨X_skb.out.1, X_skb.out.2⟩⟩) (fun hHeld => ?_)
        clear hK K
        try simp only [Act.put, List.getElem_toArray, List.getElem_cons_succ, List.getElem_cons_zero, List.setIfInBounds_toArray, List.set_cons_zero, List.set_cons_succ]
        refine wpAnyH_ready (rs := [6]) (by kernel_rfl) (by simp) ?_
        refine AllReadyH.cons rfl (fun K hK => ?_) (AllReadyH.nil)
        go_simp
        (first | have LQ := Lib.hid Z_skb.out.lt | skip)
        have LQS := Lib.hid LO_skb.out.size
        go_at_call 29
        refine (proveSum_any P0 Q0 G0 H1 hsl lrs lls lcs B_skb.out.toIn QRS_skb.out.toIn QLS_skb.out.toIn QCS_skb.out.toIn).mono ?_
        rw [HV.out, HK.out]
        rintro e' Wskbg ⟨za, zb, zc, rfl, ho, hb⟩
        obtain ⟨za1, za2, zb1, zb2, zc1, zc2, hsh⟩ := inP_shapeQ (OwQ.toIn ho)
        simp only [Value.agg.injEq, Array.mk.injEq, List.cons.injEq, and_true] at hsh
        obtain ⟨rfl, rfl, rfl⟩ := hsh
        have HB_skbg := Lib.hid (bt HB_skb.out hb)
        have R_skbg := Lib.hid (R_skb.out.below hb)
        have V_skbg := Lib.hid (V_skb.out.below hb)
        have A_skbg := Lib.hid (A_skb.out.below hb)
        have RS_skbg := Lib.hid (RS_skb.out.below hb)
        have LS_skbg := Lib.hid (LS_skb.out.below hb)
        have CS_skbg := Lib.hid (CS_skb.out.below hb)
        have WB_skbg := Lib.hid (WB_skb.out.below hb)
        have WL_skbg := Lib.hid (WL_skb.out.below hb)
        have X_skbg := Lib.hid (X_skb.out.below hb)
        have B_skbg := Lib.hid (B_skb.out.below hb)
        have QRS_skbg := Lib.hid (QRS_skb.out.below hb)
        have QLS_skbg := Lib.hid (QLS_skb.out.below hb)
        have QCS_skbg := Lib.hid (QCS_skb.out.below hb)
        have LO_skbg := Lib.hid (LO_skb.out.below hb)
        have Z_skbg := Lib.hid (Z_skb.out.below hb)
        have OT_skbg := Lib.hid (ho)
        clear ho
        clear hb
        go_wp2_with fail
        refine hK.out _ _ (show _ from ⟨⟨R_skbg.out.1, R_skbg.out.2.1, R_skbg.out.2.2⟩, ⟨X_skbg.out.1, X_skbg.out.2⟩⟩) (fun hHeld => ?_)
        clear hK K
        try simp only [Act.put, List.getElem_toArray, List.getElem_cons_succ, List.getElem_cons_zero, List.setIfInBounds_toArray, List.set_cons_zero, List.set_cons_succ]
        refine wpAnyH_take (i := 7) (v := ?_) rfl (by kernel_rfl) (by kernel_rfl) (by kernel_rfl) (fun _ _ _ h => h) (Or.inl ⟨by kernel_rfl, ?_⟩) (by assumption) ?_
        rotate_left 1
        · intro w9 hSw
          try dsimp only at hSw
          go_simp
          try with_reducible rfl
        try simp only [Act.put, List.getElem_toArray, List.getElem_cons_succ, List.getElem_cons_zero, List.setIfInBounds_toArray, List.set_cons_zero, List.set_cons_succ]
        refine wpAnyH_take (i := 8) (v := ?_) rfl (by kernel_rfl) (by kernel_rfl) (by kernel_rfl) (fun _ _ _ h => h) (Or.inl ⟨by kernel_rfl, ?_⟩) (by assumption) ?_
        rotate_left 1
        · intro w9 hSw
          try dsimp only at hSw
          go_simp
          try with_reducible rfl
        try simp only [Act.put, List.getElem_toArray, List.getElem_cons_succ, List.getElem_cons_zero, List.setIfInBounds_toArray, List.set_cons_zero, List.set_cons_succ]
        refine wpAnyH_take (i := 9) (v := ?_) rfl (by kernel_rfl) (by kernel_rfl) (by kernel_rfl) (fun _ _ _ h => h) (Or.inl ⟨by kernel_rfl, ?_⟩) (by assumption) ?_
        rotate_left 1
        · intro w9 hSw
          try dsimp only at hSw
          go_simp
          try with_reducible rfl
        try simp only [Act.put, List.getElem_toArray, List.getElem_cons_succ, List.getElem_cons_zero, List.setIfInBounds_toArray, List.set_cons_zero, List.set_cons_succ]
        have hm5 := mid3 Wskbg (Ws.heap.size) (.slice za1 res.c.length za2) (.slice zb1 res.h.length zb2) (.slice zc1 res.r.length zc2)
        have R_y := Lib.hid (gr_midw R_skbg.out hm5 (.inl (Nat.lt_of_lt_of_le LR9.out LB.out)))
        have X_y := Lib.hid (d2_midw X_skbg.out hm5 (.inl (Nat.lt_of_lt_of_le LX9.out LB.out)))
        have BX : BoxQ u5 (((Wskbg.setCell ⟨Ws.heap.size, 0, none⟩ (.slice za1 res.c.length za2)).setCell ⟨Ws.heap.size, 1, none⟩ (.slice zb1 res.h.length zb2)).setCell ⟨Ws.heap.size, 2, none⟩ (.slice zc1 res.r.length zc2)) (Ws.heap.size) _ _ (.slice za1 res.c.length za2) (.slice zb1 res.h.length zb2) (.slice zc1 res.r.length zc2) res := (by first | exact boxQ_mk LO_skbg.out LQS.out LB.out Z_skbg.out OT_skbg.out (.inl LQ.out) | exact boxQ_mk LO_skbg.out LQS.out LB.out Z_skbg.out OT_skbg.out (.inr LD.out))
        have BX := Lib.hid BX
        clear hm5
        refine wpAnyH_ready (rs := [11]) (by kernel_rfl) (by simp) ?_
        refine AllReadyH.cons rfl (fun K hK => ?_) AllReadyH.nil
        obtain ⟨y0, y1, y2, yf⟩ := Z_skbg.out
        have yf0 := yf 0
        have yf1 := yf 1
        have yf2 := yf 2
        clear yf
        go_simp
        refine hK.out _ _ (show _ from ⟨⟨R_y.out.1, R_y.out.2.1, R_y.out.2.2⟩, ⟨X_y.out.1, X_y.out.2⟩⟩) (fun hHeld => ?_)
        clear hK K
        try simp only [Act.put, List.getElem_toArray, List.getElem_cons_succ, List.getElem_cons_zero, List.setIfInBounds_toArray, List.set_cons_zero, List.set_cons_succ]
        refine wpAnyH_take (i := 12) (v := ?_) rfl (by kernel_rfl) (by kernel_rfl) (by kernel_rfl) (fun _ _ _ h => h) (Or.inl ⟨by kernel_rfl, ?_⟩) (by assumption) ?_
        rotate_left 1
        · intro w9 hSw
          try dsimp only at hSw
          go_simp
          try with_reducible rfl
        try simp only [Act.put, List.getElem_toArray, List.getElem_cons_succ, List.getElem_cons_zero, List.setIfInBounds_toArray, List.set_cons_zero, List.set_cons_succ]
        refine wpAnyH_done (by kernel_rfl) ?_ _
        go_wp2_with fail
        go_meet
        exact ⟨_, _, _, _, _, _, _, _, _, rfl, rfl, BX.out⟩
    case rest =>
      obtain ⟨b2, q2, P2, g1_, g2_, g3_, g4_, g5_, g6_, rfl, rfl, hbx⟩ := hcut
      obtain ⟨hY, hO, hd, hq, hb, hb2⟩ := hbx
      have HB_7 := Lib.hid (bt HB_6.out hb)
      have R_7 := Lib.hid (R_6.out.below hb)
      have V_7 := Lib.hid (V_6.out.below hb)
      have A_7 := Lib.hid (A_6.out.below hb)
      have RS_7 := Lib.hid (RS_6.out.below hb)
      have LS_7 := Lib.hid (LS_6.out.below hb)
      have CS_7 := Lib.hid (CS_6.out.below hb)
      have WB_7 := Lib.hid (WB_6.out.below hb)
      have WL_7 := Lib.hid (WL_6.out.below hb)
      have X_7 := Lib.hid (X_6.out.below hb)
      have B_7 := Lib.hid (B_6.out.below hb)
      have QRS_7 := Lib.hid (QRS_6.out.below hb)
      have QLS_7 := Lib.hid (QLS_6.out.below hb)
      have QCS_7 := Lib.hid (QCS_6.out.below hb)
      have GB_7 := Lib.hid (hY)
      have GL_7 := Lib.hid (hO)
      clear hb HB_6 R_6 V_6 A_6 RS_6 LS_6 CS_6 WB_6 WL_6 X_6 B_6 QRS_6 QLS_6 QCS_6
      have HD := Lib.hid hd
      have HQ := Lib.hid hq
      have HB2 := Lib.hid hb2
      clear hY hO hd hq hb2
      obtain ⟨gb0, gb1, gb2, _⟩ := GB_7.out
      obtain ⟨wb0, wb1, wb2, _⟩ := WB_7.out
      go_wp2_with fail
      refine (eqP_any GL_7.out.toIn WL_7.out (by omega)).mono ?_
      rintro e u7 ⟨rfl, hb⟩
      have HB_8 := Lib.hid (bt HB_7.out hb)
      have R_8 := Lib.hid (R_7.out.below hb)
      have V_8 := Lib.hid (V_7.out.below hb)
      have A_8 := Lib.hid (A_7.out.below hb)
      have RS_8 := Lib.hid (RS_7.out.below hb)
      have LS_8 := Lib.hid (LS_7.out.below hb)
      have CS_8 := Lib.hid (CS_7.out.below hb)
      have WB_8 := Lib.hid (WB_7.out.below hb)
      have WL_8 := Lib.hid (WL_7.out.below hb)
      have X_8 := Lib.hid (X_7.out.below hb)
      have B_8 := Lib.hid (B_7.out.below hb)
      have QRS_8 := Lib.hid (QRS_7.out.below hb)
      have QLS_8 := Lib.hid (QLS_7.out.below hb)
      have QCS_8 := Lib.hid (QCS_7.out.below hb)
      have GB_8 := Lib.hid (GB_7.out.below hb)
      have GL_8 := Lib.hid (GL_7.out.below hb)
      clear hb HB_7 R_7 V_7 A_7 RS_7 LS_7 CS_7 WB_7 WL_7 X_7 B_7 QRS_7 QLS_7 QCS_7 GB_7 GL_7
      clear gb0 gb1 gb2
      clear wb0 wb1 wb2
      go_wp2_with fail
      have hbd : Below u7.heap.size u7 u7.drew := (Below.refl _ u7).drew
      have HB_s := Lib.hid (bt HB_8.out hbd)
      have R_s := Lib.hid (R_8.out.below hbd)
      have V_s := Lib.hid (V_8.out.below hbd)
      have A_s := Lib.hid (A_8.out.below hbd)
      have RS_s := Lib.hid (RS_8.out.below hbd)
      have LS_s := Lib.hid (LS_8.out.below hbd)
      have CS_s := Lib.hid (CS_8.out.below hbd)
      have WB_s := Lib.hid (WB_8.out.below hbd)
      have WL_s := Lib.hid (WL_8.out.below hbd)
      have X_s := Lib.hid (X_8.out.below hbd)
      have B_s := Lib.hid (B_8.out.below hbd)
      have QRS_s := Lib.hid (QRS_8.out.below hbd)
      have QLS_s := Lib.hid (QLS_8.out.below hbd)
      have QCS_s := Lib.hid (QCS_8.out.below hbd)
      have GB_s := Lib.hid (GB_8.out.below hbd)
      have GL_s := Lib.hid (GL_8.out.below hbd)
      clear hbd
      refine wp_region_held_drew (S := (fun w' => (w'.cell? ⟨u2.heap.size, 0, none⟩ = some (.int .i64 H1) ∧ w'.cell? ⟨u2.heap.size, 1, none⟩ = some (.slice xa hs.length xc)) ∧ (w'.cell? ⟨w.heap.size + 1, 0, none⟩ = some (.int .i64 H1) ∧ w'.cell? ⟨w.heap.size + 1, 1, none⟩ = some (.slice ya hs.length yc)))) (by kernel_rfl) (show _ from ⟨⟨X_8.out.1, X_8.out.2⟩, ⟨V_8.out.1, V_8.out.2⟩⟩) (fun hHeld => ?_)
      generalize hW0 : u7.drew = Ws at *
      clear hW0
      refine wpAnyH_take (i := 0) (v := ?_) rfl (by kernel_rfl) (by kernel_rfl) (by kernel_rfl) (fun _ _ _ h => h) (Or.inl ⟨by kernel_rfl, ?_⟩) (by assumption) ?_
      rotate_left 1
      · intro w9 hSw
        try dsimp only at hSw
        go_simp
        try with_reducible rfl
      try simp only [Act.put, List.getElem_toArray, List.getElem_cons_succ, List.getElem_cons_zero, List.setIfInBounds_toArray, List.set_cons_zero, List.set_cons_succ]
      refine wpAnyH_take (i := 1) (v := ?_) rfl (by kernel_rfl) (by kernel_rfl) (by kernel_rfl) (fun _ _ _ h => h) (Or.inl ⟨by kernel_rfl, ?_⟩) (by assumption) ?_
      rotate_left 1
      · intro w9 hSw
        try dsimp only at hSw
        go_simp
        try with_reducible rfl
      try simp only [Act.put, List.getElem_toArray, List.getElem_cons_succ, List.getElem_cons_zero, List.setIfInBounds_toArray, List.set_cons_zero, List.set_cons_succ]
      refine wpAnyH_ready (rs := [2]) (by kernel_rfl) (by simp) ?_
      refine AllReadyH.cons rfl (fun K hK => ?_) (AllReadyH.nil)
      go_simp
      go_at_call 27
      refine (toBas_any A_s.out (by omega)).mono ?_
      rintro e' Wsc ⟨yw, rfl, ho, hb⟩
      have HB_sc := Lib.hid (bt HB_s.out hb)
      have R_sc := Lib.hid (R_s.out.below hb)
      have V_sc := Lib.hid (V_s.out.below hb)
      have A_sc := Lib.hid (A_s.out.below hb)
      have RS_sc := Lib.hid (RS_s.out.below hb)
      have LS_sc := Lib.hid (LS_s.out.below hb)
      have CS_sc := Lib.hid (CS_s.out.below hb)
      have WB_sc := Lib.hid (WB_s.out.below hb)
      have WL_sc := Lib.hid (WL_s.out.below hb)
      have X_sc := Lib.hid (X_s.out.below hb)
      have B_sc := Lib.hid (B_s.out.below hb)
      have QRS_sc := Lib.hid (QRS_s.out.below hb)
      have QLS_sc := Lib.hid (QLS_s.out.below hb)
      have QCS_sc := Lib.hid (QCS_s.out.below hb)
      have GB_sc := Lib.hid (GB_s.out.below hb)
      have GL_sc := Lib.hid (GL_s.out.below hb)
      have CB_sc := Lib.hid (ho.toIn)
      clear ho
      clear hb
      go_wp2_with fail
      refine hK.out _ _ (show _ from ⟨⟨X_sc.out.1, X_sc.out.2⟩, ⟨V_sc.out.1, V_sc.out.2⟩⟩) (fun hHeld => ?_)
      clear hK K
      try simp only [Act.put, List.getElem_toArray, List.getElem_cons_succ, List.getElem_cons_zero, List.setIfInBounds_toArray, List.set_cons_zero, List.set_cons_succ]
      refine wpAnyH_ready (rs := [3]) (by kernel_rfl) (by simp) ?_
      refine AllReadyH.cons rfl (fun K hK => ?_) (AllReadyH.nil)
      go_simp
      go_at_call 31
      refine (eqBas_any B_sc.out.toIn CB_sc.out (by omega)).mono ?_
      rintro e' Wscd ⟨rfl, hb⟩
      have HB_scd := Lib.hid (bt HB_sc.out hb)
      have R_scd := Lib.hid (R_sc.out.below hb)
      have V_scd := Lib.hid (V_sc.out.below hb)
      have A_scd := Lib.hid (A_sc.out.below hb)
      have RS_scd := Lib.hid (RS_sc.out.below hb)
      have LS_scd := Lib.hid (LS_sc.out.below hb)
      have CS_scd := Lib.hid (CS_sc.out.below hb)
      have WB_scd := Lib.hid (WB_sc.out.below hb)
      have WL_scd := Lib.hid (WL_sc.out.below hb)
      have X_scd := Lib.hid (X_sc.out.below hb)
      have B_scd := Lib.hid (B_sc.out.below hb)
      have QRS_scd := Lib.hid (QRS_sc.out.below hb)
      have QLS_scd := Lib.hid (QLS_sc.out.below hb)
      have QCS_scd := Lib.hid (QCS_sc.out.below hb)
      have GB_scd := Lib.hid (GB_sc.out.below hb)
      have GL_scd := Lib.hid (GL_sc.out.below hb)
      have CB_scd := Lib.hid (CB_sc.out.below hb)
      clear hb
      go_wp2_with fail
      refine hK.out _ _ (show _ from ⟨⟨X_scd.out.1, X_scd.out.2⟩, ⟨V_scd.out.1, V_scd.out.2⟩⟩) (fun hHeld => ?_)
      clear hK K
      try simp only [Act.put, List.getElem_toArray, List.getElem_cons_succ, List.getElem_cons_zero, List.setIfInBounds_toArray, List.set_cons_zero, List.set_cons_succ]
      refine wpAnyH_take (i := 4) (v := ?_) rfl (by kernel_rfl) (by kernel_rfl) (by kernel_rfl) (fun _ _ _ h => h) (Or.inl ⟨by kernel_rfl, ?_⟩) (by assumption) ?_
      rotate_left 1
      · intro w9 hSw
        try dsimp only at hSw
        go_simp
        try with_reducible rfl
      try simp only [Act.put, List.getElem_toArray, List.getElem_cons_succ, List.getElem_cons_zero, List.setIfInBounds_toArray, List.set_cons_zero, List.set_cons_succ]
      refine wpAnyH_done (by kernel_rfl) ?_ _
      have HB_9 := Lib.hid HB_scd.out
      have R_9 := Lib.hid R_scd.out
      have V_9 := Lib.hid V_scd.out
      have A_9 := Lib.hid A_scd.out
      have RS_9 := Lib.hid RS_scd.out
      have LS_9 := Lib.hid LS_scd.out
      have CS_9 := Lib.hid CS_scd.out
      have WB_9 := Lib.hid WB_scd.out
      have WL_9 := Lib.hid WL_scd.out
      have X_9 := Lib.hid X_scd.out
      have B_9 := Lib.hid B_scd.out
      have QRS_9 := Lib.hid QRS_scd.out
      have QLS_9 := Lib.hid QLS_scd.out
      have QCS_9 := Lib.hid QCS_scd.out
      have GB_9 := Lib.hid GB_scd.out
      have GL_9 := Lib.hid GL_scd.out
      go_wp2_with fail
      refine (toI_any RS_9.out (by omega)).mono ?_
      rintro e u8 ⟨rrs, rfl, ho, hb⟩
      have HB_10 := Lib.hid (bt HB_9.out hb)
      have R_10 := Lib.hid (R_9.out.below hb)
      have V_10 := Lib.hid (V_9.out.below hb)
      have A_10 := Lib.hid (A_9.out.below hb)
      have RS_10 := Lib.hid (RS_9.out.below hb)
      have LS_10 := Lib.hid (LS_9.out.below hb)
      have CS_10 := Lib.hid (CS_9.out.below hb)
      have WB_10 := Lib.hid (WB_9.out.below hb)
      have WL_10 := Lib.hid (WL_9.out.below hb)
      have X_10 := Lib.hid (X_9.out.below hb)
      have B_10 := Lib.hid (B_9.out.below hb)
      have QRS_10 := Lib.hid (QRS_9.out.below hb)
      have QLS_10 := Lib.hid (QLS_9.out.below hb)
      have QCS_10 := Lib.hid (QCS_9.out.below hb)
      have GB_10 := Lib.hid (GB_9.out.below hb)
      have GL_10 := Lib.hid (GL_9.out.below hb)
      have CI_10 := Lib.hid (ho.toIn)
      clear hb HB_9 R_9 V_9 A_9 RS_9 LS_9 CS_9 WB_9 WL_9 X_9 B_9 QRS_9 QLS_9 QCS_9 GB_9 GL_9
      clear ho
      go_wp2_with fail
      refine (eqI_any QRS_10.out.toIn CI_10.out (by omega)).mono ?_
      rintro e u9 ⟨rfl, hb⟩
      have HB_11 := Lib.hid (bt HB_10.out hb)
      have R_11 := Lib.hid (R_10.out.below hb)
      have V_11 := Lib.hid (V_10.out.below hb)
      have A_11 := Lib.hid (A_10.out.below hb)
      have RS_11 := Lib.hid (RS_10.out.below hb)
      have LS_11 := Lib.hid (LS_10.out.below hb)
      have CS_11 := Lib.hid (CS_10.out.below hb)
      have WB_11 := Lib.hid (WB_10.out.below hb)
      have WL_11 := Lib.hid (WL_10.out.below hb)
      have X_11 := Lib.hid (X_10.out.below hb)
      have B_11 := Lib.hid (B_10.out.below hb)
      have QRS_11 := Lib.hid (QRS_10.out.below hb)
      have QLS_11 := Lib.hid (QLS_10.out.below hb)
      have QCS_11 := Lib.hid (QCS_10.out.below hb)
      have GB_11 := Lib.hid (GB_10.out.below hb)
      have GL_11 := Lib.hid (GL_10.out.below hb)
      clear hb HB_10 R_10 V_10 A_10 RS_10 LS_10 CS_10 WB_10 WL_10 X_10 B_10 QRS_10 QLS_10 QCS_10 GB_10 GL_10 CI_10
      go_wp2_with fail
      refine (toI_any LS_11.out (by omega)).mono ?_
      rintro e u10 ⟨rls, rfl, ho, hb⟩
      have HB_12 := Lib.hid (bt HB_11.out hb)
      have R_12 := Lib.hid (R_11.out.below hb)
      have V_12 := Lib.hid (V_11.out.below hb)
      have A_12 := Lib.hid (A_11.out.below hb)
      have RS_12 := Lib.hid (RS_11.out.below hb)
      have LS_12 := Lib.hid (LS_11.out.below hb)
      have CS_12 := Lib.hid (CS_11.out.below hb)
      have WB_12 := Lib.hid (WB_11.out.below hb)
      have WL_12 := Lib.hid (WL_11.out.below hb)
      have X_12 := Lib.hid (X_11.out.below hb)
      have B_12 := Lib.hid (B_11.out.below hb)
      have QRS_12 := Lib.hid (QRS_11.out.below hb)
      have QLS_12 := Lib.hid (QLS_11.out.below hb)
      have QCS_12 := Lib.hid (QCS_11.out.below hb)
      have GB_12 := Lib.hid (GB_11.out.below hb)
      have GL_12 := Lib.hid (GL_11.out.below hb)
      have CI_12 := Lib.hid (ho.toIn)
      clear hb HB_11 R_11 V_11 A_11 RS_11 LS_11 CS_11 WB_11 WL_11 X_11 B_11 QRS_11 QLS_11 QCS_11 GB_11 GL_11
      clear ho
      go_wp2_with fail
      refine (eqI_any QLS_12.out.toIn CI_12.out (by omega)).mono ?_
      rintro e u11 ⟨rfl, hb⟩
      have HB_13 := Lib.hid (bt HB_12.out hb)
      have R_13 := Lib.hid (R_12.out.below hb)
      have V_13 := Lib.hid (V_12.out.below hb)
      have A_13 := Lib.hid (A_12.out.below hb)
      have RS_13 := Lib.hid (RS_12.out.below hb)
      have LS_13 := Lib.hid (LS_12.out.below hb)
      have CS_13 := Lib.hid (CS_12.out.below hb)
      have WB_13 := Lib.hid (WB_12.out.below hb)
      have WL_13 := Lib.hid (WL_12.out.below hb)
      have X_13 := Lib.hid (X_12.out.below hb)
      have B_13 := Lib.hid (B_12.out.below hb)
      have QRS_13 := Lib.hid (QRS_12.out.below hb)
      have QLS_13 := Lib.hid (QLS_12.out.below hb)
      have QCS_13 := Lib.hid (QCS_12.out.below hb)
      have GB_13 := Lib.hid (GB_12.out.below hb)
      have GL_13 := Lib.hid (GL_12.out.below hb)
      clear hb HB_12 R_12 V_12 A_12 RS_12 LS_12 CS_12 WB_12 WL_12 X_12 B_12 QRS_12 QLS_12 QCS_12 GB_12 GL_12 CI_12
      go_wp2_with fail
      refine (toI_any CS_13.out (by omega)).mono ?_
      rintro e u12 ⟨rcs, rfl, ho, hb⟩
      have HB_14 := Lib.hid (bt HB_13.out hb)
      have R_14 := Lib.hid (R_13.out.below hb)
      have V_14 := Lib.hid (V_13.out.below hb)
      have A_14 := Lib.hid (A_13.out.below hb)
      have RS_14 := Lib.hid (RS_13.out.below hb)
      have LS_14 := Lib.hid (LS_13.out.below hb)
      have CS_14 := Lib.hid (CS_13.out.below hb)
      have WB_14 := Lib.hid (WB_13.out.below hb)
      have WL_14 := Lib.hid (WL_13.out.below hb)
      have X_14 := Lib.hid (X_13.out.below hb)
      have B_14 := Lib.hid (B_13.out.below hb)
      have QRS_14 := Lib.hid (QRS_13.out.below hb)
      have QLS_14 := Lib.hid (QLS_13.out.below hb)
      have QCS_14 := Lib.hid (QCS_13.out.below hb)
      have GB_14 := Lib.hid (GB_13.out.below hb)
      have GL_14 := Lib.hid (GL_13.out.below hb)
      have CI_14 := Lib.hid (ho.toIn)
      clear hb HB_13 R_13 V_13 A_13 RS_13 LS_13 CS_13 WB_13 WL_13 X_13 B_13 QRS_13 QLS_13 QCS_13 GB_13 GL_13
      clear ho
      go_wp2_with fail
      refine (eqI_any QCS_14.out.toIn CI_14.out (by omega)).mono ?_
      rintro e u13 ⟨rfl, hb⟩
      have HB_15 := Lib.hid (bt HB_14.out hb)
      have R_15 := Lib.hid (R_14.out.below hb)
      have V_15 := Lib.hid (V_14.out.below hb)
      have A_15 := Lib.hid (A_14.out.below hb)
      have RS_15 := Lib.hid (RS_14.out.below hb)
      have LS_15 := Lib.hid (LS_14.out.below hb)
      have CS_15 := Lib.hid (CS_14.out.below hb)
      have WB_15 := Lib.hid (WB_14.out.below hb)
      have WL_15 := Lib.hid (WL_14.out.below hb)
      have X_15 := Lib.hid (X_14.out.below hb)
      have B_15 := Lib.hid (B_14.out.below hb)
      have QRS_15 := Lib.hid (QRS_14.out.below hb)
      have QLS_15 := Lib.hid (QLS_14.out.below hb)
      have QCS_15 := Lib.hid (QCS_14.out.below hb)
      have GB_15 := Lib.hid (GB_14.out.below hb)
      have GL_15 := Lib.hid (GL_14.out.below hb)
      clear hb HB_14 R_14 V_14 A_14 RS_14 LS_14 CS_14 WB_14 WL_14 X_14 B_14 QRS_14 QLS_14 QCS_14 GB_14 GL_14 CI_14
      obtain ⟨x0, x1⟩ := X_15.out
      go_wp2_with fail
      refine (markBas_any B_15.out (by omega) (by omega) (by omega)).mono ?_
      rintro e u14 ⟨rfl, ho, hmi⟩
      clear ho
      clear x0 x1
      clear B_15 X_15
      have R_16 := Lib.hid (gr_midw R_15.out hmi (.inl LBR.out))
      have V_16 := Lib.hid (d2_midw V_15.out hmi (.inl LBV.out))
      have A_16 := Lib.hid (A_15.out.mid hmi LBA.out)
      have RS_16 := Lib.hid (RS_15.out.mid hmi LBRS.out)
      have LS_16 := Lib.hid (LS_15.out.mid hmi LBLS.out)
      have CS_16 := Lib.hid (CS_15.out.mid hmi LBCS.out)
      have WB_16 := Lib.hid (WB_15.out.mid hmi (.inl LBWB.out))
      have WL_16 := Lib.hid (WL_15.out.mid hmi LBWL.out)
      have QRS_16 := Lib.hid (QRS_15.out.mid hmi (.inr LCB.out))
      have QLS_16 := Lib.hid (QLS_15.out.mid hmi (.inr LDB.out))
      have QCS_16 := Lib.hid (QCS_15.out.mid hmi (.inr LEB.out))
      have GB_16 := Lib.hid (GB_15.out.mid hmi (.inr (Nat.le_trans LGB.out HB2.out)))
      have GL_16 := Lib.hid (GL_15.out.mid hmi (.inr (Nat.le_trans LGB.out HQ.out)))
      have HB_16 := Lib.hid (HB_15.out.trans (hmi.toBelow LBHB.out HB_15.out.size))
      clear hmi HB_15 R_15 V_15 A_15 RS_15 LS_15 CS_15 WB_15 WL_15 QRS_15 QLS_15 QCS_15 GB_15 GL_15
      go_wp2_with fail
      refine (markI_any QRS_16.out (by omega) (by omega) (by omega)).mono ?_
      rintro e u15 ⟨rfl, ho, hmi⟩
      clear ho
      clear QRS_16
      have R_17 := Lib.hid (gr_midw R_16.out hmi (.inl LCR.out))
      have V_17 := Lib.hid (d2_midw V_16.out hmi (.inl LCV.out))
      have A_17 := Lib.hid (A_16.out.mid hmi LCA.out)
      have RS_17 := Lib.hid (RS_16.out.mid hmi LCRS.out)
      have LS_17 := Lib.hid (LS_16.out.mid hmi LCLS.out)
      have CS_17 := Lib.hid (CS_16.out.mid hmi LCCS.out)
      have WB_17 := Lib.hid (WB_16.out.mid hmi (.inl LCWB.out))
      have WL_17 := Lib.hid (WL_16.out.mid hmi LCWL.out)
      have QLS_17 := Lib.hid (QLS_16.out.mid hmi (.inr LDQRS.out))
      have QCS_17 := Lib.hid (QCS_16.out.mid hmi (.inr LEQRS.out))
      have GB_17 := Lib.hid (GB_16.out.mid hmi (.inr (Nat.le_trans LGQRS.out HB2.out)))
      have GL_17 := Lib.hid (GL_16.out.mid hmi (.inr (Nat.le_trans LGQRS.out HQ.out)))
      have HB_17 := Lib.hid (HB_16.out.trans (hmi.toBelow LCHB.out HB_16.out.size))
      clear hmi HB_16 R_16 V_16 A_16 RS_16 LS_16 CS_16 WB_16 WL_16 QLS_16 QCS_16 GB_16 GL_16
      go_wp2_with fail
      refine (markI_any QLS_17.out (by omega) (by omega) (by omega)).mono ?_
      rintro e u16 ⟨rfl, ho, hmi⟩
      clear ho
      clear QLS_17
      have R_18 := Lib.hid (gr_midw R_17.out hmi (.inl LDR.out))
      have V_18 := Lib.hid (d2_midw V_17.out hmi (.inl LDV.out))
      have A_18 := Lib.hid (A_17.out.mid hmi LDA.out)
      have RS_18 := Lib.hid (RS_17.out.mid hmi LDRS.out)
      have LS_18 := Lib.hid (LS_17.out.mid hmi LDLS.out)
      have CS_18 := Lib.hid (CS_17.out.mid hmi LDCS.out)
      have WB_18 := Lib.hid (WB_17.out.mid hmi (.inl LDWB.out))
      have WL_18 := Lib.hid (WL_17.out.mid hmi LDWL.out)
      have QCS_18 := Lib.hid (QCS_17.out.mid hmi (.inr LEQLS.out))
      have GB_18 := Lib.hid (GB_17.out.mid hmi (.inr (Nat.le_trans LGQLS.out HB2.out)))
      have GL_18 := Lib.hid (GL_17.out.mid hmi (.inr (Nat.le_trans LGQLS.out HQ.out)))
      have HB_18 := Lib.hid (HB_17.out.trans (hmi.toBelow LDHB.out HB_17.out.size))
      clear hmi HB_17 R_17 V_17 A_17 RS_17 LS_17 CS_17 WB_17 WL_17 QCS_17 GB_17 GL_17
      go_wp2_with fail
      refine (markI_any QCS_18.out (by omega) (by omega) (by omega)).mono ?_
      rintro e u17 ⟨rfl, ho, hmi⟩
      clear ho
      clear QCS_18
      have R_19 := Lib.hid (gr_midw R_18.out hmi (.inl LER.out))
      have V_19 := Lib.hid (d2_midw V_18.out hmi (.inl LEV.out))
      have A_19 := Lib.hid (A_18.out.mid hmi LEA.out)
      have RS_19 := Lib.hid (RS_18.out.mid hmi LERS.out)
      have LS_19 := Lib.hid (LS_18.out.mid hmi LELS.out)
      have CS_19 := Lib.hid (CS_18.out.mid hmi LECS.out)
      have WB_19 := Lib.hid (WB_18.out.mid hmi (.inl LEWB.out))
      have WL_19 := Lib.hid (WL_18.out.mid hmi LEWL.out)
      have GB_19 := Lib.hid (GB_18.out.mid hmi (.inr (Nat.le_trans LGQCS.out HB2.out)))
      have GL_19 := Lib.hid (GL_18.out.mid hmi (.inr (Nat.le_trans LGQCS.out HQ.out)))
      have HB_19 := Lib.hid (HB_18.out.trans (hmi.toBelow LEHB.out HB_18.out.size))
      clear hmi HB_18 R_18 V_18 A_18 RS_18 LS_18 CS_18 WB_18 WL_18 GB_18 GL_18
      obtain ⟨gb0, gb1, gb2, _⟩ := GB_19.out
      obtain ⟨wb0, wb1, wb2, _⟩ := WB_19.out
      go_wp2_with fail
      refine (eqP_any GL_19.out.toIn WL_19.out (by omega)).mono ?_
      rintro e u18 ⟨rfl, hb⟩
      have HB_20 := Lib.hid (bt HB_19.out hb)
      have R_20 := Lib.hid (R_19.out.below hb)
      have V_20 := Lib.hid (V_19.out.below hb)
      have A_20 := Lib.hid (A_19.out.below hb)
      have RS_20 := Lib.hid (RS_19.out.below hb)
      have LS_20 := Lib.hid (LS_19.out.below hb)
      have CS_20 := Lib.hid (CS_19.out.below hb)
      have WB_20 := Lib.hid (WB_19.out.below hb)
      have WL_20 := Lib.hid (WL_19.out.below hb)
      have GB_20 := Lib.hid (GB_19.out.below hb)
      have GL_20 := Lib.hid (GL_19.out.below hb)
      clear hb HB_19 R_19 V_19 A_19 RS_19 LS_19 CS_19 WB_19 WL_19 GB_19 GL_19
      clear gb0 gb1 gb2
      clear wb0 wb1 wb2
      obtain ⟨gb0, gb1, gb2, _⟩ := GB_20.out
      go_wp2_with fail
      refine (markQ_any GL_20.out (by omega) (by omega) (by omega)).mono ?_
      rintro e u19 ⟨rfl, ho, hmi⟩
      clear gb0 gb1 gb2
      clear GL_20
      have R_21 := Lib.hid (gr_midw R_20.out hmi (.inl (Nat.lt_of_lt_of_le LGR.out HQ.out)))
      have V_21 := Lib.hid (d2_midw V_20.out hmi (.inl (Nat.lt_of_lt_of_le LGV.out HQ.out)))
      have A_21 := Lib.hid (A_20.out.mid hmi (Nat.le_trans LGA.out HQ.out))
      have RS_21 := Lib.hid (RS_20.out.mid hmi (Nat.le_trans LGRS.out HQ.out))
      have LS_21 := Lib.hid (LS_20.out.mid hmi (Nat.le_trans LGLS.out HQ.out))
      have CS_21 := Lib.hid (CS_20.out.mid hmi (Nat.le_trans LGCS.out HQ.out))
      have WB_21 := Lib.hid (WB_20.out.mid hmi (.inl (Nat.lt_of_lt_of_le LGWB.out HQ.out)))
      have WL_21 := Lib.hid (WL_20.out.mid hmi (Nat.le_trans LGWL.out HQ.out))
      have GB_21 := Lib.hid (GB_20.out.mid hmi HD.out)
      have HB_21 := Lib.hid (HB_20.out.trans (hmi.toBelow (Nat.le_trans LGHB.out HQ.out) HB_20.out.size))
      have GL_21 := Lib.hid (ho.toIn)
      clear hmi HB_20 R_20 V_20 A_20 RS_20 LS_20 CS_20 WB_20 WL_20 GB_20
      clear ho
      obtain ⟨gb0, gb1, gb2, _⟩ := GB_21.out
      go_wp2_with fail
      refine (heldP_any GL_21.out (by omega) (by omega) (by omega)).mono ?_
      rintro e u20 ⟨rfl, hb⟩
      have HB_22 := Lib.hid (bt HB_21.out hb)
      have R_22 := Lib.hid (R_21.out.below hb)
      have V_22 := Lib.hid (V_21.out.below hb)
      have A_22 := Lib.hid (A_21.out.below hb)
      have RS_22 := Lib.hid (RS_21.out.below hb)
      have LS_22 := Lib.hid (LS_21.out.below hb)
      have CS_22 := Lib.hid (CS_21.out.below hb)
      have WB_22 := Lib.hid (WB_21.out.below hb)
      have WL_22 := Lib.hid (WL_21.out.below hb)
      have GB_22 := Lib.hid (GB_21.out.below hb)
      have GL_22 := Lib.hid (GL_21.out.below hb)
      clear hb HB_21 R_21 V_21 A_21 RS_21 LS_21 CS_21 WB_21 WL_21 GB_21 GL_21
      clear gb0 gb1 gb2
      go_upto_region 42 with fail
      go_cut [23, 24] (fun s1 s2 wx => ∃ (b q P : Nat) (a1_ : Option Addr) (c1_ : Nat) (a2_ : Option Addr) (c2_ : Nat) (a3_ : Option Addr) (c3_ : Nat), s1 = .pointer (some ⟨b, 0, none⟩) ∧ s2 = .bool ok ∧ BoxQ u20 wx b q P (.slice a1_ res.c.length c1_) (.slice a2_ res.h.length c2_) (.slice a3_ res.r.length c3_) res)
      case first =>
        have LO_22 := Lib.hid (show Lo u20 u20 from Below.refl _ _)
        have LR9 := Lib.hid (R_22.out.lt)
        have LV9 := Lib.hid (V_22.out.lt)
        have hbd : Below u20.heap.size u20 u20.drew := (Below.refl _ u20).drew
        have HB_s := Lib.hid (bt HB_22.out hbd)
        have R_s := Lib.hid (R_22.out.below hbd)
        have V_s := Lib.hid (V_22.out.below hbd)
        have A_s := Lib.hid (A_22.out.below hbd)
        have RS_s := Lib.hid (RS_22.out.below hbd)
        have LS_s := Lib.hid (LS_22.out.below hbd)
        have CS_s := Lib.hid (CS_22.out.below hbd)
        have WB_s := Lib.hid (WB_22.out.below hbd)
        have WL_s := Lib.hid (WL_22.out.below hbd)
        have GB_s := Lib.hid (GB_22.out.below hbd)
        have GL_s := Lib.hid (GL_22.out.below hbd)
        have LO_s := Lib.hid (LO_22.out.below hbd)
        clear hbd
        refine wp_region_held_drew (S := (fun w' => (w'.cell? ⟨w.heap.size, 0, none⟩ = some (.int .i64 P0) ∧ w'.cell? ⟨w.heap.size, 1, none⟩ = some (.int .i64 Q0) ∧ w'.cell? ⟨w.heap.size, 2, none⟩ = some (.int .i64 G0)) ∧ (w'.cell? ⟨w.heap.size + 1, 0, none⟩ = some (.int .i64 H1) ∧ w'.cell? ⟨w.heap.size + 1, 1, none⟩ = some (.slice ya hs.length yc)))) (by kernel_rfl) (show _ from ⟨⟨R_22.out.1, R_22.out.2.1, R_22.out.2.2⟩, ⟨V_22.out.1, V_22.out.2⟩⟩) (fun hHeld => ?_)
        generalize hW0 : u20.drew = Ws at *
        clear hW0
        refine wpAnyH_take (i := 0) (v := ?_) rfl (by kernel_rfl) (by kernel_rfl) (by kernel_rfl) (fun _ _ _ h => h) (Or.inl ⟨by kernel_rfl, ?_⟩) (by assumption) ?_
        rotate_left 1
        · intro w9 hSw
          try dsimp only at hSw
          go_simp
          try with_reducible rfl
        try simp only [Act.put, List.getElem_toArray, List.getElem_cons_succ, List.getElem_cons_zero, List.setIfInBounds_toArray, List.set_cons_zero, List.set_cons_succ]
        refine wpAnyH_take (i := 2) (v := ?_) rfl (by kernel_rfl) (by kernel_rfl) (by kernel_rfl) (fun _ _ _ h => h) (Or.inl ⟨by kernel_rfl, ?_⟩) (by assumption) ?_
        rotate_left 1
        · intro w9 hSw
          try dsimp only at hSw
          go_simp
          try with_reducible rfl
        try simp only [Act.put, List.getElem_toArray, List.getElem_cons_succ, List.getElem_cons_zero, List.setIfInBounds_toArray, List.set_cons_zero, List.set_cons_succ]
        refine wpAnyH_take (i := 4) (v := ?_) rfl (by kernel_rfl) (by kernel_rfl) (by kernel_rfl) (fun _ _ _ h => h) (Or.inl ⟨by kernel_rfl, ?_⟩) (by assumption) ?_
        rotate_left 1
        · intro w9 hSw
          try dsimp only at hSw
          go_simp
          try with_reducible rfl
        try simp only [Act.put, List.getElem_toArray, List.getElem_cons_succ, List.getElem_cons_zero, List.setIfInBounds_toArray, List.set_cons_zero, List.set_cons_succ]
        refine wpAnyH_take (i := 6) (v := ?_) rfl (by kernel_rfl) (by kernel_rfl) (by kernel_rfl) (fun _ _ _ h => h) (Or.inl ⟨by kernel_rfl, ?_⟩) (by assumption) ?_
        rotate_left 1
        · intro w9 hSw
          try dsimp only at hSw
          go_simp
          try with_reducible rfl
        try simp only [Act.put, List.getElem_toArray, List.getElem_cons_succ, List.getElem_cons_zero, List.setIfInBounds_toArray, List.set_cons_zero, List.set_cons_succ]
        refine wpAnyH_take (i := 8) (v := ?_) rfl (by kernel_rfl) (by kernel_rfl) (by kernel_rfl) (fun _ _ _ h => h) (Or.inl ⟨by kernel_rfl, ?_⟩) (by assumption) ?_
        rotate_left 1
        · intro w9 hSw
          try dsimp only at hSw
          go_simp
          try with_reducible rfl
        try simp only [Act.put, List.getElem_toArray, List.getElem_cons_succ, List.getElem_cons_zero, List.setIfInBounds_toArray, List.set_cons_zero, List.set_cons_succ]
        refine wpAnyH_ready (rs := [1, 14]) (by kernel_rfl) (by simp) ?_
        refine AllReadyH.cons rfl (fun K hK => ?_) (AllReadyH.cons rfl (fun K hK => ?_) (AllReadyH.nil))
        · go_simp
          go_at_call 26
          refine (toGroup_any _ _ _ _).mono ?_
          rintro e' Wsb ⟨rfl, hb⟩
          have HB_sb := Lib.hid (bt HB_s.out hb)
          have R_sb := Lib.hid (R_s.out.below hb)
          have V_sb := Lib.hid (V_s.out.below hb)
          have A_sb := Lib.hid (A_s.out.below hb)
          have RS_sb := Lib.hid (RS_s.out.below hb)
          have LS_sb := Lib.hid (LS_s.out.below hb)
          have CS_sb := Lib.hid (CS_s.out.below hb)
          have WB_sb := Lib.hid (WB_s.out.below hb)
          have WL_sb := Lib.hid (WL_s.out.below hb)
          have GB_sb := Lib.hid (GB_s.out.below hb)
          have GL_sb := Lib.hid (GL_s.out.below hb)
          have LO_sb := Lib.hid (LO_s.out.below hb)
          clear hb
          go_wp2_with fail
          refine hK.out _ _ (show _ from ⟨⟨R_sb.out.1, R_sb.out.2.1, R_sb.out.2.2⟩, ⟨V_sb.out.1, V_sb.out.2⟩⟩) (fun hHeld => ?_)
          clear hK K
          try simp only [Act.put, List.getElem_toArray, List.getElem_cons_succ, List.getElem_cons_zero, List.setIfInBounds_toArray, List.set_cons_zero, List.set_cons_succ]
          refine wpAnyH_ready (rs := [3, 14]) (by kernel_rfl) (by simp) ?_
          refine AllReadyH.cons rfl (fun K hK => ?_) (AllReadyH.cons rfl (fun K hK => ?_) (AllReadyH.nil))
          · go_simp
            go_at_call 27
            refine (toBas_any A_sb.out (by omega)).mono ?_
            rintro e' Wsbd ⟨yw, rfl, ho, hb⟩
            have HB_sbd := Lib.hid (bt HB_sb.out hb)
            have R_sbd := Lib.hid (R_sb.out.below hb)
            have V_sbd := Lib.hid (V_sb.out.below hb)
            have A_sbd := Lib.hid (A_sb.out.below hb)
            have RS_sbd := Lib.hid (RS_sb.out.below hb)
            have LS_sbd := Lib.hid (LS_sb.out.below hb)
            have CS_sbd := Lib.hid (CS_sb.out.below hb)
            have WB_sbd := Lib.hid (WB_sb.out.below hb)
            have WL_sbd := Lib.hid (WL_sb.out.below hb)
            have GB_sbd := Lib.hid (GB_sb.out.below hb)
            have GL_sbd := Lib.hid (GL_sb.out.below hb)
            have LO_sbd := Lib.hid (LO_sb.out.below hb)
            have CB_sbd := Lib.hid (ho.toIn)
            clear ho
            clear hb
            go_wp2_with fail
            refine hK.out _ _ (show _ from ⟨⟨R_sbd.out.1, R_sbd.out.2.1, R_sbd.out.2.2⟩, ⟨V_sbd.out.1, V_sbd.out.2⟩⟩) (fun hHeld => ?_)
            clear hK K
            try simp only [Act.put, List.getElem_toArray, List.getElem_cons_succ, List.getElem_cons_zero, List.setIfInBounds_toArray, List.set_cons_zero, List.set_cons_succ]
            refine wpAnyH_ready (rs := [5, 14]) (by kernel_rfl) (by simp) ?_
            refine AllReadyH.cons rfl (fun K hK => ?_) (AllReadyH.cons rfl (fun K hK => ?_) (AllReadyH.nil))
            · go_simp
              go_at_call 28
              refine (toI_any RS_sbd.out (by omega)).mono ?_
              rintro e' Wsbdf ⟨xrs, rfl, ho, hb⟩
              have HB_sbdf := Lib.hid (bt HB_sbd.out hb)
              have R_sbdf := Lib.hid (R_sbd.out.below hb)
              have V_sbdf := Lib.hid (V_sbd.out.below hb)
              have A_sbdf := Lib.hid (A_sbd.out.below hb)
              have RS_sbdf := Lib.hid (RS_sbd.out.below hb)
              have LS_sbdf := Lib.hid (LS_sbd.out.below hb)
              have CS_sbdf := Lib.hid (CS_sbd.out.below hb)
              have WB_sbdf := Lib.hid (WB_sbd.out.below hb)
              have WL_sbdf := Lib.hid (WL_sbd.out.below hb)
              have GB_sbdf := Lib.hid (GB_sbd.out.below hb)
              have GL_sbdf := Lib.hid (GL_sbd.out.below hb)
              have LO_sbdf := Lib.hid (LO_sbd.out.below hb)
              have CB_sbdf := Lib.hid (CB_sbd.out.below hb)
              have CRS_sbdf := Lib.hid (ho.toIn)
              clear ho
              clear hb
              go_wp2_with fail
              refine hK.out _ _ (show _ from ⟨⟨R_sbdf.out.1, R_sbdf.out.2.1, R_sbdf.out.2.2⟩, ⟨V_sbdf.out.1, V_sbdf.out.2⟩⟩) (fun hHeld => ?_)
              clear hK K
              try simp only [Act.put, List.getElem_toArray, List.getElem_cons_succ, List.getElem_cons_zero, List.setIfInBounds_toArray, List.set_cons_zero, List.set_cons_succ]
              refine wpAnyH_ready (rs := [7, 14]) (by kernel_rfl) (by simp) ?_
              refine AllReadyH.cons rfl (fun K hK => ?_) (AllReadyH.cons rfl (fun K hK => ?_) (AllReadyH.nil))
              · go_simp
                go_at_call 28
                refine (toI_any LS_sbdf.out (by omega)).mono ?_
                rintro e' Wsbdfh ⟨xls, rfl, ho, hb⟩
                have HB_sbdfh := Lib.hid (bt HB_sbdf.out hb)
                have R_sbdfh := Lib.hid (R_sbdf.out.below hb)
                have V_sbdfh := Lib.hid (V_sbdf.out.below hb)
                have A_sbdfh := Lib.hid (A_sbdf.out.below hb)
                have RS_sbdfh := Lib.hid (RS_sbdf.out.below hb)
                have LS_sbdfh := Lib.hid (LS_sbdf.out.below hb)
                have CS_sbdfh := Lib.hid (CS_sbdf.out.below hb)
                have WB_sbdfh := Lib.hid (WB_sbdf.out.below hb)
                have WL_sbdfh := Lib.hid (WL_sbdf.out.below hb)
                have GB_sbdfh := Lib.hid (GB_sbdf.out.below hb)
                have GL_sbdfh := Lib.hid (GL_sbdf.out.below hb)
                have LO_sbdfh := Lib.hid (LO_sbdf.out.below hb)
                have CB_sbdfh := Lib.hid (CB_sbdf.out.below hb)
                have CRS_sbdfh := Lib.hid (CRS_sbdf.out.below hb)
                have CLS_sbdfh := Lib.hid (ho.toIn)
                clear ho
                clear hb
                go_wp2_with fail
                refine hK.out _ _ (show _ from ⟨⟨R_sbdfh.out.1, R_sbdfh.out.2.1, R_sbdfh.out.2.2⟩, ⟨V_sbdfh.out.1, V_sbdfh.out.2⟩⟩) (fun hHeld => ?_)
                clear hK K
                try simp only [Act.put, List.getElem_toArray, List.getElem_cons_succ, List.getElem_cons_zero, List.setIfInBounds_toArray, List.set_cons_zero, List.set_cons_succ]
                refine wpAnyH_ready (rs := [9, 14]) (by kernel_rfl) (by simp) ?_
                refine AllReadyH.cons rfl (fun K hK => ?_) (AllReadyH.cons rfl (fun K hK => ?_) (AllReadyH.nil))
                · go_simp
                  go_at_call 28
                  refine (toI_any CS_sbdfh.out (by omega)).mono ?_
                  rintro e' Wsbdfhj ⟨xcs, rfl, ho, hb⟩
                  have HB_sbdfhj := Lib.hid (bt HB_sbdfh.out hb)
                  have R_sbdfhj := Lib.hid (R_sbdfh.out.below hb)
                  have V_sbdfhj := Lib.hid (V_sbdfh.out.below hb)
                  have A_sbdfhj := Lib.hid (A_sbdfh.out.below hb)
                  have RS_sbdfhj := Lib.hid (RS_sbdfh.out.below hb)
                  have LS_sbdfhj := Lib.hid (LS_sbdfh.out.below hb)
                  have CS_sbdfhj := Lib.hid (CS_sbdfh.out.below hb)
                  have WB_sbdfhj := Lib.hid (WB_sbdfh.out.below hb)
                  have WL_sbdfhj := Lib.hid (WL_sbdfh.out.below hb)
                  have GB_sbdfhj := Lib.hid (GB_sbdfh.out.below hb)
                  have GL_sbdfhj := Lib.hid (GL_sbdfh.out.below hb)
                  have LO_sbdfhj := Lib.hid (LO_sbdfh.out.below hb)
                  have CB_sbdfhj := Lib.hid (CB_sbdfh.out.below hb)
                  have CRS_sbdfhj := Lib.hid (CRS_sbdfh.out.below hb)
                  have CLS_sbdfhj := Lib.hid (CLS_sbdfh.out.below hb)
                  have CCS_sbdfhj := Lib.hid (ho.toIn)
                  clear ho
                  clear hb
                  go_wp2_with fail
                  refine hK.out _ _ (show _ from ⟨⟨R_sbdfhj.out.1, R_sbdfhj.out.2.1, R_sbdfhj.out.2.2⟩, ⟨V_sbdfhj.out.1, V_sbdfhj.out.2⟩⟩) (fun hHeld => ?_)
                  clear hK K
                  try simp only [Act.put, List.getElem_toArray, List.getElem_cons_succ, List.getElem_cons_zero, List.setIfInBounds_toArray, List.set_cons_zero, List.set_cons_succ]
                  refine wpAnyH_ready (rs := [10, 14]) (by kernel_rfl) (by simp) ?_
                  refine AllReadyH.cons rfl (fun K hK => ?_) (AllReadyH.cons rfl (fun K hK => ?_) (AllReadyH.nil))
                  · go_simp
                    (first | have LQ := Lib.hid Z_sbdfhj.out.lt | skip)
                    have LQS := Lib.hid LO_sbdfhj.out.size
                    go_at_call 29
                    refine (proveSum_any P0 Q0 G0 H1 hsl lrs lls lcs CB_sbdfhj.out CRS_sbdfhj.out CLS_sbdfhj.out CCS_sbdfhj.out).mono ?_
                    rw [HV.out, HK.out]
                    rintro e' Wsbdfhjk ⟨za, zb, zc, rfl, ho, hb⟩
                    obtain ⟨za1, za2, zb1, zb2, zc1, zc2, hsh⟩ := inP_shapeQ (OwQ.toIn ho)
                    simp only [Value.agg.injEq, Array.mk.injEq, List.cons.injEq, and_true] at hsh
                    obtain ⟨rfl, rfl, rfl⟩ := hsh
                    have HB_sbdfhjk := Lib.hid (bt HB_sbdfhj.out hb)
                    have R_sbdfhjk := Lib.hid (R_sbdfhj.out.below hb)
                    have V_sbdfhjk := Lib.hid (V_sbdfhj.out.below hb)
                    have A_sbdfhjk := Lib.hid (A_sbdfhj.out.below hb)
                    have RS_sbdfhjk := Lib.hid (RS_sbdfhj.out.below hb)
                    have LS_sbdfhjk := Lib.hid (LS_sbdfhj.out.below hb)
                    have CS_sbdfhjk := Lib.hid (CS_sbdfhj.out.below hb)
                    have WB_sbdfhjk := Lib.hid (WB_sbdfhj.out.below hb)
                    have WL_sbdfhjk := Lib.hid (WL_sbdfhj.out.below hb)
                    have GB_sbdfhjk := Lib.hid (GB_sbdfhj.out.below hb)
                    have GL_sbdfhjk := Lib.hid (GL_sbdfhj.out.below hb)
                    have LO_sbdfhjk := Lib.hid (LO_sbdfhj.out.below hb)
                    have CB_sbdfhjk := Lib.hid (CB_sbdfhj.out.below hb)
                    have CRS_sbdfhjk := Lib.hid (CRS_sbdfhj.out.below hb)
                    have CLS_sbdfhjk := Lib.hid (CLS_sbdfhj.out.below hb)
                    have CCS_sbdfhjk := Lib.hid (CCS_sbdfhj.out.below hb)
                    have OT_sbdfhjk := Lib.hid (ho)
                    clear ho
                    clear hb
                    go_wp2_with fail
                    refine hK.out _ _ (show _ from ⟨⟨R_sbdfhjk.out.1, R_sbdfhjk.out.2.1, R_sbdfhjk.out.2.2⟩, ⟨V_sbdfhjk.out.1, V_sbdfhjk.out.2⟩⟩) (fun hHeld => ?_)
                    clear hK K
                    try simp only [Act.put, List.getElem_toArray, List.getElem_cons_succ, List.getElem_cons_zero, List.setIfInBounds_toArray, List.set_cons_zero, List.set_cons_succ]
                    refine wpAnyH_take (i := 11) (v := ?_) rfl (by kernel_rfl) (by kernel_rfl) (by kernel_rfl) (fun _ _ _ h => h) (Or.inl ⟨by kernel_rfl, ?_⟩) (by assumption) ?_
                    rotate_left 1
                    · intro w9 hSw
                      try dsimp only at hSw
                      go_simp
                      try with_reducible rfl
                    try simp only [Act.put, List.getElem_toArray, List.getElem_cons_succ, List.getElem_cons_zero, List.setIfInBounds_toArray, List.set_cons_zero, List.set_cons_succ]
                    refine wpAnyH_take (i := 12) (v := ?_) rfl (by kernel_rfl) (by kernel_rfl) (by kernel_rfl) (fun _ _ _ h => h) (Or.inl ⟨by kernel_rfl, ?_⟩) (by assumption) ?_
                    rotate_left 1
                    · intro w9 hSw
                      try dsimp only at hSw
                      go_simp
                      try with_reducible rfl
                    try simp only [Act.put, List.getElem_toArray, List.getElem_cons_succ, List.getElem_cons_zero, List.setIfInBounds_toArray, List.set_cons_zero, List.set_cons_succ]
                    refine wpAnyH_take (i := 13) (v := ?_) rfl (by kernel_rfl) (by kernel_rfl) (by kernel_rfl) (fun _ _ _ h => h) (Or.inl ⟨by kernel_rfl, ?_⟩) (by assumption) ?_
                    rotate_left 1
                    · intro w9 hSw
                      try dsimp only at hSw
                      go_simp
                      try with_reducible rfl
                    try simp only [Act.put, List.getElem_toArray, List.getElem_cons_succ, List.getElem_cons_zero, List.setIfInBounds_toArray, List.set_cons_zero, List.set_cons_succ]
                    refine wpAnyH_ready (rs := [14]) (by kernel_rfl) (by simp) ?_
                    refine AllReadyH.cons rfl (fun K hK => ?_) (AllReadyH.nil)
                    go_simp
                    have hb := ba Wsbdfhjk (.cells #[.slice none 0 0, .slice none 0 0, .slice none 0 0] 49)
                    have HB_sbdfhjko := Lib.hid (bt HB_sbdfhjk.out hb)
                    have R_sbdfhjko := Lib.hid (R_sbdfhjk.out.below hb)
                    have V_sbdfhjko := Lib.hid (V_sbdfhjk.out.below hb)
                    have A_sbdfhjko := Lib.hid (A_sbdfhjk.out.below hb)
                    have RS_sbdfhjko := Lib.hid (RS_sbdfhjk.out.below hb)
                    have LS_sbdfhjko := Lib.hid (LS_sbdfhjk.out.below hb)
                    have CS_sbdfhjko := Lib.hid (CS_sbdfhjk.out.below hb)
                    have WB_sbdfhjko := Lib.hid (WB_sbdfhjk.out.below hb)
                    have WL_sbdfhjko := Lib.hid (WL_sbdfhjk.out.below hb)
                    have GB_sbdfhjko := Lib.hid (GB_sbdfhjk.out.below hb)
                    have GL_sbdfhjko := Lib.hid (GL_sbdfhjk.out.below hb)
                    have LO_sbdfhjko := Lib.hid (LO_sbdfhjk.out.below hb)
                    have CB_sbdfhjko := Lib.hid (CB_sbdfhjk.out.below hb)
                    have CRS_sbdfhjko := Lib.hid (CRS_sbdfhjk.out.below hb)
                    have CLS_sbdfhjko := Lib.hid (CLS_sbdfhjk.out.below hb)
                    have CCS_sbdfhjko := Lib.hid (CCS_sbdfhjk.out.below hb)
                    have OT_sbdfhjko := Lib.hid (OT_sbdfhjk.out.below hb)
                    have Z_sbdfhjko := Lib.hid (show B3 (Wsbdfhjk.alloc (.cells #[.slice none 0 0, .slice none 0 0, .slice none 0 0] 49)) Wsbdfhjk.heap.size (.slice none 0 0) (.slice none 0 0) (.slice none 0 0) from b3_new Wsbdfhjk _ _ _ 49)
                    have LB := Lib.hid (show u20.heap.size ≤ Wsbdfhjk.heap.size from LO_sbdfhjk.out.size)
                    (first | have LD := Lib.hid OT_sbdfhjk.out.le | skip)
                    clear hb
                    refine hK.out _ _ (show _ from ⟨⟨R_sbdfhjko.out.1, R_sbdfhjko.out.2.1, R_sbdfhjko.out.2.2⟩, ⟨V_sbdfhjko.out.1, V_sbdfhjko.out.2⟩⟩) (fun hHeld => ?_)
                    clear hK K
                    try simp only [Act.put, List.getElem_toArray, List.getElem_cons_succ, List.getElem_cons_zero, List.setIfInBounds_toArray, List.set_cons_zero, List.set_cons_succ]
                    generalize hW9 : Wsbdfhjk.alloc (.cells #[.slice none 0 0, .slice none 0 0, .slice none 0 0] 49) = Wsbdfhjko at *
                    clear hW9
                    have hm5 := mid3 Wsbdfhjko (Wsbdfhjk.heap.size) (.slice za1 res.c.length za2) (.slice zb1 res.h.length zb2) (.slice zc1 res.r.length zc2)
                    have R_y := Lib.hid (gr_midw R_sbdfhjko.out hm5 (.inl (Nat.lt_of_lt_of_le LR9.out LB.out)))
                    have V_y := Lib.hid (d2_midw V_sbdfhjko.out hm5 (.inl (Nat.lt_of_lt_of_le LV9.out LB.out)))
                    have BX : BoxQ u20 (((Wsbdfhjko.setCell ⟨Wsbdfhjk.heap.size, 0, none⟩ (.slice za1 res.c.length za2)).setCell ⟨Wsbdfhjk.heap.size, 1, none⟩ (.slice zb1 res.h.length zb2)).setCell ⟨Wsbdfhjk.heap.size, 2, none⟩ (.slice zc1 res.r.length zc2)) (Wsbdfhjk.heap.size) _ _ (.slice za1 res.c.length za2) (.slice zb1 res.h.length zb2) (.slice zc1 res.r.length zc2) res := (by first | exact boxQ_mk LO_sbdfhjko.out LQS.out LB.out Z_sbdfhjko.out OT_sbdfhjko.out (.inl LQ.out) | exact boxQ_mk LO_sbdfhjko.out LQS.out LB.out Z_sbdfhjko.out OT_sbdfhjko.out (.inr LD.out))
                    have BX := Lib.hid BX
                    clear hm5
                    refine wpAnyH_ready (rs := [15]) (by kernel_rfl) (by simp) ?_
                    refine AllReadyH.cons rfl (fun K hK => ?_) AllReadyH.nil
                    obtain ⟨y0, y1, y2, yf⟩ := Z_sbdfhjko.out
                    have yf0 := yf 0
                    have yf1 := yf 1
                    have yf2 := yf 2
                    clear yf
                    go_simp
                    refine hK.out _ _ (show _ from ⟨⟨R_y.out.1, R_y.out.2.1, R_y.out.2.2⟩, ⟨V_y.out.1, V_y.out.2⟩⟩) (fun hHeld => ?_)
                    clear hK K
                    try simp only [Act.put, List.getElem_toArray, List.getElem_cons_succ, List.getElem_cons_zero, List.setIfInBounds_toArray, List.set_cons_zero, List.set_cons_succ]
                    refine wpAnyH_take (i := 16) (v := ?_) rfl (by kernel_rfl) (by kernel_rfl) (by kernel_rfl) (fun _ _ _ h => h) (Or.inl ⟨by kernel_rfl, ?_⟩) (by assumption) ?_
                    rotate_left 1
                    · intro w9 hSw
                      try dsimp only at hSw
                      go_simp
                      try with_reducible rfl
                    try simp only [Act.put, List.getElem_toArray, List.getElem_cons_succ, List.getElem_cons_zero, List.setIfInBounds_toArray, List.set_cons_zero, List.set_cons_succ]
                    refine wpAnyH_done (by kernel_rfl) ?_ _
                    go_wp2_with fail
                    go_meet
                    exact ⟨_, _, _, _, _, _, _, _, _, rfl, rfl, BX.out⟩
                  · go_simp
                    have hb := ba Wsbdfhj (.cells #[.slice none 0 0, .slice none 0 0, .slice none 0 0] 49)
                    have HB_sbdfhjo := Lib.hid (bt HB_sbdfhj.out hb)
                    have R_sbdfhjo := Lib.hid (R_sbdfhj.out.below hb)
                    have V_sbdfhjo := Lib.hid (V_sbdfhj.out.below hb)
                    have A_sbdfhjo := Lib.hid (A_sbdfhj.out.below hb)
                    have RS_sbdfhjo := Lib.hid (RS_sbdfhj.out.below hb)
                    have LS_sbdfhjo := Lib.hid (LS_sbdfhj.out.below hb)
                    have CS_sbdfhjo := Lib.hid (CS_sbdfhj.out.below hb)
                    have WB_sbdfhjo := Lib.hid (WB_sbdfhj.out.below hb)
                    have WL_sbdfhjo := Lib.hid (WL_sbdfhj.out.below hb)
                    have GB_sbdfhjo := Lib.hid (GB_sbdfhj.out.below hb)
                    have GL_sbdfhjo := Lib.hid (GL_sbdfhj.out.below hb)
                    have LO_sbdfhjo := Lib.hid (LO_sbdfhj.out.below hb)
                    have CB_sbdfhjo := Lib.hid (CB_sbdfhj.out.below hb)
                    have CRS_sbdfhjo := Lib.hid (CRS_sbdfhj.out.below hb)
                    have CLS_sbdfhjo := Lib.hid (CLS_sbdfhj.out.below hb)
                    have CCS_sbdfhjo := Lib.hid (CCS_sbdfhj.out.below hb)
                    have Z_sbdfhjo := Lib.hid (show B3 (Wsbdfhj.alloc (.cells #[.slice none 0 0, .slice none 0 0, .slice none 0 0] 49)) Wsbdfhj.heap.size (.slice none 0 0) (.slice none 0 0) (.slice none 0 0) from b3_new Wsbdfhj _ _ _ 49)
                    have LB := Lib.hid (show u20.heap.size ≤ Wsbdfhj.heap.size from LO_sbdfhj.out.size)
                    (first | have LD := Lib.hid OT_sbdfhj.out.le | skip)
                    clear hb
                    refine hK.out _ _ (show _ from ⟨⟨R_sbdfhjo.out.1, R_sbdfhjo.out.2.1, R_sbdfhjo.out.2.2⟩, ⟨V_sbdfhjo.out.1, V_sbdfhjo.out.2⟩⟩) (fun hHeld => ?_)
                    clear hK K
                    try simp only [Act.put, List.getElem_toArray, List.getElem_cons_succ, List.getElem_cons_zero, List.setIfInBounds_toArray, List.set_cons_zero, List.set_cons_succ]
                    generalize hW9 : Wsbdfhj.alloc (.cells #[.slice none 0 0, .slice none 0 0, .slice none 0 0] 49) = Wsbdfhjo at *
                    clear hW9
                    refine wpAnyH_ready (rs := [10]) (by kernel_rfl) (by simp) ?_
                    refine AllReadyH.cons rfl (fun K hK => ?_) (AllReadyH.nil)
                    go_simp
                    (first | have LQ := Lib.hid Z_sbdfhjo.out.lt | skip)
                    have LQS := Lib.hid LO_sbdfhjo.out.size
                    go_at_call 29
                    refine (proveSum_any P0 Q0 G0 H1 hsl lrs lls lcs CB_sbdfhjo.out CRS_sbdfhjo.out CLS_sbdfhjo.out CCS_sbdfhjo.out).mono ?_
                    rw [HV.out, HK.out]
                    rintro e' Wsbdfhjok ⟨za, zb, zc, rfl, ho, hb⟩
                    obtain ⟨za1, za2, zb1, zb2, zc1, zc2, hsh⟩ := inP_shapeQ (OwQ.toIn ho)
                    simp only [Value.agg.injEq, Array.mk.injEq, List.cons.injEq, and_true] at hsh
                    obtain ⟨rfl, rfl, rfl⟩ := hsh
                    have HB_sbdfhjok := Lib.hid (bt HB_sbdfhjo.out hb)
                    have R_sbdfhjok := Lib.hid (R_sbdfhjo.out.below hb)
                    have V_sbdfhjok := Lib.hid (V_sbdfhjo.out.below hb)
                    have A_sbdfhjok := Lib.hid (A_sbdfhjo.out.below hb)
                    have RS_sbdfhjok := Lib.hid (RS_sbdfhjo.out.below hb)
                    have LS_sbdfhjok := Lib.hid (LS_sbdfhjo.out.below hb)
                    have CS_sbdfhjok := Lib.hid (CS_sbdfhjo.out.below hb)
                    have WB_sbdfhjok := Lib.hid (WB_sbdfhjo.out.below hb)
                    have WL_sbdfhjok := Lib.hid (WL_sbdfhjo.out.below hb)
                    have GB_sbdfhjok := Lib.hid (GB_sbdfhjo.out.below hb)
                    have GL_sbdfhjok := Lib.hid (GL_sbdfhjo.out.below hb)
                    have LO_sbdfhjok := Lib.hid (LO_sbdfhjo.out.below hb)
                    have CB_sbdfhjok := Lib.hid (CB_sbdfhjo.out.below hb)
                    have CRS_sbdfhjok := Lib.hid (CRS_sbdfhjo.out.below hb)
                    have CLS_sbdfhjok := Lib.hid (CLS_sbdfhjo.out.below hb)
                    have CCS_sbdfhjok := Lib.hid (CCS_sbdfhjo.out.below hb)
                    have Z_sbdfhjok := Lib.hid (Z_sbdfhjo.out.below hb)
                    have OT_sbdfhjok := Lib.hid (ho)
                    clear ho
                    clear hb
                    go_wp2_with fail
                    refine hK.out _ _ (show _ from ⟨⟨R_sbdfhjok.out.1, R_sbdfhjok.out.2.1, R_sbdfhjok.out.2.2⟩, ⟨V_sbdfhjok.out.1, V_sbdfhjok.out.2⟩⟩) (fun hHeld => ?_)
                    clear hK K
                    try simp only [Act.put, List.getElem_toArray, List.getElem_cons_succ, List.getElem_cons_zero, List.setIfInBounds_toArray, List.set_cons_zero, List.set_cons_succ]
                    refine wpAnyH_take (i := 11) (v := ?_) rfl (by kernel_rfl) (by kernel_rfl) (by kernel_rfl) (fun _ _ _ h => h) (Or.inl ⟨by kernel_rfl, ?_⟩) (by assumption) ?_
                    rotate_left 1
                    · intro w9 hSw
                      try dsimp only at hSw
                      go_simp
                      try with_reducible rfl
                    try simp only [Act.put, List.getElem_toArray, List.getElem_cons_succ, List.getElem_cons_zero, List.setIfInBounds_toArray, List.set_cons_zero, List.set_cons_succ]
                    refine wpAnyH_take (i := 12) (v := ?_) rfl (by kernel_rfl) (by kernel_rfl) (by kernel_rfl) (fun _ _ _ h => h) (Or.inl ⟨by kernel_rfl, ?_⟩) (by assumption) ?_
                    rotate_left 1
                    · intro w9 hSw
                      try dsimp only at hSw
                      go_simp
                      try with_reducible rfl
                    try simp only [Act.put, List.getElem_toArray, List.getElem_cons_succ, List.getElem_cons_zero, List.setIfInBounds_toArray, List.set_cons_zero, List.set_cons_succ]
                    refine wpAnyH_take (i := 13) (v := ?_) rfl (by kernel_rfl) (by kernel_rfl) (by kernel_rfl) (fun _ _ _ h => h) (Or.inl ⟨by kernel_rfl, ?_⟩) (by assumption) ?_
                    rotate_left 1
                    · intro w9 hSw
                      try dsimp only at hSw
                      go_simp
                      try with_reducible rfl
                    try simp only [Act.put, List.getElem_toArray, List.getElem_cons_succ, List.getElem_cons_zero, List.setIfInBounds_toArray, List.set_cons_zero, List.set_cons_succ]
                    have hm5 := mid3 Wsbdfhjok (Wsbdfhj.heap.size) (.slice za1 res.c.length za2) (.slice zb1 res.h.length zb2) (.slice zc1 res.r.length zc2)
                    have R_y := Lib.hid (gr_midw R_sbdfhjok.out hm5 (.inl (Nat.lt_of_lt_of_le LR9.out LB.out)))
                    have V_y := Lib.hid (d2_midw V_sbdfhjok.out hm5 (.inl (Nat.lt_of_lt_of_le LV9.out LB.out)))
                    have BX : BoxQ u20 (((Wsbdfhjok.setCell ⟨Wsbdfhj.heap.size, 0, none⟩ (.slice za1 res.c.length za2)).setCell ⟨Wsbdfhj.heap.size, 1, none⟩ (.slice zb1 res.h.length zb2)).setCell ⟨Wsbdfhj.heap.size, 2, none⟩ (.slice zc1 res.r.length zc2)) (Wsbdfhj.heap.size) _ _ (.slice za1 res.c.length za2) (.slice zb1 res.h.length zb2) (.slice zc1 res.r.length zc2) res := (by first | exact boxQ_mk LO_sbdfhjok.out LQS.out LB.out Z_sbdfhjok.out OT_sbdfhjok.out (.inl LQ.out) | exact boxQ_mk LO_sbdfhjok.out LQS.out LB.out Z_sbdfhjok.out OT_sbdfhjok.out (.inr LD.out))
                    have BX := Lib.hid BX
                    clear hm5
                    refine wpAnyH_ready (rs := [15]) (by kernel_rfl) (by simp) ?_
                    refine AllReadyH.cons rfl (fun K hK => ?_) AllReadyH.nil
                    obtain ⟨y0, y1, y2, yf⟩ := Z_sbdfhjok.out
                    have yf0 := yf 0
                    have yf1 := yf 1
                    have yf2 := yf 2
                    clear yf
                    go_simp
                    refine hK.out _ _ (show _ from ⟨⟨R_y.out.1, R_y.out.2.1, R_y.out.2.2⟩, ⟨V_y.out.1, V_y.out.2⟩⟩) (fun hHeld => ?_)
                    clear hK K
                    try simp only [Act.put, List.getElem_toArray, List.getElem_cons_succ, List.getElem_cons_zero, List.setIfInBounds_toArray, List.set_cons_zero, List.set_cons_succ]
                    refine wpAnyH_take (i := 16) (v := ?_) rfl (by kernel_rfl) (by kernel_rfl) (by kernel_rfl) (fun _ _ _ h => h) (Or.inl ⟨by kernel_rfl, ?_⟩) (by assumption) ?_
                    rotate_left 1
                    · intro w9 hSw
                      try dsimp only at hSw
                      go_simp
                      try with_reducible rfl
                    try simp only [Act.put, List.getElem_toArray, List.getElem_cons_succ, List.getElem_cons_zero, List.setIfInBounds_toArray, List.set_cons_zero, List.set_cons_succ]
                    refine wpAnyH_done (by kernel_rfl) ?_ _
                    go_wp2_with fail
                    go_meet
                    exact ⟨_, _, _, _, _, _, _, _, _, rfl, rfl, BX.out⟩
                · go_simp
                  have hb := ba Wsbdfh (.cells #[.slice none 0 0, .slice none 0 0, .slice none 0 0] 49)
                  have HB_sbdfho := Lib.hid (bt HB_sbdfh.out hb)
                  have R_sbdfho := Lib.hid (R_sbdfh.out.below hb)
                  have V_sbdfho := Lib.hid (V_sbdfh.out.below hb)
                  have A_sbdfho := Lib.hid (A_sbdfh.out.below hb)
                  have RS_sbdfho := Lib.hid (RS_sbdfh.out.below hb)
                  have LS_sbdfho := Lib.hid (LS_sbdfh.out.below hb)
                  have CS_sbdfho := Lib.hid (CS_sbdfh.out.below hb)
                  have WB_sbdfho := Lib.hid (WB_sbdfh.out.below hb)
                  have WL_sbdfho := Lib.hid (WL_sbdfh.out.below hb)
                  have GB_sbdfho := Lib.hid (GB_sbdfh.out.below hb)
                  have GL_sbdfho := Lib.hid (GL_sbdfh.out.below hb)
                  have LO_sbdfho := Lib.hid (LO_sbdfh.out.below hb)
                  have CB_sbdfho := Lib.hid (CB_sbdfh.out.below hb)
                  have CRS_sbdfho := Lib.hid (CRS_sbdfh.out.below hb)
                  have CLS_sbdfho := Lib.hid (CLS_sbdfh.out.below hb)
                  have Z_sbdfho := Lib.hid (show B3 (Wsbdfh.alloc (.cells #[.slice none 0 0, .slice none 0 0, .slice none 0 0] 49)) Wsbdfh.heap.size (.slice none 0 0) (.slice none 0 0) (.slice none 0 0) from b3_new Wsbdfh _ _ _ 49)
                  have LB := Lib.hid (show u20.heap.size ≤ Wsbdfh.heap.size from LO_sbdfh.out.size)
                  (first | have LD := Lib.hid OT_sbdfh.out.le | skip)
                  clear hb
                  refine hK.out _ _ (show _ from ⟨⟨R_sbdfho.out.1, R_sbdfho.out.2.1, R_sbdfho.out.2.2⟩, ⟨V_sbdfho.out.1, V_sbdfho.out.2⟩⟩) (fun hHeld => ?_)
                  clear hK K
                  try simp only [Act.put, List.getElem_toArray, List.getElem_cons_succ, List.getElem_cons_zero, List.setIfInBounds_toArray, List.set_cons_zero, List.set_cons_succ]
                  generalize hW9 : Wsbdfh.alloc (.cells #[.slice none 0 0, .slice none 0 0, .slice none 0 0] 49) = Wsbdfho at *
                  clear hW9
                  refine wpAnyH_ready (rs := [9]) (by kernel_rfl) (by simp) ?_
                  refine AllReadyH.cons rfl (fun K hK => ?_) (AllReadyH.nil)
                  go_simp
                  go_at_call 28
                  refine (toI_any CS_sbdfho.out (by omega)).mono ?_
                  rintro e' Wsbdfhoj ⟨xcs, rfl, ho, hb⟩
                  have HB_sbdfhoj := Lib.hid (bt HB_sbdfho.out hb)
                  have R_sbdfhoj := Lib.hid (R_sbdfho.out.below hb)
                  have V_sbdfhoj := Lib.hid (V_sbdfho.out.below hb)
                  have A_sbdfhoj := Lib.hid (A_sbdfho.out.below hb)
                  have RS_sbdfhoj := Lib.hid (RS_sbdfho.out.below hb)
                  have LS_sbdfhoj := Lib.hid (LS_sbdfho.out.below hb)
                  have CS_sbdfhoj := Lib.hid (CS_sbdfho.out.below hb)
                  have WB_sbdfhoj := Lib.hid (WB_sbdfho.out.below hb)
                  have WL_sbdfhoj := Lib.hid (WL_sbdfho.out.below hb)
                  have GB_sbdfhoj := Lib.hid (GB_sbdfho.out.below hb)
                  have GL_sbdfhoj := Lib.hid (GL_sbdfho.out.below hb)
                  have LO_sbdfhoj := Lib.hid (LO_sbdfho.out.below hb)
                  have CB_sbdfhoj := Lib.hid (CB_sbdfho.out.below hb)
                  have CRS_sbdfhoj := Lib.hid (CRS_sbdfho.out.below hb)
                  have CLS_sbdfhoj := Lib.hid (CLS_sbdfho.out.below hb)
                  have Z_sbdfhoj := Lib.hid (Z_sbdfho.out.below hb)
                  have CCS_sbdfhoj := Lib.hid (ho.toIn)
                  clear ho
                  clear hb
                  go_wp2_with fail
                  refine hK.out _ _ (show _ from ⟨⟨R_sbdfhoj.out.1, R_sbdfhoj.out.2.1, R_sbdfhoj.out.2.2⟩, ⟨V_sbdfhoj.out.1, V_sbdfhoj.out.2⟩⟩) (fun hHeld => ?_)
                  clear hK K
                  try simp only [Act.put, List.getElem_toArray, List.getElem_cons_succ, List.getElem_cons_zero, List.setIfInBounds_toArray, List.set_cons_zero, List.set_cons_succ]
                  refine wpAnyH_ready (rs := [10]) (by kernel_rfl) (by simp) ?_
                  refine AllReadyH.cons rfl (fun K hK => ?_) (AllReadyH.nil)
                  go_simp
                  (first | have LQ := Lib.hid Z_sbdfhoj.out.lt | skip)
                  have LQS := Lib.hid LO_sbdfhoj.out.size
                  go_at_call 29
                  refine (proveSum_any P0 Q0 G0 H1 hsl lrs lls lcs CB_sbdfhoj.out CRS_sbdfhoj.out CLS_sbdfhoj.out CCS_sbdfhoj.out).mono ?_
                  rw [HV.out, HK.out]
                  rintro e' Wsbdfhojk ⟨za, zb, zc, rfl, ho, hb⟩
                  obtain ⟨za1, za2, zb1, zb2, zc1, zc2, hsh⟩ := inP_shapeQ (OwQ.toIn ho)
                  simp only [Value.agg.injEq, Array.mk.injEq, List.cons.injEq, and_true] at hsh
                  obtain ⟨rfl, rfl, rfl⟩ := hsh
                  have HB_sbdfhojk := Lib.hid (bt HB_sbdfhoj.out hb)
                  have R_sbdfhojk := Lib.hid (R_sbdfhoj.out.below hb)
                  have V_sbdfhojk := Lib.hid (V_sbdfhoj.out.below hb)
                  have A_sbdfhojk := Lib.hid (A_sbdfhoj.out.below hb)
                  have RS_sbdfhojk := Lib.hid (RS_sbdfhoj.out.below hb)
                  have LS_sbdfhojk := Lib.hid (LS_sbdfhoj.out.below hb)
                  have CS_sbdfhojk := Lib.hid (CS_sbdfhoj.out.below hb)
                  have WB_sbdfhojk := Lib.hid (WB_sbdfhoj.out.below hb)
                  have WL_sbdfhojk := Lib.hid (WL_sbdfhoj.out.below hb)
                  have GB_sbdfhojk := Lib.hid (GB_sbdfhoj.out.below hb)
                  have GL_sbdfhojk := Lib.hid (GL_sbdfhoj.out.below hb)
                  have LO_sbdfhojk := Lib.hid (LO_sbdfhoj.out.below hb)
                  have CB_sbdfhojk := Lib.hid (CB_sbdfhoj.out.below hb)
                  have CRS_sbdfhojk := Lib.hid (CRS_sbdfhoj.out.below hb)
                  have CLS_sbdfhojk := Lib.hid (CLS_sbdfhoj.out.below hb)
                  have Z_sbdfhojk := Lib.hid (Z_sbdfhoj.out.below hb)
                  have CCS_sbdfhojk := Lib.hid (CCS_sbdfhoj.out.below hb)
                  have OT_sbdfhojk := Lib.hid (ho)
                  clear ho
                  clear hb
                  go_wp2_with fail
                  refine hK.out _ _ (show _ from ⟨⟨R_sbdfhojk.out.1, R_sbdfhojk.out.2.1, R_sbdfhojk.out.2.2⟩, ⟨V_sbdfhojk.out.1, V_sbdfhojk.out.2⟩⟩) (fun hHeld => ?_)
                  clear hK K
                  try simp only [Act.put, List.getElem_toArray, List.getElem_cons_succ, List.getElem_cons_zero, List.setIfInBounds_toArray, List.set_cons_zero, List.set_cons_succ]
                  refine wpAnyH_take (i := 11) (v := ?_) rfl (by kernel_rfl) (by kernel_rfl) (by kernel_rfl) (fun _ _ _ h => h) (Or.inl ⟨by kernel_rfl, ?_⟩) (by assumption) ?_
                  rotate_left 1
                  · intro w9 hSw
                    try dsimp only at hSw
                    go_simp
                    try with_reducible rfl
                  try simp only [Act.put, List.getElem_toArray, List.getElem_cons_succ, List.getElem_cons_zero, List.setIfInBounds_toArray, List.set_cons_zero, List.set_cons_succ]
                  refine wpAnyH_take (i := 12) (v := ?_) rfl (by kernel_rfl) (by kernel_rfl) (by kernel_rfl) (fun _ _ _ h => h) (Or.inl ⟨by kernel_rfl, ?_⟩) (by assumption) ?_
                  rotate_left 1
                  · intro w9 hSw
                    try dsimp only at hSw
                    go_simp
                    try with_reducible rfl
                  try simp only [Act.put, List.getElem_toArray, List.getElem_cons_succ, List.getElem_cons_zero, List.setIfInBounds_toArray, List.set_cons_zero, List.set_cons_succ]
                  refine wpAnyH_take (i := 13) (v := ?_) rfl (by kernel_rfl) (by kernel_rfl) (by kernel_rfl) (fun _ _ _ h => h) (Or.inl ⟨by kernel_rfl, ?_⟩) (by assumption) ?_
                  rotate_left 1
                  · intro w9 hSw
                    try dsimp only at hSw
                    go_simp
                    try with_reducible rfl
                  try simp only [Act.put, List.getElem_toArray, List.getElem_cons_succ, List.getElem_cons_zero, List.setIfInBounds_toArray, List.set_cons_zero, List.set_cons_succ]
                  have hm5 := mid3 Wsbdfhojk (Wsbdfh.heap.size) (.slice za1 res.c.length za2) (.slice zb1 res.h.length zb2) (.slice zc1 res.r.length zc2)
                  have R_y := Lib.hid (gr_midw R_sbdfhojk.out hm5 (.inl (Nat.lt_of_lt_of_le LR9.out LB.out)))
                  have V_y := Lib.hid (d2_midw V_sbdfhojk.out hm5 (.inl (Nat.lt_of_lt_of_le LV9.out LB.out)))
                  have BX : BoxQ u20 (((Wsbdfhojk.setCell ⟨Wsbdfh.heap.size, 0, none⟩ (.slice za1 res.c.length za2)).setCell ⟨Wsbdfh.heap.size, 1, none⟩ (.slice zb1 res.h.length zb2)).setCell ⟨Wsbdfh.heap.size, 2, none⟩ (.slice zc1 res.r.length zc2)) (Wsbdfh.heap.size) _ _ (.slice za1 res.c.length za2) (.slice zb1 res.h.length zb2) (.slice zc1 res.r.length zc2) res := (by first | exact boxQ_mk LO_sbdfhojk.out LQS.out LB.out Z_sbdfhojk.out OT_sbdfhojk.out (.inl LQ.out) | exact boxQ_mk LO_sbdfhojk.out LQS.out LB.out Z_sbdfhojk.out OT_sbdfhojk.out (.inr LD.out))
                  have BX := Lib.hid BX
                  clear hm5
                  refine wpAnyH_ready (rs := [15]) (by kernel_rfl) (by simp) ?_
                  refine AllReadyH.cons rfl (fun K hK => ?_) AllReadyH.nil
                  obtain ⟨y0, y1, y2, yf⟩ := Z_sbdfhojk.out
                  have yf0 := yf 0
                  have yf1 := yf 1
                  have yf2 := yf 2
                  clear yf
                  go_simp
                  refine hK.out _ _ (show _ from ⟨⟨R_y.out.1, R_y.out.2.1, R_y.out.2.2⟩, ⟨V_y.out.1, V_y.out.2⟩⟩) (fun hHeld => ?_)
                  clear hK K
                  try simp only [Act.put, List.getElem_toArray, List.getElem_cons_succ, List.getElem_cons_zero, List.setIfInBounds_toArray, List.set_cons_zero, List.set_cons_succ]
                  refine wpAnyH_take (i := 16) (v := ?_) rfl (by kernel_rfl) (by kernel_rfl) (by kernel_rfl) (fun _ _ _ h => h) (Or.inl ⟨by kernel_rfl, ?_⟩) (by assumption) ?_
                  rotate_left 1
                  · intro w9 hSw
                    try dsimp only at hSw
                    go_simp
                    try with_reducible rfl
                  try simp only [Act.put, List.getElem_toArray, List.getElem_cons_succ, List.getElem_cons_zero, List.setIfInBounds_toArray, List.set_cons_zero, List.set_cons_succ]
                  refine wpAnyH_done (by kernel_rfl) ?_ _
                  go_wp2_with fail
                  go_meet
                  exact ⟨_, _, _, _, _, _, _, _, _, rfl, rfl, BX.out⟩
              · go_simp
                have hb := ba Wsbdf (.cells #[.slice none 0 0, .slice none 0 0, .slice none 0 0] 49)
                have HB_sbdfo := Lib.hid (bt HB_sbdf.out hb)
                have R_sbdfo := Lib.hid (R_sbdf.out.below hb)
                have V_sbdfo := Lib.hid (V_sbdf.out.below hb)
                have A_sbdfo := Lib.hid (A_sbdf.out.below hb)
                have RS_sbdfo := Lib.hid (RS_sbdf.out.below hb)
                have LS_sbdfo := Lib.hid (LS_sbdf.out.below hb)
                have CS_sbdfo := Lib.hid (CS_sbdf.out.below hb)
                have WB_sbdfo := Lib.hid (WB_sbdf.out.below hb)
                have WL_sbdfo := Lib.hid (WL_sbdf.out.below hb)
                have GB_sbdfo := Lib.hid (GB_sbdf.out.below hb)
                have GL_sbdfo := Lib.hid (GL_sbdf.out.below hb)
                have LO_sbdfo := Lib.hid (LO_sbdf.out.below hb)
                have CB_sbdfo := Lib.hid (CB_sbdf.out.below hb)
                have CRS_sbdfo := Lib.hid (CRS_sbdf.out.below hb)
                have Z_sbdfo := Lib.hid (show B3 (Wsbdf.alloc (.cells #[.slice none 0 0, .slice none 0 0, .slice none 0 0] 49)) Wsbdf.heap.size (.slice none 0 0) (.slice none 0 0) (.slice none 0 0) from b3_new Wsbdf _ _ _ 49)
                have LB := Lib.hid (show u20.heap.size ≤ Wsbdf.heap.size from LO_sbdf.out.size)
                (first | have LD := Lib.hid OT_sbdf.out.le | skip)
                clear hb
                refine hK.out _ _ (show _ from ⟨⟨R_sbdfo.out.1, R_sbdfo.out.2.1, R_sbdfo.out.2.2⟩, ⟨V_sbdfo.out.1, V_sbdfo.out.2⟩⟩) (fun hHeld => ?_)
                clear hK K
                try simp only [Act.put, List.getElem_toArray, List.getElem_cons_succ, List.getElem_cons_zero, List.setIfInBounds_toArray, List.set_cons_zero, List.set_cons_succ]
                generalize hW9 : Wsbdf.alloc (.cells #[.slice none 0 0, .slice none 0 0, .slice none 0 0] 49) = Wsbdfo at *
                clear hW9
                refine wpAnyH_ready (rs := [7]) (by kernel_rfl) (by simp) ?_
                refine AllReadyH.cons rfl (fun K hK => ?_) (AllReadyH.nil)
                go_simp
                go_at_call 28
                refine (toI_any LS_sbdfo.out (by omega)).mono ?_
                rintro e' Wsbdfoh ⟨xls, rfl, ho, hb⟩
                have HB_sbdfoh := Lib.hid (bt HB_sbdfo.out hb)
                have R_sbdfoh := Lib.hid (R_sbdfo.out.below hb)
                have V_sbdfoh := Lib.hid (V_sbdfo.out.below hb)
                have A_sbdfoh := Lib.hid (A_sbdfo.out.below hb)
                have RS_sbdfoh := Lib.hid (RS_sbdfo.out.below hb)
                have LS_sbdfoh := Lib.hid (LS_sbdfo.out.below hb)
                have CS_sbdfoh := Lib.hid (CS_sbdfo.out.below hb)
                have WB_sbdfoh := Lib.hid (WB_sbdfo.out.below hb)
                have WL_sbdfoh := Lib.hid (WL_sbdfo.out.below hb)
                have GB_sbdfoh := Lib.hid (GB_sbdfo.out.below hb)
                have GL_sbdfoh := Lib.hid (GL_sbdfo.out.below hb)
                have LO_sbdfoh := Lib.hid (LO_sbdfo.out.below hb)
                have CB_sbdfoh := Lib.hid (CB_sbdfo.out.below hb)
                have CRS_sbdfoh := Lib.hid (CRS_sbdfo.out.below hb)
                have Z_sbdfoh := Lib.hid (Z_sbdfo.out.below hb)
                have CLS_sbdfoh := Lib.hid (ho.toIn)
                clear ho
                clear hb
                go_wp2_with fail
                refine hK.out _ _ (show _ from ⟨⟨R_sbdfoh.out.1, R_sbdfoh.out.2.1, R_sbdfoh.out.2.2⟩, ⟨V_sbdfoh.out.1, V_sbdfoh.out.2⟩⟩) (fun hHeld => ?_)
                clear hK K
                try simp only [Act.put, List.getElem_toArray, List.getElem_cons_succ, List.getElem_cons_zero, List.setIfInBounds_toArray, List.set_cons_zero, List.set_cons_succ]
                refine wpAnyH_ready (rs := [9]) (by kernel_rfl) (by simp) ?_
                refine AllReadyH.cons rfl (fun K hK => ?_) (AllReadyH.nil)
                go_simp
                go_at_call 28
                refine (toI_any CS_sbdfoh.out (by omega)).mono ?_
                rintro e' Wsbdfohj ⟨xcs, rfl, ho, hb⟩
                have HB_sbdfohj := Lib.hid (bt HB_sbdfoh.out hb)
                have R_sbdfohj := Lib.hid (R_sbdfoh.out.below hb)
                have V_sbdfohj := Lib.hid (V_sbdfoh.out.below hb)
                have A_sbdfohj := Lib.hid (A_sbdfoh.out.below hb)
                have RS_sbdfohj := Lib.hid (RS_sbdfoh.out.below hb)
                have LS_sbdfohj := Lib.hid (LS_sbdfoh.out.below hb)
                have CS_sbdfohj := Lib.hid (CS_sbdfoh.out.below hb)
                have WB_sbdfohj := Lib.hid (WB_sbdfoh.out.below hb)
                have WL_sbdfohj := Lib.hid (WL_sbdfoh.out.below hb)
                have GB_sbdfohj := Lib.hid (GB_sbdfoh.out.below hb)
                have GL_sbdfohj := Lib.hid (GL_sbdfoh.out.below hb)
                have LO_sbdfohj := Lib.hid (LO_sbdfoh.out.below hb)
                have CB_sbdfohj := Lib.hid (CB_sbdfoh.out.below hb)
                have CRS_sbdfohj := Lib.hid (CRS_sbdfoh.out.below hb)
                have Z_sbdfohj := Lib.hid (Z_sbdfoh.out.below hb)
                have CLS_sbdfohj := Lib.hid (CLS_sbdfoh.out.below hb)
                have CCS_sbdfohj := Lib.hid (ho.toIn)
                clear ho
                clear hb
                go_wp2_with fail
                refine hK.out _ _ (show _ from ⟨⟨R_sbdfohj.out.1, R_sbdfohj.out.2.1, R_sbdfohj.out.2.2⟩, ⟨V_sbdfohj.out.1, V_sbdfohj.out.2⟩⟩) (fun hHeld => ?_)
                clear hK K
                try simp only [Act.put, List.getElem_toArray, List.getElem_cons_succ, List.getElem_cons_zero, List.setIfInBounds_toArray, List.set_cons_zero, List.set_cons_succ]
                refine wpAnyH_ready (rs := [10]) (by kernel_rfl) (by simp) ?_
                refine AllReadyH.cons rfl (fun K hK => ?_) (AllReadyH.nil)
                go_simp
                (first | have LQ := Lib.hid Z_sbdfohj.out.lt | skip)
                have LQS := Lib.hid LO_sbdfohj.out.size
                go_at_call 29
                refine (proveSum_any P0 Q0 G0 H1 hsl lrs lls lcs CB_sbdfohj.out CRS_sbdfohj.out CLS_sbdfohj.out CCS_sbdfohj.out).mono ?_
                rw [HV.out, HK.out]
                rintro e' Wsbdfohjk ⟨za, zb, zc, rfl, ho, hb⟩
                obtain ⟨za1, za2, zb1, zb2, zc1, zc2, hsh⟩ := inP_shapeQ (OwQ.toIn ho)
                simp only [Value.agg.injEq, Array.mk.injEq, List.cons.injEq, and_true] at hsh
                obtain ⟨rfl, rfl, rfl⟩ := hsh
                have HB_sbdfohjk := Lib.hid (bt HB_sbdfohj.out hb)
                have R_sbdfohjk := Lib.hid (R_sbdfohj.out.below hb)
                have V_sbdfohjk := Lib.hid (V_sbdfohj.out.below hb)
                have A_sbdfohjk := Lib.hid (A_sbdfohj.out.below hb)
                have RS_sbdfohjk := Lib.hid (RS_sbdfohj.out.below hb)
                have LS_sbdfohjk := Lib.hid (LS_sbdfohj.out.below hb)
                have CS_sbdfohjk := Lib.hid (CS_sbdfohj.out.below hb)
                have WB_sbdfohjk := Lib.hid (WB_sbdfohj.out.below hb)
                have WL_sbdfohjk := Lib.hid (WL_sbdfohj.out.below hb)
                have GB_sbdfohjk := Lib.hid (GB_sbdfohj.out.below hb)
                have GL_sbdfohjk := Lib.hid (GL_sbdfohj.out.below hb)
                have LO_sbdfohjk := Lib.hid (LO_sbdfohj.out.below hb)
                have CB_sbdfohjk := Lib.hid (CB_sbdfohj.out.below hb)
                have CRS_sbdfohjk := Lib.hid (CRS_sbdfohj.out.below hb)
                have Z_sbdfohjk := Lib.hid (Z_sbdfohj.out.below hb)
                have CLS_sbdfohjk := Lib.hid (CLS_sbdfohj.out.below hb)
                have CCS_sbdfohjk := Lib.hid (CCS_sbdfohj.out.below hb)
                have OT_sbdfohjk := Lib.hid (ho)
                clear ho
                clear hb
                go_wp2_with fail
                refine hK.out _ _ (show _ from ⟨⟨R_sbdfohjk.out.1, R_sbdfohjk.out.2.1, R_sbdfohjk.out.2.2⟩, ⟨V_sbdfohjk.out.1, V_sbdfohjk.out.2⟩⟩) (fun hHeld => ?_)
                clear hK K
                try simp only [Act.put, List.getElem_toArray, List.getElem_cons_succ, List.getElem_cons_zero, List.setIfInBounds_toArray, List.set_cons_zero, List.set_cons_succ]
                refine wpAnyH_take (i := 11) (v := ?_) rfl (by kernel_rfl) (by kernel_rfl) (by kernel_rfl) (fun _ _ _ h => h) (Or.inl ⟨by kernel_rfl, ?_⟩) (by assumption) ?_
                rotate_left 1
                · intro w9 hSw
                  try dsimp only at hSw
                  go_simp
                  try with_reducible rfl
                try simp only [Act.put, List.getElem_toArray, List.getElem_cons_succ, List.getElem_cons_zero, List.setIfInBounds_toArray, List.set_cons_zero, List.set_cons_succ]
                refine wpAnyH_take (i := 12) (v := ?_) rfl (by kernel_rfl) (by kernel_rfl) (by kernel_rfl) (fun _ _ _ h => h) (Or.inl ⟨by kernel_rfl, ?_⟩) (by assumption) ?_
                rotate_left 1
                · intro w9 hSw
                  try dsimp only at hSw
                  go_simp
                  try with_reducible rfl
                try simp only [Act.put, List.getElem_toArray, List.getElem_cons_succ, List.getElem_cons_zero, List.setIfInBounds_toArray, List.set_cons_zero, List.set_cons_succ]
                refine wpAnyH_take (i := 13) (v := ?_) rfl (by kernel_rfl) (by kernel_rfl) (by kernel_rfl) (fun _ _ _ h => h) (Or.inl ⟨by kernel_rfl, ?_⟩) (by assumption) ?_
                rotate_left 1
                · intro w9 hSw
                  try dsimp only at hSw
                  go_simp
                  try with_reducible rfl
                try simp only [Act.put, List.getElem_toArray, List.getElem_cons_succ, List.getElem_cons_zero, List.setIfInBounds_toArray, List.set_cons_zero, List.set_cons_succ]
                have hm5 := mid3 Wsbdfohjk (Wsbdf.heap.size) (.slice za1 res.c.length za2) (.slice zb1 res.h.length zb2) (.slice zc1 res.r.length zc2)
                have R_y := Lib.hid (gr_midw R_sbdfohjk.out hm5 (.inl (Nat.lt_of_lt_of_le LR9.out LB.out)))
                have V_y := Lib.hid (d2_midw V_sbdfohjk.out hm5 (.inl (Nat.lt_of_lt_of_le LV9.out LB.out)))
                have BX : BoxQ u20 (((Wsbdfohjk.setCell ⟨Wsbdf.heap.size, 0, none⟩ (.slice za1 res.c.length za2)).setCell ⟨Wsbdf.heap.size, 1, none⟩ (.slice zb1 res.h.length zb2)).setCell ⟨Wsbdf.heap.size, 2, none⟩ (.slice zc1 res.r.length zc2)) (Wsbdf.heap.size) _ _ (.slice za1 res.c.length za2) (.slice zb1 res.h.length zb2) (.slice zc1 res.r.length zc2) res := (by first | exact boxQ_mk LO_sbdfohjk.out LQS.out LB.out Z_sbdfohjk.out OT_sbdfohjk.out (.inl LQ.out) | exact boxQ_mk LO_sbdfohjk.out LQS.out LB.out Z_sbdfohjk.out OT_sbdfohjk.out (.inr LD.out))
                have BX := Lib.hid BX
                clear hm5
                refine wpAnyH_ready (rs := [15]) (by kernel_rfl) (by simp) ?_
                refine AllReadyH.cons rfl (fun K hK => ?_) AllReadyH.nil
                obtain ⟨y0, y1, y2, yf⟩ := Z_sbdfohjk.out
                have yf0 := yf 0
                have yf1 := yf 1
                have yf2 := yf 2
                clear yf
                go_simp
                refine hK.out _ _ (show _ from ⟨⟨R_y.out.1, R_y.out.2.1, R_y.out.2.2⟩, ⟨V_y.out.1, V_y.out.2⟩⟩) (fun hHeld => ?_)
                clear hK K
                try simp only [Act.put, List.getElem_toArray, List.getElem_cons_succ, List.getElem_cons_zero, List.setIfInBounds_toArray, List.set_cons_zero, List.set_cons_succ]
                refine wpAnyH_take (i := 16) (v := ?_) rfl (by kernel_rfl) (by kernel_rfl) (by kernel_rfl) (fun _ _ _ h => h) (Or.inl ⟨by kernel_rfl, ?_⟩) (by assumption) ?_
                rotate_left 1
                · intro w9 hSw
                  try dsimp only at hSw
                  go_simp
                  try with_reducible rfl
                try simp only [Act.put, List.getElem_toArray, List.getElem_cons_succ, List.getElem_cons_zero, List.setIfInBounds_toArray, List.set_cons_zero, List.set_cons_succ]
                refine wpAnyH_done (by kernel_rfl) ?_ _
                go_wp2_with fail
                go_meet
                exact ⟨_, _, _, _, _, _, _, _, _, rfl, rfl, BX.out⟩
            · go_simp
              have hb := ba Wsbd (.cells #[.slice none 0 0, .slice none 0 0, .slice none 0 0] 49)
              have HB_sbdo := Lib.hid (bt HB_sbd.out hb)
              have R_sbdo := Lib.hid (R_sbd.out.below hb)
              have V_sbdo := Lib.hid (V_sbd.out.below hb)
              have A_sbdo := Lib.hid (A_sbd.out.below hb)
              have RS_sbdo := Lib.hid (RS_sbd.out.below hb)
              have LS_sbdo := Lib.hid (LS_sbd.out.below hb)
              have CS_sbdo := Lib.hid (CS_sbd.out.below hb)
              have WB_sbdo := Lib.hid (WB_sbd.out.below hb)
              have WL_sbdo := Lib.hid (WL_sbd.out.below hb)
              have GB_sbdo := Lib.hid (GB_sbd.out.below hb)
              have GL_sbdo := Lib.hid (GL_sbd.out.below hb)
              have LO_sbdo := Lib.hid (LO_sbd.out.below hb)
              have CB_sbdo := Lib.hid (CB_sbd.out.below hb)
              have Z_sbdo := Lib.hid (show B3 (Wsbd.alloc (.cells #[.slice none 0 0, .slice none 0 0, .slice none 0 0] 49)) Wsbd.heap.size (.slice none 0 0) (.slice none 0 0) (.slice none 0 0) from b3_new Wsbd _ _ _ 49)
              have LB := Lib.hid (show u20.heap.size ≤ Wsbd.heap.size from LO_sbd.out.size)
              (first | have LD := Lib.hid OT_sbd.out.le | skip)
              clear hb
              refine hK.out _ _ (show _ from ⟨⟨R_sbdo.out.1, R_sbdo.out.2.1, R_sbdo.out.2.2⟩, ⟨V_sbdo.out.1, V_sbdo.out.2⟩⟩) (fun hHeld => ?_)
              clear hK K
              try simp only [Act.put, List.getElem_toArray, List.getElem_cons_succ, List.getElem_cons_zero, List.setIfInBounds_toArray, List.set_cons_zero, List.set_cons_succ]
              generalize hW9 : Wsbd.alloc (.cells #[.slice none 0 0, .slice none 0 0, .slice none 0 0] 49) = Wsbdo at *
              clear hW9
              refine wpAnyH_ready (rs := [5]) (by kernel_rfl) (by simp) ?_
              refine AllReadyH.cons rfl (fun K hK => ?_) (AllReadyH.nil)
              go_simp
              go_at_call 28
              refine (toI_any RS_sbdo.out (by omega)).mono ?_
              rintro e' Wsbdof ⟨xrs, rfl, ho, hb⟩
              have HB_sbdof := Lib.hid (bt HB_sbdo.out hb)
              have R_sbdof := Lib.hid (R_sbdo.out.below hb)
              have V_sbdof := Lib.hid (V_sbdo.out.below hb)
              have A_sbdof := Lib.hid (A_sbdo.out.below hb)
              have RS_sbdof := Lib.hid (RS_sbdo.out.below hb)
              have LS_sbdof := Lib.hid (LS_sbdo.out.below hb)
              have CS_sbdof := Lib.hid (CS_sbdo.out.below hb)
              have WB_sbdof := Lib.hid (WB_sbdo.out.below hb)
              have WL_sbdof := Lib.hid (WL_sbdo.out.below hb)
              have GB_sbdof := Lib.hid (GB_sbdo.out.below hb)
              have GL_sbdof := Lib.hid (GL_sbdo.out.below hb)
              have LO_sbdof := Lib.hid (LO_sbdo.out.below hb)
              have CB_sbdof := Lib.hid (CB_sbdo.out.below hb)
              have Z_sbdof := Lib.hid (Z_sbdo.out.below hb)
              have CRS_sbdof := Lib.hid (ho.toIn)
              clear ho
              clear hb
              go_wp2_with fail
              refine hK.out _ _ (show _ from ⟨⟨R_sbdof.out.1, R_sbdof.out.2.1, R_sbdof.out.2.2⟩, ⟨V_sbdof.out.1, V_sbdof.out.2⟩⟩) (fun hHeld => ?_)
              clear hK K
              try simp only [Act.put, List.getElem_toArray, List.getElem_cons_succ, List.getElem_cons_zero, List.setIfInBounds_toArray, List.set_cons_zero, List.set_cons_succ]
              refine wpAnyH_ready (rs := [7]) (by kernel_rfl) (by simp) ?_
              refine AllReadyH.cons rfl (fun K hK => ?_) (AllReadyH.nil)
              go_simp
              go_at_call 28
              refine (toI_any LS_sbdof.out (by omega)).mono ?_
              rintro e' Wsbdofh ⟨xls, rfl, ho, hb⟩
              have HB_sbdofh := Lib.hid (bt HB_sbdof.out hb)
              have R_sbdofh := Lib.hid (R_sbdof.out.below hb)
              have V_sbdofh := Lib.hid (V_sbdof.out.below hb)
              have A_sbdofh := Lib.hid (A_sbdof.out.below hb)
              have RS_sbdofh := Lib.hid (RS_sbdof.out.below hb)
              have LS_sbdofh := Lib.hid (LS_sbdof.out.below hb)
              have CS_sbdofh := Lib.hid (CS_sbdof.out.below hb)
              have WB_sbdofh := Lib.hid (WB_sbdof.out.below hb)
              have WL_sbdofh := Lib.hid (WL_sbdof.out.below hb)
              have GB_sbdofh := Lib.hid (GB_sbdof.out.below hb)
              have GL_sbdofh := Lib.hid (GL_sbdof.out.below hb)
              have LO_sbdofh := Lib.hid (LO_sbdof.out.below hb)
              have CB_sbdofh := Lib.hid (CB_sbdof.out.below hb)
              have Z_sbdofh := Lib.hid (Z_sbdof.out.below hb)
              have CRS_sbdofh := Lib.hid (CRS_sbdof.out.below hb)
              have CLS_sbdofh := Lib.hid (ho.toIn)
              clear ho
              clear hb
              go_wp2_with fail
              refine hK.out _ _ (show _ from ⟨⟨R_sbdofh.out.1, R_sbdofh.out.2.1, R_sbdofh.out.2.2⟩, ⟨V_sbdofh.out.1, V_sbdofh.out.2⟩⟩) (fun hHeld => ?_)
              clear hK K
              try simp only [Act.put, List.getElem_toArray, List.getElem_cons_succ, List.getElem_cons_zero, List.setIfInBounds_toArray, List.set_cons_zero, List.set_cons_succ]
              refine wpAnyH_ready (rs := [9]) (by kernel_rfl) (by simp) ?_
              refine AllReadyH.cons rfl (fun K hK => ?_) (AllReadyH.nil)
              go_simp
              go_at_call 28
              refine (toI_any CS_sbdofh.out (by omega)).mono ?_
              rintro e' Wsbdofhj ⟨xcs, rfl, ho, hb⟩
              have HB_sbdofhj := Lib.hid (bt HB_sbdofh.out hb)
              have R_sbdofhj := Lib.hid (R_sbdofh.out.below hb)
              have V_sbdofhj := Lib.hid (V_sbdofh.out.below hb)
              have A_sbdofhj := Lib.hid (A_sbdofh.out.below hb)
              have RS_sbdofhj := Lib.hid (RS_sbdofh.out.below hb)
              have LS_sbdofhj := Lib.hid (LS_sbdofh.out.below hb)
              have CS_sbdofhj := Lib.hid (CS_sbdofh.out.below hb)
              have WB_sbdofhj := Lib.hid (WB_sbdofh.out.below hb)
              have WL_sbdofhj := Lib.hid (WL_sbdofh.out.below hb)
              have GB_sbdofhj := Lib.hid (GB_sbdofh.out.below hb)
              have GL_sbdofhj := Lib.hid (GL_sbdofh.out.below hb)
              have LO_sbdofhj := Lib.hid (LO_sbdofh.out.below hb)
              have CB_sbdofhj := Lib.hid (CB_sbdofh.out.below hb)
              have Z_sbdofhj := Lib.hid (Z_sbdofh.out.below hb)
              have CRS_sbdofhj := Lib.hid (CRS_sbdofh.out.below hb)
              have CLS_sbdofhj := Lib.hid (CLS_sbdofh.out.below hb)
              have CCS_sbdofhj := Lib.hid (ho.toIn)
              clear ho
              clear hb
              go_wp2_with fail
              refine hK.out _ _ (show _ from ⟨⟨R_sbdofhj.out.1, R_sbdofhj.out.2.1, R_sbdofhj.out.2.2⟩, ⟨V_sbdofhj.out.1, V_sbdofhj.out.2⟩⟩) (fun hHeld => ?_)
              clear hK K
              try simp only [Act.put, List.getElem_toArray, List.getElem_cons_succ, List.getElem_cons_zero, List.setIfInBounds_toArray, List.set_cons_zero, List.set_cons_succ]
              refine wpAnyH_ready (rs := [10]) (by kernel_rfl) (by simp) ?_
              refine AllReadyH.cons rfl (fun K hK => ?_) (AllReadyH.nil)
              go_simp
              (first | have LQ := Lib.hid Z_sbdofhj.out.lt | skip)
              have LQS := Lib.hid LO_sbdofhj.out.size
              go_at_call 29
              refine (proveSum_any P0 Q0 G0 H1 hsl lrs lls lcs CB_sbdofhj.out CRS_sbdofhj.out CLS_sbdofhj.out CCS_sbdofhj.out).mono ?_
              rw [HV.out, HK.out]
              rintro e' Wsbdofhjk ⟨za, zb, zc, rfl, ho, hb⟩
              obtain ⟨za1, za2, zb1, zb2, zc1, zc2, hsh⟩ := inP_shapeQ (OwQ.toIn ho)
              simp only [Value.agg.injEq, Array.mk.injEq, List.cons.injEq, and_true] at hsh
              obtain ⟨rfl, rfl, rfl⟩ := hsh
              have HB_sbdofhjk := Lib.hid (bt HB_sbdofhj.out hb)
              have R_sbdofhjk := Lib.hid (R_sbdofhj.out.below hb)
              have V_sbdofhjk := Lib.hid (V_sbdofhj.out.below hb)
              have A_sbdofhjk := Lib.hid (A_sbdofhj.out.below hb)
              have RS_sbdofhjk := Lib.hid (RS_sbdofhj.out.below hb)
              have LS_sbdofhjk := Lib.hid (LS_sbdofhj.out.below hb)
              have CS_sbdofhjk := Lib.hid (CS_sbdofhj.out.below hb)
              have WB_sbdofhjk := Lib.hid (WB_sbdofhj.out.below hb)
              have WL_sbdofhjk := Lib.hid (WL_sbdofhj.out.below hb)
              have GB_sbdofhjk := Lib.hid (GB_sbdofhj.out.below hb)
              have GL_sbdofhjk := Lib.hid (GL_sbdofhj.out.below hb)
              have LO_sbdofhjk := Lib.hid (LO_sbdofhj.out.below hb)
              have CB_sbdofhjk := Lib.hid (CB_sbdofhj.out.below hb)
              have Z_sbdofhjk := Lib.hid (Z_sbdofhj.out.below hb)
              have CRS_sbdofhjk := Lib.hid (CRS_sbdofhj.out.below hb)
              have CLS_sbdofhjk := Lib.hid (CLS_sbdofhj.out.below hb)
              have CCS_sbdofhjk := Lib.hid (CCS_sbdofhj.out.below hb)
              have OT_sbdofhjk := Lib.hid (ho)
              clear ho
              clear hb
              go_wp2_with fail
              refine hK.out _ _ (show _ from ⟨⟨R_sbdofhjk.out.1, R_sbdofhjk.out.2.1, R_sbdofhjk.out.2.2⟩, ⟨V_sbdofhjk.out.1, V_sbdofhjk.out.2⟩⟩) (fun hHeld => ?_)
              clear hK K
              try simp only [Act.put, List.getElem_toArray, List.getElem_cons_succ, List.getElem_cons_zero, List.setIfInBounds_toArray, List.set_cons_zero, List.set_cons_succ]
              refine wpAnyH_take (i := 11) (v := ?_) rfl (by kernel_rfl) (by kernel_rfl) (by kernel_rfl) (fun _ _ _ h => h) (Or.inl ⟨by kernel_rfl, ?_⟩) (by assumption) ?_
              rotate_left 1
              · intro w9 hSw
                try dsimp only at hSw
                go_simp
                try with_reducible rfl
              try simp only [Act.put, List.getElem_toArray, List.getElem_cons_succ, List.getElem_cons_zero, List.setIfInBounds_toArray, List.set_cons_zero, List.set_cons_succ]
              refine wpAnyH_take (i := 12) (v := ?_) rfl (by kernel_rfl) (by kernel_rfl) (by kernel_rfl) (fun _ _ _ h => h) (Or.inl ⟨by kernel_rfl, ?_⟩) (by assumption) ?_
              rotate_left 1
              · intro w9 hSw
                try dsimp only at hSw
                go_simp
                try with_reducible rfl
              try simp only [Act.put, List.getElem_toArray, List.getElem_cons_succ, List.getElem_cons_zero, List.setIfInBounds_toArray, List.set_cons_zero, List.set_cons_succ]
              refine wpAnyH_take (i := 13) (v := ?_) rfl (by kernel_rfl) (by kernel_rfl) (by kernel_rfl) (fun _ _ _ h => h) (Or.inl ⟨by kernel_rfl, ?_⟩) (by assumption) ?_
              rotate_left 1
              · intro w9 hSw
                try dsimp only at hSw
                go_simp
                try with_reducible rfl
              try simp only [Act.put, List.getElem_toArray, List.getElem_cons_succ, List.getElem_cons_zero, List.setIfInBounds_toArray, List.set_cons_zero, List.set_cons_succ]
              have hm5 := mid3 Wsbdofhjk (Wsbd.heap.size) (.slice za1 res.c.length za2) (.slice zb1 res.h.length zb2) (.slice zc1 res.r.length zc2)
              have R_y := Lib.hid (gr_midw R_sbdofhjk.out hm5 (.inl (Nat.lt_of_lt_of_le LR9.out LB.out)))
              have V_y := Lib.hid (d2_midw V_sbdofhjk.out hm5 (.inl (Nat.lt_of_lt_of_le LV9.out LB.out)))
              have BX : BoxQ u20 (((Wsbdofhjk.setCell ⟨Wsbd.heap.size, 0, none⟩ (.slice za1 res.c.length za2)).setCell ⟨Wsbd.heap.size, 1, none⟩ (.slice zb1 res.h.length zb2)).setCell ⟨Wsbd.heap.size, 2, none⟩ (.slice zc1 res.r.length zc2)) (Wsbd.heap.size) _ _ (.slice za1 res.c.length za2) (.slice zb1 res.h.length zb2) (.slice zc1 res.r.length zc2) res := (by first | exact boxQ_mk LO_sbdofhjk.out LQS.out LB.out Z_sbdofhjk.out OT_sbdofhjk.out (.inl LQ.out) | exact boxQ_mk LO_sbdofhjk.out LQS.out LB.out Z_sbdofhjk.out OT_sbdofhjk.out (.inr LD.out))
              have BX := Lib.hid BX
              clear hm5
              refine wpAnyH_ready (rs := [15]) (by kernel_rfl) (by simp) ?_
              refine AllReadyH.cons rfl (fun K hK => ?_) AllReadyH.nil
              obtain ⟨y0, y1, y2, yf⟩ := Z_sbdofhjk.out
              have yf0 := yf 0
              have yf1 := yf 1
              have yf2 := yf 2
              clear yf
              go_simp
              refine hK.out _ _ (show _ from ⟨⟨R_y.out.1, R_y.out.2.1, R_y.out.2.2⟩, ⟨V_y.out.1, V_y.out.2⟩⟩) (fun hHeld => ?_)
              clear hK K
              try simp only [Act.put, List.getElem_toArray, List.getElem_cons_succ, List.getElem_cons_zero, List.setIfInBounds_toArray, List.set_cons_zero, List.set_cons_succ]
              refine wpAnyH_take (i := 16) (v := ?_) rfl (by kernel_rfl) (by kernel_rfl) (by kernel_rfl) (fun _ _ _ h => h) (Or.inl ⟨by kernel_rfl, ?_⟩) (by assumption) ?_
              rotate_left 1
              · intro w9 hSw
                try dsimp only at hSw
                go_simp
                try with_reducible rfl
              try simp only [Act.put, List.getElem_toArray, List.getElem_cons_succ, List.getElem_cons_zero, List.setIfInBounds_toArray, List.set_cons_zero, List.set_cons_succ]
              refine wpAnyH_done (by kernel_rfl) ?_ _
              go_wp2_with fail
              go_meet
              exact ⟨_, _, _, _, _, _, _, _, _, rfl, rfl, BX.out⟩
          · go_simp
            have hb := ba Wsb (.cells #[.slice none 0 0, .slice none 0 0, .slice none 0 0] 49)
            have HB_sbo := Lib.hid (bt HB_sb.out hb)
            have R_sbo := Lib.hid (R_sb.out.below hb)
            have V_sbo := Lib.hid (V_sb.out.below hb)
            have A_sbo := Lib.hid (A_sb.out.below hb)
            have RS_sbo := Lib.hid (RS_sb.out.below hb)
            have LS_sbo := Lib.hid (LS_sb.out.below hb)
            have CS_sbo := Lib.hid (CS_sb.out.below hb)
            have WB_sbo := Lib.hid (WB_sb.out.below hb)
            have WL_sbo := Lib.hid (WL_sb.out.below hb)
            have GB_sbo := Lib.hid (GB_sb.out.below hb)
            have GL_sbo := Lib.hid (GL_sb.out.below hb)
            have LO_sbo := Lib.hid (LO_sb.out.below hb)
            have Z_sbo := Lib.hid (show B3 (Wsb.alloc (.cells #[.slice none 0 0, .slice none 0 0, .slice none 0 0] 49)) Wsb.heap.size (.slice none 0 0) (.slice none 0 0) (.slice none 0 0) from b3_new Wsb _ _ _ 49)
            have LB := Lib.hid (show u20.heap.size ≤ Wsb.heap.size from LO_sb.out.size)
            (first | have LD := Lib.hid OT_sb.out.le | skip)
            clear hb
            refine hK.out _ _ (show _ from ⟨⟨R_sbo.out.1, R_sbo.out.2.1, R_sbo.out.2.2⟩, ⟨V_sbo.out.1, V_sbo.out.2⟩⟩) (fun hHeld => ?_)
            clear hK K
            try simp only [Act.put, List.getElem_toArray, List.getElem_cons_succ, List.getElem_cons_zero, List.setIfInBounds_toArray, List.set_cons_zero, List.set_cons_succ]
            generalize hW9 : Wsb.alloc (.cells #[.slice none 0 0, .slice none 0 0, .slice none 0 0] 49) = Wsbo at *
            clear hW9
            refine wpAnyH_ready (rs := [3]) (by kernel_rfl) (by simp) ?_
            refine AllReadyH.cons rfl (fun K hK => ?_) (AllReadyH.nil)
            go_simp
            go_at_call 27
            refine (toBas_any A_sbo.out (by omega)).mono ?_
            rintro e' Wsbod ⟨yw, rfl, ho, hb⟩
            have HB_sbod := Lib.hid (bt HB_sbo.out hb)
            have R_sbod := Lib.hid (R_sbo.out.below hb)
            have V_sbod := Lib.hid (V_sbo.out.below hb)
            have A_sbod := Lib.hid (A_sbo.out.below hb)
            have RS_sbod := Lib.hid (RS_sbo.out.below hb)
            have LS_sbod := Lib.hid (LS_sbo.out.below hb)
            have CS_sbod := Lib.hid (CS_sbo.out.below hb)
            have WB_sbod := Lib.hid (WB_sbo.out.below hb)
            have WL_sbod := Lib.hid (WL_sbo.out.below hb)
            have GB_sbod := Lib.hid (GB_sbo.out.below hb)
            have GL_sbod := Lib.hid (GL_sbo.out.below hb)
            have LO_sbod := Lib.hid (LO_sbo.out.below hb)
            have Z_sbod := Lib.hid (Z_sbo.out.below hb)
            have CB_sbod := Lib.hid (ho.toIn)
            clear ho
            clear hb
            go_wp2_with fail
            refine hK.out _ _ (show _ from ⟨⟨R_sbod.out.1, R_sbod.out.2.1, R_sbod.out.2.2⟩, ⟨V_sbod.out.1, V_sbod.out.2⟩⟩) (fun hHeld => ?_)
            clear hK K
            try simp only [Act.put, List.getElem_toArray, List.getElem_cons_succ, List.getElem_cons_zero, List.setIfInBounds_toArray, List.set_cons_zero, List.set_cons_succ]
            refine wpAnyH_ready (rs := [5]) (by kernel_rfl) (by simp) ?_
            refine AllReadyH.cons rfl (fun K hK => ?_) (AllReadyH.nil)
            go_simp
            go_at_call 28
            refine (toI_any RS_sbod.out (by omega)).mono ?_
            rintro e' Wsbodf ⟨xrs, rfl, ho, hb⟩
            have HB_sbodf := Lib.hid (bt HB_sbod.out hb)
            have R_sbodf := Lib.hid (R_sbod.out.below hb)
            have V_sbodf := Lib.hid (V_sbod.out.below hb)
            have A_sbodf := Lib.hid (A_sbod.out.below hb)
            have RS_sbodf := Lib.hid (RS_sbod.out.below hb)
            have LS_sbodf := Lib.hid (LS_sbod.out.below hb)
            have CS_sbodf := Lib.hid (CS_sbod.out.below hb)
            have WB_sbodf := Lib.hid (WB_sbod.out.below hb)
            have WL_sbodf := Lib.hid (WL_sbod.out.below hb)
            have GB_sbodf := Lib.hid (GB_sbod.out.below hb)
            have GL_sbodf := Lib.hid (GL_sbod.out.below hb)
            have LO_sbodf := Lib.hid (LO_sbod.out.below hb)
            have Z_sbodf := Lib.hid (Z_sbod.out.below hb)
            have CB_sbodf := Lib.hid (CB_sbod.out.below hb)
            have CRS_sbodf := Lib.hid (ho.toIn)
            clear ho
            clear hb
            go_wp2_with fail
            refine hK.out _ _ (show _ from ⟨⟨R_sbodf.out.1, R_sbodf.out.2.1, R_sbodf.out.2.2⟩, ⟨V_sbodf.out.1, V_sbodf.out.2⟩⟩) (fun hHeld => ?_)
            clear hK K
            try simp only [Act.put, List.getElem_toArray, List.getElem_cons_succ, List.getElem_cons_zero, List.setIfInBounds_toArray, List.set_cons_zero, List.set_cons_succ]
            refine wpAnyH_ready (rs := [7]) (by kernel_rfl) (by simp) ?_
            refine AllReadyH.cons rfl (fun K hK => ?_) (AllReadyH.nil)
            go_simp
            go_at_call 28
            refine (toI_any LS_sbodf.out (by omega)).mono ?_
            rintro e' Wsbodfh ⟨xls, rfl, ho, hb⟩
            have HB_sbodfh := Lib.hid (bt HB_sbodf.out hb)
            have R_sbodfh := Lib.hid (R_sbodf.out.below hb)
            have V_sbodfh := Lib.hid (V_sbodf.out.below hb)
            have A_sbodfh := Lib.hid (A_sbodf.out.below hb)
            have RS_sbodfh := Lib.hid (RS_sbodf.out.below hb)
            have LS_sbodfh := Lib.hid (LS_sbodf.out.below hb)
            have CS_sbodfh := Lib.hid (CS_sbodf.out.below hb)
            have WB_sbodfh := Lib.hid (WB_sbodf.out.below hb)
            have WL_sbodfh := Lib.hid (WL_sbodf.out.below hb)
            have GB_sbodfh := Lib.hid (GB_sbodf.out.below hb)
            have GL_sbodfh := Lib.hid (GL_sbodf.out.below hb)
            have LO_sbodfh := Lib.hid (LO_sbodf.out.below hb)
            have Z_sbodfh := Lib.hid (Z_sbodf.out.below hb)
            have CB_sbodfh := Lib.hid (CB_sbodf.out.below hb)
            have CRS_sbodfh := Lib.hid (CRS_sbodf.out.below hb)
            have CLS_sbodfh := Lib.hid (ho.toIn)
            clear ho
            clear hb
            go_wp2_with fail
            refine hK.out _ _ (show _ from ⟨⟨R_sbodfh.out.1, R_sbodfh.out.2.1, R_sbodfh.out.2.2⟩, ⟨V_sbodfh.out.1, V_sbodfh.out.2⟩⟩) (fun hHeld => ?_)
            clear hK K
            try simp only [Act.put, List.getElem_toArray, List.getElem_cons_succ, List.getElem_cons_zero, List.setIfInBounds_toArray, List.set_cons_zero, List.set_cons_succ]
            refine wpAnyH_ready (rs := [9]) (by kernel_rfl) (by simp) ?_
            refine AllReadyH.cons rfl (fun K hK => ?_) (AllReadyH.nil)
            go_simp
            go_at_call 28
            refine (toI_any CS_sbodfh.out (by omega)).mono ?_
            rintro e' Wsbodfhj ⟨xcs, rfl, ho, hb⟩
            have HB_sbodfhj := Lib.hid (bt HB_sbodfh.out hb)
            have R_sbodfhj := Lib.hid (R_sbodfh.out.below hb)
            have V_sbodfhj := Lib.hid (V_sbodfh.out.below hb)
            have A_sbodfhj := Lib.hid (A_sbodfh.out.below hb)
            have RS_sbodfhj := Lib.hid (RS_sbodfh.out.below hb)
            have LS_sbodfhj := Lib.hid (LS_sbodfh.out.below hb)
            have CS_sbodfhj := Lib.hid (CS_sbodfh.out.below hb)
            have WB_sbodfhj := Lib.hid (WB_sbodfh.out.below hb)
            have WL_sbodfhj := Lib.hid (WL_sbodfh.out.below hb)
            have GB_sbodfhj := Lib.hid (GB_sbodfh.out.below hb)
            have GL_sbodfhj := Lib.hid (GL_sbodfh.out.below hb)
            have LO_sbodfhj := Lib.hid (LO_sbodfh.out.below hb)
            have Z_sbodfhj := Lib.hid (Z_sbodfh.out.below hb)
            have CB_sbodfhj := Lib.hid (CB_sbodfh.out.below hb)
            have CRS_sbodfhj := Lib.hid (CRS_sbodfh.out.below hb)
            have CLS_sbodfhj := Lib.hid (CLS_sbodfh.out.below hb)
            have CCS_sbodfhj := Lib.hid (ho.toIn)
            clear ho
            clear hb
            go_wp2_with fail
            refine hK.out _ _ (show _ from ⟨⟨R_sbodfhj.out.1, R_sbodfhj.out.2.1, R_sbodfhj.out.2.2⟩, ⟨V_sbodfhj.out.1, V_sbodfhj.out.2⟩⟩) (fun hHeld => ?_)
            clear hK K
            try simp only [Act.put, List.getElem_toArray, List.getElem_cons_succ, List.getElem_cons_zero, List.setIfInBounds_toArray, List.set_cons_zero, List.set_cons_succ]
            refine wpAnyH_ready (rs := [10]) (by kernel_rfl) (by simp) ?_
            refine AllReadyH.cons rfl (fun K hK => ?_) (AllReadyH.nil)
            go_simp
            (first | have LQ := Lib.hid Z_sbodfhj.out.lt | skip)
            have LQS := Lib.hid LO_sbodfhj.out.size
            go_at_call 29
            refine (proveSum_any P0 Q0 G0 H1 hsl lrs lls lcs CB_sbodfhj.out CRS_sbodfhj.out CLS_sbodfhj.out CCS_sbodfhj.out).mono ?_
            rw [HV.out, HK.out]
            rintro e' Wsbodfhjk ⟨za, zb, zc, rfl, ho, hb⟩
            obtain ⟨za1, za2, zb1, zb2, zc1, zc2, hsh⟩ := inP_shapeQ (OwQ.toIn ho)
            simp only [Value.agg.injEq, Array.mk.injEq, List.cons.injEq, and_true] at hsh
            obtain ⟨rfl, rfl, rfl⟩ := hsh
            have HB_sbodfhjk := Lib.hid (bt HB_sbodfhj.out hb)
            have R_sbodfhjk := Lib.hid (R_sbodfhj.out.below hb)
            have V_sbodfhjk := Lib.hid (V_sbodfhj.out.below hb)
            have A_sbodfhjk := Lib.hid (A_sbodfhj.out.below hb)
            have RS_sbodfhjk := Lib.hid (RS_sbodfhj.out.below hb)
            have LS_sbodfhjk := Lib.hid (LS_sbodfhj.out.below hb)
            have CS_sbodfhjk := Lib.hid (CS_sbodfhj.out.below hb)
            have WB_sbodfhjk := Lib.hid (WB_sbodfhj.out.below hb)
            have WL_sbodfhjk := Lib.hid (WL_sbodfhj.out.below hb)
            have GB_sbodfhjk := Lib.hid (GB_sbodfhj.out.below hb)
            have GL_sbodfhjk := Lib.hid (GL_sbodfhj.out.below hb)
            have LO_sbodfhjk := Lib.hid (LO_sbodfhj.out.below hb)
            have Z_sbodfhjk := Lib.hid (Z_sbodfhj.out.below hb)
            have CB_sbodfhjk := Lib.hid (CB_sbodfhj.out.below hb)
            have CRS_sbodfhjk := Lib.hid (CRS_sbodfhj.out.below hb)
            have CLS_sbodfhjk := Lib.hid (CLS_sbodfhj.out.below hb)
            have CCS_sbodfhjk := Lib.hid (CCS_sbodfhj.out.below hb)
            have OT_sbodfhjk := Lib.hid (ho)
            clear ho
            clear hb
            go_wp2_with fail
            refine hK.out _ _ (show _ from ⟨⟨R_sbodfhjk.out.1, R_sbodfhjk.out.2.1, R_sbodfhjk.out.2.2⟩, ⟨V_sbodfhjk.out.1, V_sbodfhjk.out.2⟩⟩) (fun hHeld => ?_)
            clear hK K
            try simp only [Act.put, List.getElem_toArray, List.getElem_cons_succ, List.getElem_cons_zero, List.setIfInBounds_toArray, List.set_cons_zero, List.set_cons_succ]
            refine wpAnyH_take (i := 11) (v := ?_) rfl (by kernel_rfl) (by kernel_rfl) (by kernel_rfl) (fun _ _ _ h => h) (Or.inl ⟨by kernel_rfl, ?_⟩) (by assumption) ?_
            rotate_left 1
            · intro w9 hSw
              try dsimp only at hSw
              go_simp
              try with_reducible rfl
            try simp only [Act.put, List.getElem_toArray, List.getElem_cons_succ, List.getElem_cons_zero, List.setIfInBounds_toArray, List.set_cons_zero, List.set_cons_succ]
            refine wpAnyH_take (i := 12) (v := ?_) rfl (by kernel_rfl) (by kernel_rfl) (by kernel_rfl) (fun _ _ _ h => h) (Or.inl ⟨by kernel_rfl, ?_⟩) (by assumption) ?_
            rotate_left 1
            · intro w9 hSw
              try dsimp only at hSw
              go_simp
              try with_reducible rfl
            try simp only [Act.put, List.getElem_toArray, List.getElem_cons_succ, List.getElem_cons_zero, List.setIfInBounds_toArray, List.set_cons_zero, List.set_cons_succ]
            refine wpAnyH_take (i := 13) (v := ?_) rfl (by kernel_rfl) (by kernel_rfl) (by kernel_rfl) (fun _ _ _ h => h) (Or.inl ⟨by kernel_rfl, ?_⟩) (by assumption) ?_
            rotate_left 1
            · intro w9 hSw
              try dsimp only at hSw
              go_simp
              try with_reducible rfl
            try simp only [Act.put, List.getElem_toArray, List.getElem_cons_succ, List.getElem_cons_zero, List.setIfInBounds_toArray, List.set_cons_zero, List.set_cons_succ]
            have hm5 := mid3 Wsbodfhjk (Wsb.heap.size) (.slice za1 res.c.length za2) (.slice zb1 res.h.length zb2) (.slice zc1 res.r.length zc2)
            have R_y := Lib.hid (gr_midw R_sbodfhjk.out hm5 (.inl (Nat.lt_of_lt_of_le LR9.out LB.out)))
            have V_y := Lib.hid (d2_midw V_sbodfhjk.out hm5 (.inl (Nat.lt_of_lt_of_le LV9.out LB.out)))
            have BX : BoxQ u20 (((Wsbodfhjk.setCell ⟨Wsb.heap.size, 0, none⟩ (.slice za1 res.c.length za2)).setCell ⟨Wsb.heap.size, 1, none⟩ (.slice zb1 res.h.length zb2)).setCell ⟨Wsb.heap.size, 2, none⟩ (.slice zc1 res.r.length zc2)) (Wsb.heap.size) _ _ (.slice za1 res.c.length za2) (.slice zb1 res.h.length zb2) (.slice zc1 res.r.length zc2) res := (by first | exact boxQ_mk LO_sbodfhjk.out LQS.out LB.out Z_sbodfhjk.out OT_sbodfhjk.out (.inl LQ.out) | exact boxQ_mk LO_sbodfhjk.out LQS.out LB.out Z_sbodfhjk.out OT_sbodfhjk.out (.inr LD.out))
            have BX := Lib.hid BX
            clear hm5
            refine wpAnyH_ready (rs := [15]) (by kernel_rfl) (by simp) ?_
            refine AllReadyH.cons rfl (fun K hK => ?_) AllReadyH.nil
            obtain ⟨y0, y1, y2, yf⟩ := Z_sbodfhjk.out
            have yf0 := yf 0
            have yf1 := yf 1
            have yf2 := yf 2
            clear yf
            go_simp
            refine hK.out _ _ (show _ from ⟨⟨R_y.out.1, R_y.out.2.1, R_y.out.2.2⟩, ⟨V_y.out.1, V_y.out.2⟩⟩) (fun hHeld => ?_)
            clear hK K
            try simp only [Act.put, List.getElem_toArray, List.getElem_cons_succ, List.getElem_cons_zero, List.setIfInBounds_toArray, List.set_cons_zero, List.set_cons_succ]
            refine wpAnyH_take (i := 16) (v := ?_) rfl (by kernel_rfl) (by kernel_rfl) (by kernel_rfl) (fun _ _ _ h => h) (Or.inl ⟨by kernel_rfl, ?_⟩) (by assumption) ?_
            rotate_left 1
            · intro w9 hSw
              try dsimp only at hSw
              go_simp
              try with_reducible rfl
            try simp only [Act.put, List.getElem_toArray, List.getElem_cons_succ, List.getElem_cons_zero, List.setIfInBounds_toArray, List.set_cons_zero, List.set_cons_succ]
            refine wpAnyH_done (by kernel_rfl) ?_ _
            go_wp2_with fail
            go_meet
            exact ⟨_, _, _, _, _, _, _, _, _, rfl, rfl, BX.out⟩
        · go_simp
          have hb := ba Ws (.cells #[.slice none 0 0, .slice none 0 0, .slice none 0 0] 49)
          have HB_so := Lib.hid (bt HB_s.out hb)
          have R_so := Lib.hid (R_s.out.below hb)
          have V_so := Lib.hid (V_s.out.below hb)
          have A_so := Lib.hid (A_s.out.below hb)
          have RS_so := Lib.hid (RS_s.out.below hb)
          have LS_so := Lib.hid (LS_s.out.below hb)
          have CS_so := Lib.hid (CS_s.out.below hb)
          have WB_so := Lib.hid (WB_s.out.below hb)
          have WL_so := Lib.hid (WL_s.out.below hb)
          have GB_so := Lib.hid (GB_s.out.below hb)
          have GL_so := Lib.hid (GL_s.out.below hb)
          have LO_so := Lib.hid (LO_s.out.below hb)
          have Z_so := Lib.hid (show B3 (Ws.alloc (.cells #[.slice none 0 0, .slice none 0 0, .slice none 0 0] 49)) Ws.heap.size (.slice none 0 0) (.slice none 0 0) (.slice none 0 0) from b3_new Ws _ _ _ 49)
          have LB := Lib.hid (show u20.heap.size ≤ Ws.heap.size from LO_s.out.size)
          (first | have LD := Lib.hid OT_s.out.le | skip)
          clear hb
          refine hK.out _ _ (show _ from ⟨⟨R_so.out.1, R_so.out.2.1, R_so.out.2.2⟩, ⟨V_so.out.1, V_so.out.2⟩⟩) (fun hHeld => ?_)
          clear hK K
          try simp only [Act.put, List.getElem_toArray, List.getElem_cons_succ, List.getElem_cons_zero, List.setIfInBounds_toArray, List.set_cons_zero, List.set_cons_succ]
          generalize hW9 : Ws.alloc (.cells #[.slice none 0 0, .slice none 0 0, .slice none 0 0] 49) = Wso at *
          clear hW9
          refine wpAnyH_ready (rs := [1]) (by kernel_rfl) (by simp) ?_
          refine AllReadyH.cons rfl (fun K hK => ?_) (AllReadyH.nil)
          go_simp
          go_at_call 26
          refine (toGroup_any _ _ _ _).mono ?_
          rintro e' Wsob ⟨rfl, hb⟩
          have HB_sob := Lib.hid (bt HB_so.out hb)
          have R_sob := Lib.hid (R_so.out.below hb)
          have V_sob := Lib.hid (V_so.out.below hb)
          have A_sob := Lib.hid (A_so.out.below hb)
          have RS_sob := Lib.hid (RS_so.out.below hb)
          have LS_sob := Lib.hid (LS_so.out.below hb)
          have CS_sob := Lib.hid (CS_so.out.below hb)
          have WB_sob := Lib.hid (WB_so.out.below hb)
          have WL_sob := Lib.hid (WL_so.out.below hb)
          have GB_sob := Lib.hid (GB_so.out.below hb)
          have GL_sob := Lib.hid (GL_so.out.below hb)
          have LO_sob := Lib.hid (LO_so.out.below hb)
          have Z_sob := Lib.hid (Z_so.out.below hb)
          clear hb
          go_wp2_with fail
          refine hK.out _ _ (show _ from ⟨⟨R_sob.out.1, R_sob.out.2.1, R_sob.out.2.2⟩, ⟨V_sob.out.1, V_sob.out.2⟩⟩) (fun hHeld => ?_)
          clear hK K
          try simp only [Act.put, List.getElem_toArray, List.getElem_cons_succ, List.getElem_cons_zero, List.setIfInBounds_toArray, List.set_cons_zero, List.set_cons_succ]
          refine wpAnyH_ready (rs := [3]) (by kernel_rfl) (by simp) ?_
          refine AllReadyH.cons rfl (fun K hK => ?_) (AllReadyH.nil)
          go_simp
          go_at_call 27
          refine (toBas_any A_sob.out (by omega)).mono ?_
          rintro e' Wsobd ⟨yw, rfl, ho, hb⟩
          have HB_sobd := Lib.hid (bt HB_sob.out hb)
          have R_sobd := Lib.hid (R_sob.out.below hb)
          have V_sobd := Lib.hid (V_sob.out.below hb)
          have A_sobd := Lib.hid (A_sob.out.below hb)
          have RS_sobd := Lib.hid (RS_sob.out.below hb)
          have LS_sobd := Lib.hid (LS_sob.out.below hb)
          have CS_sobd := Lib.hid (CS_sob.out.below hb)
          have WB_sobd := Lib.hid (WB_sob.out.below hb)
          have WL_sobd := Lib.hid (WL_sob.out.below hb)
          have GB_sobd := Lib.hid (GB_sob.out.below hb)
          have GL_sobd := Lib.hid (GL_sob.out.below hb)
          have LO_sobd := Lib.hid (LO_sob.out.below hb)
          have Z_sobd := Lib.hid (Z_sob.out.below hb)
          have CB_sobd := Lib.hid (ho.toIn)
          clear ho
          clear hb
          go_wp2_with fail
          refine hK.out _ _ (show _ from ⟨⟨R_sobd.out.1, R_sobd.out.2.1, R_sobd.out.2.2⟩, ⟨V_sobd.out.1, V_sobd.out.2⟩⟩) (fun hHeld => ?_)
          clear hK K
          try simp only [Act.put, List.getElem_toArray, List.getElem_cons_succ, List.getElem_cons_zero, List.setIfInBounds_toArray, List.set_cons_zero, List.set_cons_succ]
          refine wpAnyH_ready (rs := [5]) (by kernel_rfl) (by simp) ?_
          refine AllReadyH.cons rfl (fun K hK => ?_) (AllReadyH.nil)
          go_simp
          go_at_call 28
          refine (toI_any RS_sobd.out (by omega)).mono ?_
          rintro e' Wsobdf ⟨xrs, rfl, ho, hb⟩
          have HB_sobdf := Lib.hid (bt HB_sobd.out hb)
          have R_sobdf := Lib.hid (R_sobd.out.below hb)
          have V_sobdf := Lib.hid (V_sobd.out.below hb)
          have A_sobdf := Lib.hid (A_sobd.out.below hb)
          have RS_sobdf := Lib.hid (RS_sobd.out.below hb)
          have LS_sobdf := Lib.hid (LS_sobd.out.below hb)
          have CS_sobdf := Lib.hid (CS_sobd.out.below hb)
          have WB_sobdf := Lib.hid (WB_sobd.out.below hb)
          have WL_sobdf := Lib.hid (WL_sobd.out.below hb)
          have GB_sobdf := Lib.hid (GB_sobd.out.below hb)
          have GL_sobdf := Lib.hid (GL_sobd.out.below hb)
          have LO_sobdf := Lib.hid (LO_sobd.out.below hb)
          have Z_sobdf := Lib.hid (Z_sobd.out.below hb)
          have CB_sobdf := Lib.hid (CB_sobd.out.below hb)
          have CRS_sobdf := Lib.hid (ho.toIn)
          clear ho
          clear hb
          go_wp2_with fail
          refine hK.out _ _ (show _ from ⟨⟨R_sobdf.out.1, R_sobdf.out.2.1, R_sobdf.out.2.2⟩, ⟨V_sobdf.out.1, V_sobdf.out.2⟩⟩) (fun hHeld => ?_)
          clear hK K
          try simp only [Act.put, List.getElem_toArray, List.getElem_cons_succ, List.getElem_cons_zero, List.setIfInBounds_toArray, List.set_cons_zero, List.set_cons_succ]
          refine wpAnyH_ready (rs := [7]) (by kernel_rfl) (by simp) ?_
          refine AllReadyH.cons rfl (fun K hK => ?_) (AllReadyH.nil)
          go_simp
          go_at_call 28
          refine (toI_any LS_sobdf.out (by omega)).mono ?_
          rintro e' Wsobdfh ⟨xls, rfl, ho, hb⟩
          have HB_sobdfh := Lib.hid (bt HB_sobdf.out hb)
          have R_sobdfh := Lib.hid (R_sobdf.out.below hb)
          have V_sobdfh := Lib.hid (V_sobdf.out.below hb)
          have A_sobdfh := Lib.hid (A_sobdf.out.below hb)
          have RS_sobdfh := Lib.hid (RS_sobdf.out.below hb)
          have LS_sobdfh := Lib.hid (LS_sobdf.out.below hb)
          have CS_sobdfh := Lib.hid (CS_sobdf.out.below hb)
          have WB_sobdfh := Lib.hid (WB_sobdf.out.below hb)
          have WL_sobdfh := Lib.hid (WL_sobdf.out.below hb)
          have GB_sobdfh := Lib.hid (GB_sobdf.out.below hb)
          have GL_sobdfh := Lib.hid (GL_sobdf.out.below hb)
          have LO_sobdfh := Lib.hid (LO_sobdf.out.below hb)
          have Z_sobdfh := Lib.hid (Z_sobdf.out.below hb)
          have CB_sobdfh := Lib.hid (CB_sobdf.out.below hb)
          have CRS_sobdfh := Lib.hid (CRS_sobdf.out.below hb)
          have CLS_sobdfh := Lib.hid (ho.toIn)
          clear ho
          clear hb
          go_wp2_with fail
          refine hK.out _ _ (show _ from ⟨⟨R_sobdfh.out.1, R_sobdfh.out.2.1, R_sobdfh.out.2.2⟩, ⟨V_sobdfh.out.1, V_sobdfh.out.2⟩⟩) (fun hHeld => ?_)
          clear hK K
          try simp only [Act.put, List.getElem_toArray, List.getElem_cons_succ, List.getElem_cons_zero, List.setIfInBounds_toArray, List.set_cons_zero, List.set_cons_succ]
          refine wpAnyH_ready (rs := [9]) (by kernel_rfl) (by simp) ?_
          refine AllReadyH.cons rfl (fun K hK => ?_) (AllReadyH.nil)
          go_simp
          go_at_call 28
          refine (toI_any CS_sobdfh.out (by omega)).mono ?_
          rintro e' Wsobdfhj ⟨xcs, rfl, ho, hb⟩
          have HB_sobdfhj := Lib.hid (bt HB_sobdfh.out hb)
          have R_sobdfhj := Lib.hid (R_sobdfh.out.below hb)
          have V_sobdfhj := Lib.hid (V_sobdfh.out.below hb)
          have A_sobdfhj := Lib.hid (A_sobdfh.out.below hb)
          have RS_sobdfhj := Lib.hid (RS_sobdfh.out.below hb)
          have LS_sobdfhj := Lib.hid (LS_sobdfh.out.below hb)
          have CS_sobdfhj := Lib.hid (CS_sobdfh.out.below hb)
          have WB_sobdfhj := Lib.hid (WB_sobdfh.out.below hb)
          have WL_sobdfhj := Lib.hid (WL_sobdfh.out.below hb)
          have GB_sobdfhj := Lib.hid (GB_sobdfh.out.below hb)
          have GL_sobdfhj := Lib.hid (GL_sobdfh.out.below hb)
          have LO_sobdfhj := Lib.hid (LO_sobdfh.out.below hb)
          have Z_sobdfhj := Lib.hid (Z_sobdfh.out.below hb)
          have CB_sobdfhj := Lib.hid (CB_sobdfh.out.below hb)
          have CRS_sobdfhj := Lib.hid (CRS_sobdfh.out.below hb)
          have CLS_sobdfhj := Lib.hid (CLS_sobdfh.out.below hb)
          have CCS_sobdfhj := Lib.hid (ho.toIn)
          clear ho
          clear hb
          go_wp2_with fail
          refine hK.out _ _ (show _ from ⟨⟨R_sobdfhj.out.1, R_sobdfhj.out.2.1, R_sobdfhj.out.2.2⟩, ⟨V_sobdfhj.out.1, V_sobdfhj.out.2⟩⟩) (fun hHeld => ?_)
          clear hK K
          try simp only [Act.put, List.getElem_toArray, List.getElem_cons_succ, List.getElem_cons_zero, List.setIfInBounds_toArray, List.set_cons_zero, List.set_cons_succ]
          refine wpAnyH_ready (rs := [10]) (by kernel_rfl) (by simp) ?_
          refine AllReadyH.cons rfl (fun K hK => ?_) (AllReadyH.nil)
          go_simp
          (first | have LQ := Lib.hid Z_sobdfhj.out.lt | skip)
          have LQS := Lib.hid LO_sobdfhj.out.size
          go_at_call 29
          refine (proveSum_any P0 Q0 G0 H1 hsl lrs lls lcs CB_sobdfhj.out CRS_sobdfhj.out CLS_sobdfhj.out CCS_sobdfhj.out).mono ?_
          rw [HV.out, HK.out]
          rintro e' Wsobdfhjk ⟨za, zb, zc, rfl, ho, hb⟩
          obtain ⟨za1, za2, zb1, zb2, zc1, zc2, hsh⟩ := inP_shapeQ (OwQ.toIn ho)
          simp only [Value.agg.injEq, Array.mk.injEq, List.cons.injEq, and_true] at hsh
          obtain ⟨rfl, rfl, rfl⟩ := hsh
          have HB_sobdfhjk := Lib.hid (bt HB_sobdfhj.out hb)
          have R_sobdfhjk := Lib.hid (R_sobdfhj.out.below hb)
          have V_sobdfhjk := Lib.hid (V_sobdfhj.out.below hb)
          have A_sobdfhjk := Lib.hid (A_sobdfhj.out.below hb)
          have RS_sobdfhjk := Lib.hid (RS_sobdfhj.out.below hb)
          have LS_sobdfhjk := Lib.hid (LS_sobdfhj.out.below hb)
          have CS_sobdfhjk := Lib.hid (CS_sobdfhj.out.below hb)
          have WB_sobdfhjk := Lib.hid (WB_sobdfhj.out.below hb)
          have WL_sobdfhjk := Lib.hid (WL_sobdfhj.out.below hb)
          have GB_sobdfhjk := Lib.hid (GB_sobdfhj.out.below hb)
          have GL_sobdfhjk := Lib.hid (GL_sobdfhj.out.below hb)
          have LO_sobdfhjk := Lib.hid (LO_sobdfhj.out.below hb)
          have Z_sobdfhjk := Lib.hid (Z_sobdfhj.out.below hb)
          have CB_sobdfhjk := Lib.hid (CB_sobdfhj.out.below hb)
          have CRS_sobdfhjk := Lib.hid (CRS_sobdfhj.out.below hb)
          have CLS_sobdfhjk := Lib.hid (CLS_sobdfhj.out.below hb)
          have CCS_sobdfhjk := Lib.hid (CCS_sobdfhj.out.below hb)
          have OT_sobdfhjk := Lib.hid (ho)
          clear ho
          clear hb
          go_wp2_with fail
          refine hK.out _ _ (show _ from ⟨⟨R_sobdfhjk.out.1, R_sobdfhjk.out.2.1, R_sobdfhjk.out.2.2⟩, ⟨V_sobdfhjk.out.1, V_sobdfhjk.out.2⟩⟩) (fun hHeld => ?_)
          clear hK K
          try simp only [Act.put, List.getElem_toArray, List.getElem_cons_succ, List.getElem_cons_zero, List.setIfInBounds_toArray, List.set_cons_zero, List.set_cons_succ]
          refine wpAnyH_take (i := 11) (v := ?_) rfl (by kernel_rfl) (by kernel_rfl) (by kernel_rfl) (fun _ _ _ h => h) (Or.inl ⟨by kernel_rfl, ?_⟩) (by assumption) ?_
          rotate_left 1
          · intro w9 hSw
            try dsimp only at hSw
            go_simp
            try with_reducible rfl
          try simp only [Act.put, List.getElem_toArray, List.getElem_cons_succ, List.getElem_cons_zero, List.setIfInBounds_toArray, List.set_cons_zero, List.set_cons_succ]
          refine wpAnyH_take (i := 12) (v := ?_) rfl (by kernel_rfl) (by kernel_rfl) (by kernel_rfl) (fun _ _ _ h => h) (Or.inl ⟨by kernel_rfl, ?_⟩) (by assumption) ?_
          rotate_left 1
          · intro w9 hSw
            try dsimp only at hSw
            go_simp
            try with_reducible rfl
          try simp only [Act.put, List.getElem_toArray, List.getElem_cons_succ, List.getElem_cons_zero, List.setIfInBounds_toArray, List.set_cons_zero, List.set_cons_succ]
          refine wpAnyH_take (i := 13) (v := ?_) rfl (by kernel_rfl) (by kernel_rfl) (by kernel_rfl) (fun _ _ _ h => h) (Or.inl ⟨by kernel_rfl, ?_⟩) (by assumption) ?_
          rotate_left 1
          · intro w9 hSw
            try dsimp only at hSw
            go_simp
            try with_reducible rfl
          try simp only [Act.put, List.getElem_toArray, List.getElem_cons_succ, List.getElem_cons_zero, List.setIfInBounds_toArray, List.set_cons_zero, List.set_cons_succ]
          have hm5 := mid3 Wsobdfhjk (Ws.heap.size) (.slice za1 res.c.length za2) (.slice zb1 res.h.length zb2) (.slice zc1 res.r.length zc2)
          have R_y := Lib.hid (gr_midw R_sobdfhjk.out hm5 (.inl (Nat.lt_of_lt_of_le LR9.out LB.out)))
          have V_y := Lib.hid (d2_midw V_sobdfhjk.out hm5 (.inl (Nat.lt_of_lt_of_le LV9.out LB.out)))
          have BX : BoxQ u20 (((Wsobdfhjk.setCell ⟨Ws.heap.size, 0, none⟩ (.slice za1 res.c.length za2)).setCell ⟨Ws.heap.size, 1, none⟩ (.slice zb1 res.h.length zb2)).setCell ⟨Ws.heap.size, 2, none⟩ (.slice zc1 res.r.length zc2)) (Ws.heap.size) _ _ (.slice za1 res.c.length za2) (.slice zb1 res.h.length zb2) (.slice zc1 res.r.length zc2) res := (by first | exact boxQ_mk LO_sobdfhjk.out LQS.out LB.out Z_sobdfhjk.out OT_sobdfhjk.out (.inl LQ.out) | exact boxQ_mk LO_sobdfhjk.out LQS.out LB.out Z_sobdfhjk.out OT_sobdfhjk.out (.inr LD.out))
          have BX := Lib.hid BX
          clear hm5
          refine wpAnyH_ready (rs := [15]) (by kernel_rfl) (by simp) ?_
          refine AllReadyH.cons rfl (fun K hK => ?_) AllReadyH.nil
          obtain ⟨y0, y1, y2, yf⟩ := Z_sobdfhjk.out
          have yf0 := yf 0
          have yf1 := yf 1
          have yf2 := yf 2
          clear yf
          go_simp
          refine hK.out _ _ (show _ from ⟨⟨R_y.out.1, R_y.out.2.1, R_y.out.2.2⟩, ⟨V_y.out.1, V_y.out.2⟩⟩) (fun hHeld => ?_)
          clear hK K
          try simp only [Act.put, List.getElem_toArray, List.getElem_cons_succ, List.getElem_cons_zero, List.setIfInBounds_toArray, List.set_cons_zero, List.set_cons_succ]
          refine wpAnyH_take (i := 16) (v := ?_) rfl (by kernel_rfl) (by kernel_rfl) (by kernel_rfl) (fun _ _ _ h => h) (Or.inl ⟨by kernel_rfl, ?_⟩) (by assumption) ?_
          rotate_left 1
          · intro w9 hSw
            try dsimp only at hSw
            go_simp
            try with_reducible rfl
          try simp only [Act.put, List.getElem_toArray, List.getElem_cons_succ, List.getElem_cons_zero, List.setIfInBounds_toArray, List.set_cons_zero, List.set_cons_succ]
          refine wpAnyH_done (by kernel_rfl) ?_ _
          go_wp2_with fail
          go_meet
          exact ⟨_, _, _, _, _, _, _, _, _, rfl, rfl, BX.out⟩
      case rest =>
        obtain ⟨b3, q3, P3, h1_, h2_, h3_, h4_, h5_, h6_, rfl, rfl, hbx⟩ := hcut
        obtain ⟨hY, hO, _, _, hb, _⟩ := hbx
        have HB_23 := Lib.hid (bt HB_22.out hb)
        have R_23 := Lib.hid (R_22.out.below hb)
        have V_23 := Lib.hid (V_22.out.below hb)
        have A_23 := Lib.hid (A_22.out.below hb)
        have RS_23 := Lib.hid (RS_22.out.below hb)
        have LS_23 := Lib.hid (LS_22.out.below hb)
        have CS_23 := Lib.hid (CS_22.out.below hb)
        have WB_23 := Lib.hid (WB_22.out.below hb)
        have WL_23 := Lib.hid (WL_22.out.below hb)
        have GB_23 := Lib.hid (GB_22.out.below hb)
        have GL_23 := Lib.hid (GL_22.out.below hb)
        have HX_23 := Lib.hid (hY)
        have HL_23 := Lib.hid (hO.toIn)
        clear hb HB_22 R_22 V_22 A_22 RS_22 LS_22 CS_22 WB_22 WL_22 GB_22 GL_22
        clear hY hO
        obtain ⟨hx0, hx1, hx2, _⟩ := HX_23.out
        obtain ⟨wb0, wb1, wb2, _⟩ := WB_23.out
        go_wp2_with fail
        refine (eqP_any HL_23.out WL_23.out (by omega)).mono ?_
        rintro e u21 ⟨rfl, hb⟩
        have HB_24 := Lib.hid (bt HB_23.out hb)
        have R_24 := Lib.hid (R_23.out.below hb)
        have V_24 := Lib.hid (V_23.out.below hb)
        have A_24 := Lib.hid (A_23.out.below hb)
        have RS_24 := Lib.hid (RS_23.out.below hb)
        have LS_24 := Lib.hid (LS_23.out.below hb)
        have CS_24 := Lib.hid (CS_23.out.below hb)
        have WB_24 := Lib.hid (WB_23.out.below hb)
        have WL_24 := Lib.hid (WL_23.out.below hb)
        have GB_24 := Lib.hid (GB_23.out.below hb)
        have GL_24 := Lib.hid (GL_23.out.below hb)
        have HX_24 := Lib.hid (HX_23.out.below hb)
        have HL_24 := Lib.hid (HL_23.out.below hb)
        clear hb HB_23 R_23 V_23 A_23 RS_23 LS_23 CS_23 WB_23 WL_23 GB_23 GL_23 HX_23 HL_23
        clear hx0 hx1 hx2
        clear wb0 wb1 wb2
        obtain ⟨gb0, gb1, gb2, _⟩ := GB_24.out
        go_wp2_with fail
        refine (heldP_any GL_24.out (by omega) (by omega) (by omega)).mono ?_
        rintro e u22 ⟨rfl, hb⟩
        have HB_25 := Lib.hid (bt HB_24.out hb)
        have R_25 := Lib.hid (R_24.out.below hb)
        have V_25 := Lib.hid (V_24.out.below hb)
        have A_25 := Lib.hid (A_24.out.below hb)
        have RS_25 := Lib.hid (RS_24.out.below hb)
        have LS_25 := Lib.hid (LS_24.out.below hb)
        have CS_25 := Lib.hid (CS_24.out.below hb)
        have WB_25 := Lib.hid (WB_24.out.below hb)
        have WL_25 := Lib.hid (WL_24.out.below hb)
        have GB_25 := Lib.hid (GB_24.out.below hb)
        have GL_25 := Lib.hid (GL_24.out.below hb)
        have HX_25 := Lib.hid (HX_24.out.below hb)
        have HL_25 := Lib.hid (HL_24.out.below hb)
        clear hb HB_24 R_24 V_24 A_24 RS_24 LS_24 CS_24 WB_24 WL_24 GB_24 GL_24 HX_24 HL_24
        clear gb0 gb1 gb2
        go_wp2
        go_ret
        exact ⟨rfl, HB_25.out⟩

/-! ### The row's step -/
set_option maxRecDepth 100000 in
theorem lifted (os : Os) (started : os.Started) (H : Type) (enc : TypeId × Value → H) :
    ReturnsInHanded {} Try.checked os 4 .any (Rows.fnExactProveSumSpec.pre6 enc Try.prog Try.f4 Rows.fnExactProveSumRow.domain false) (Rows.fnExactProveSumSpec.post enc Try.prog Try.f4 false true false false) := by
  refine returnsInHanded_of_change (C := Try.checked) own started (by kernel_rfl) Try.func4
    (ChangeSpec.witness6 (enc := enc) (C := Try.checked) false ⟨#[], #[.agg #[.int .i64 0, .int .i64 0, .int .i64 0], .agg #[.int .i64 0, .slice none 0 0], .slice none 0 0, .slice none 0 0, .slice none 0 0], []⟩ 8 (by kernel_rfl) (by kernel_rfl) (by kernel_rfl) (by kernel_rfl)) ?_
  intro W base args ds gs before hval0 hW hcnd _
  have hval : ∀ (j : Nat) t v, Try.f4.params[j]? = some t → args[j]? = some v → Value.okWide Try.prog W .any base t v := hval0
  have hW' := hW
  obtain ⟨p, q, hA0, hV, rfl, hfz, hnd⟩ := hW
  have hA : DataW.TrodAll enc Try.prog W 0 (fun _ => true) true Try.f4.params.toList args.toList ds p := hA0
  rw [Try.params4] at hA hval
  obtain ⟨v0, vs0, d0, ds0, p0, q0, hargs, rfl, rfl, h0, r0⟩ := trodAll_cons hA
  obtain ⟨v1, vs1, d1, ds1, p1, q1, rfl, rfl, rfl, h1, r1⟩ := trodAll_cons r0
  obtain ⟨v2, vs2, d2, ds2, p2, q2, rfl, rfl, rfl, h2, r2⟩ := trodAll_cons r1
  obtain ⟨v3, vs3, d3, ds3, p3, q3, rfl, rfl, rfl, h3, r3⟩ := trodAll_cons r2
  obtain ⟨v4, vs4, d4, ds4, p4, q4, rfl, rfl, rfl, h4, r4⟩ := trodAll_cons r3
  obtain ⟨rfl, rfl, rfl⟩ := trodAll_nil r4
  obtain rfl : args = #[v0, v1, v2, v3, v4] := by cases args; simp_all
  obtain ⟨rfl, rfl⟩ := trodVars_none hV
  have k0 := h0
  have lt0 : ∀ x ∈ p0, x.block < W.heap.size := by obtain ⟨m, hm⟩ := k0; exact DataW.trod_lt m _ _ _ hm
  obtain ⟨c0_0, c0_1, c0_2, y0_0, y0_1, y0_2, m0, rfl, rfl, rfl, hy0_0, hy0_1, hy0_2⟩ := open_agg3 Try.underlying44 (by kernel_rfl) (by kernel_rfl) (hval 0 44 v0 rfl rfl) h0
  obtain ⟨P0, e0_0, _, wP0⟩ := DataW.trod_int Try.underlying3 hy0_0
  obtain rfl := (List.cons.inj e0_0).1
  obtain ⟨Q0, e0_1, _, wQ0⟩ := DataW.trod_int Try.underlying3 hy0_1
  obtain rfl := (List.cons.inj e0_1).1
  obtain ⟨G0, e0_2, _, wG0⟩ := DataW.trod_int Try.underlying3 hy0_2
  obtain rfl := (List.cons.inj e0_2).1
  have k1 := h1
  have lt1 : ∀ x ∈ p1, x.block < W.heap.size := by obtain ⟨m, hm⟩ := k1; exact DataW.trod_lt m _ _ _ hm
  obtain ⟨H1, y1, hs1, rfl, bl1, bm1⟩ := inBas_open (hval 1 46 v1 rfl rfl) h1
  have k2 := h2
  have lt2 : ∀ x ∈ p2, x.block < W.heap.size := by obtain ⟨m, hm⟩ := k2; exact DataW.trod_lt m _ _ _ hm
  obtain ⟨a2, len2, cap2, rfl⟩ := okWide_slice Try.underlying25 (hval 2 25 v2 rfl rfl)
  obtain ⟨z2, w2⟩ : ∃ zs, IsRow .i64 W a2 len2 cap2 zs := by
    obtain ⟨fuel, hf⟩ := h2
    rcases open_ints Try.underlying25 Try.underlying3 (by kernel_rfl) hf with ⟨hcs, _⟩ | ⟨x, l, c, zs, hcs, _, hl, hm, hz, _, hcell, hwz⟩
    · simp [Value.cells] at hcs
      obtain ⟨rfl, rfl, rfl⟩ := hcs
      exact ⟨[], .inl ⟨rfl, rfl, rfl, rfl⟩⟩
    · simp [Value.cells] at hcs
      obtain ⟨rfl, rfl, rfl⟩ := hcs
      exact ⟨zs, .inr ⟨_, rfl, hl, hm, by simpa using hz, hcell, hwz⟩⟩
  have k3 := h3
  have lt3 : ∀ x ∈ p3, x.block < W.heap.size := by obtain ⟨m, hm⟩ := k3; exact DataW.trod_lt m _ _ _ hm
  obtain ⟨a3, len3, cap3, rfl⟩ := okWide_slice Try.underlying25 (hval 3 25 v3 rfl rfl)
  obtain ⟨z3, w3⟩ : ∃ zs, IsRow .i64 W a3 len3 cap3 zs := by
    obtain ⟨fuel, hf⟩ := h3
    rcases open_ints Try.underlying25 Try.underlying3 (by kernel_rfl) hf with ⟨hcs, _⟩ | ⟨x, l, c, zs, hcs, _, hl, hm, hz, _, hcell, hwz⟩
    · simp [Value.cells] at hcs
      obtain ⟨rfl, rfl, rfl⟩ := hcs
      exact ⟨[], .inl ⟨rfl, rfl, rfl, rfl⟩⟩
    · simp [Value.cells] at hcs
      obtain ⟨rfl, rfl, rfl⟩ := hcs
      exact ⟨zs, .inr ⟨_, rfl, hl, hm, by simpa using hz, hcell, hwz⟩⟩
  have k4 := h4
  have lt4 : ∀ x ∈ p4, x.block < W.heap.size := by obtain ⟨m, hm⟩ := k4; exact DataW.trod_lt m _ _ _ hm
  obtain ⟨a4, len4, cap4, rfl⟩ := okWide_slice Try.underlying25 (hval 4 25 v4 rfl rfl)
  obtain ⟨z4, w4⟩ : ∃ zs, IsRow .i64 W a4 len4 cap4 zs := by
    obtain ⟨fuel, hf⟩ := h4
    rcases open_ints Try.underlying25 Try.underlying3 (by kernel_rfl) hf with ⟨hcs, _⟩ | ⟨x, l, c, zs, hcs, _, hl, hm, hz, _, hcell, hwz⟩
    · simp [Value.cells] at hcs
      obtain ⟨rfl, rfl, rfl⟩ := hcs
      exact ⟨[], .inl ⟨rfl, rfl, rfl, rfl⟩⟩
    · simp [Value.cells] at hcs
      obtain ⟨rfl, rfl, rfl⟩ := hcs
      exact ⟨zs, .inr ⟨_, rfl, hl, hm, by simpa using hz, hcell, hwz⟩⟩
  clear hA0 hval0
  refine (walk P0 Q0 G0 H1 y1 a2 len2 cap2 z2 a3 len3 cap3 z3 a4 len4 cap4 z4 W wP0 wQ0 wG0 ⟨hs1, bl1, bm1⟩ w2 w3 w4).mono fun e W' ⟨he, bel⟩ => ?_
  subst he
  exact ⟨_, rfl, _, _, _, [], _, [], hW', trodAll_mk1 (shut_bool Try.underlying4 _), (trodAll_cons_mk (Below.trod laidOut (by kernel_rfl) (of_decide_eq_true (by kernel_rfl)) k0 bel lt0) (trodAll_cons_mk (Below.trod laidOut (by kernel_rfl) (of_decide_eq_true (by kernel_rfl)) k1 bel lt1) (trodAll_cons_mk (Below.trod laidOut (by kernel_rfl) (of_decide_eq_true (by kernel_rfl)) k2 bel lt2) (trodAll_cons_mk (Below.trod laidOut (by kernel_rfl) (of_decide_eq_true (by kernel_rfl)) k3 bel lt3) (trodAll_cons_mk (Below.trod laidOut (by kernel_rfl) (of_decide_eq_true (by kernel_rfl)) k4 bel lt4) trodAll_mk0))))), rfl, bel.frame _, fun h => by cases h⟩

theorem over : Rows.fnExactProveSumRow.holds Try.pinned (OpenSpec.ofChange Rows.fnExactProveSumSpec) :=
  OpenClaim.holds_of_wide 4 Try.f4 rfl rfl rfl rfl rfl rfl rfl ⟨rfl, rfl, rfl, rfl, rfl⟩ rfl rfl rfl rfl rfl (by kernel_rfl) Try.func4
    (show joinedFacts Try.prog 4 Try.f4 Rows.fnExactProveSumSpec Rows.fnExactProveSumRow = true by unfold joinedFacts; rw [Head.make, Head.lifts, Head.enters]; kernel_rfl)
    (of_decide_eq_true (by kernel_rfl)) (by unfold Func.isWrapper; first | (rw [if_pos (by decide +kernel)]; kernel_rfl) | (rw [if_neg (by decide +kernel)]; exact ⟨rfl, rfl⟩))
    (fun os started H enc _ => lifted os started H enc)

/-- The statement. -/
theorem proved : Rows.FnExactProveSumSaid := over
#print axioms proved
end Go.Proofs.Ytfjaohmildkeoaa.fnExactProveSum
