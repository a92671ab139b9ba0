/-
For every group, label, statement, secret and coin the law FnExactProveEqual returns true: the program's ProveEqual answers as the reference's does, and its answer owns its memory.
No condition.
-/
import Derived.Test.YtdaekpfngphefaaRows
import Derived.WalkKit
import Derived.ProofKit
import Derived.OpenShut
import Derived.ShutString
import Derived.ChangeOld
import Derived.Below
import Derived.Lib.SmallJoins
import Derived.Deep.DeepCutAuto
import Derived.Test.YtdaekpfngphefaaSigN
import Derived.Test.YtdaekpfngphefaaSigL
import Derived.Test.YtdaekpfngphefaaFacts
namespace Go.Proofs.Ytdaekpfngphefaa.fnExactProveEqual
open Go.Joins Go.ChangeShapes Go.WideShapes Go.ChangeAt Go.RowKit Go.Deep
open Go.ChangeMaps (open_string shut_string)
set_option linter.unusedVariables false

theorem own : ownKnob Try.prog.godebug = none := by kernel_rfl
theorem laidOut : laidOutB Try.prog = true := by kernel_rfl

/-- What the walk is told of a slice of integers that came in: it is nil; or it leads to a row of 'cap' cells that hold the numbers 'zs'. -/
def IsRow (k : IntKind) (w : World) (a : Option Addr) (len cap : Nat) (zs : List Int) : Prop :=
  (a = none ∧ len = 0 ∧ cap = 0 ∧ zs = []) ∨
  ∃ x, a = some x ∧ len ≤ cap ∧ cap ≤ maxLen ∧ zs.length = cap ∧ (∀ i, i < zs.length → w.cell? (x.add i) = some (.int k (zs.getD i 0))) ∧ ∀ n ∈ zs, (Lit.int k n).wf = true

theorem sizeq {W u vp : World} (h : Below W.heap.size W u) (hp : Below u.heap.size u vp) : W.heap.size ≤ u.heap.size := h.size
theorem set3_below {B : Nat} {w v : World} (h : Below B w v) {b : Nat} (hb : B ≤ b) (x y z : Value) : Below B w (((v.setCell ⟨b, 0, none⟩ x).setCell ⟨b, 1, none⟩ y).setCell ⟨b, 2, none⟩ z) := ((h.setCell hb _).setCell hb _).setCell hb _
theorem inP_more {B : Nat} {w : World} {v : Value} {p : PrD} (h : InP B w v p) {C : Nat} (hB : B ≤ C) (hC : C ≤ w.heap.size) : InP C w v p := by
  obtain ⟨a, b, c, rfl, h1, h2, h3⟩ := h
  exact ⟨a, b, c, rfl, h1.wide hB hC, h2.wide hB hC, h3.wide hB hC⟩
/-- A box that is laid while a region is under way, not written yet: it lies at n or above. -/
def VarB (n : Nat) (w : World) (b : Nat) : Prop := B3 w b (.slice none 0 0) (.slice none 0 0) (.slice none 0 0) ∧ n ≤ b
theorem VarB.below {n b : Nat} {w w' : World} (h : VarB n w b) (hb : Below w.heap.size w w') : VarB n w' b := ⟨h.1.below hb, h.2⟩
theorem varb_new {W v vp : World} {t : TypeId} (h : Below W.heap.size W v) (hb : Below (v.alloc (.cells #[.slice none 0 0, .slice none 0 0, .slice none 0 0] t)).heap.size (v.alloc (.cells #[.slice none 0 0, .slice none 0 0, .slice none 0 0] t)) vp) : VarB W.heap.size vp v.heap.size := ⟨(b3_new v _ _ _ t).below hb, h.size⟩
theorem varb_drop {W vp : World} {b : Nat} {t : TypeId} (e : W.heap.size = b) (hb : Below (W.alloc (.cells #[.slice none 0 0, .slice none 0 0, .slice none 0 0] t)).drew.heap.size (W.alloc (.cells #[.slice none 0 0, .slice none 0 0, .slice none 0 0] t)).drew vp) : VarB W.heap.size vp b := e ▸ ⟨B3.below (w := (W.alloc (.cells #[.slice none 0 0, .slice none 0 0, .slice none 0 0] t)).drew) (b3_new W _ _ _ t) hb, Nat.le_refl _⟩
def VarC (n : Nat) (w : World) (b q : Nat) : Prop := B3 w b (.slice none 0 0) (.slice none 0 0) (.slice none 0 0) ∧ n ≤ b ∧ b < q
theorem varc_of {n b : Nat} {u vp : World} (h : VarB n u b) (hb : Below u.heap.size u vp) : VarC n vp b u.heap.size := ⟨h.1.below hb, h.2, h.1.lt⟩
theorem varc_new {W v vp : World} {t : TypeId} (h : Below W.heap.size W v) (hb : Below (v.alloc (.cells #[.slice none 0 0, .slice none 0 0, .slice none 0 0] t)).heap.size (v.alloc (.cells #[.slice none 0 0, .slice none 0 0, .slice none 0 0] t)) vp) : VarC W.heap.size vp v.heap.size (v.alloc (.cells #[.slice none 0 0, .slice none 0 0, .slice none 0 0] t)).heap.size := ⟨(b3_new v _ _ _ t).below hb, h.size, by simp⟩
/-- A proof in a box, and where its lists lie: for the reference's, the program's. -/
def BoxP (W wx : World) (b : Nat) (x y z : Value) (p : PrD) : Prop := B3 wx b x y z ∧ InP wx.heap.size wx (.agg #[x, y, z]) p ∧ Below W.heap.size W wx ∧ W.heap.size ≤ b
theorem boxP_a {W vp : World} {b q P : Nat} {x y z : Value} {p : PrD} (hB : Below W.heap.size W vp) (hl : VarC W.heap.size vp b q) (ho : OwP q P vp (.agg #[x, y, z]) p) : BoxP W (((vp.setCell ⟨b, 0, none⟩ x).setCell ⟨b, 1, none⟩ y).setCell ⟨b, 2, none⟩ z) b x y z p := by
  have hm := mid3 vp b x y z
  have hs := ho.le
  exact ⟨((hl.1.set0 _).set1 _).set2 _, inP_more (ho.mid hm (.inr hl.2.2)).toIn (Nat.le_trans hs hm.size) (Nat.le_refl _), set3_below hB hl.2.1 x y z, hl.2.1⟩
theorem boxP_b {W vp : World} {q P : Nat} {x y z : Value} {p : PrD} {t : TypeId} (hB : Below W.heap.size W vp) (ho : OwP q P vp (.agg #[x, y, z]) p) : BoxP W (vp.alloc (.cells #[x, y, z] t)) vp.heap.size x y z p := by
  have h := ba vp (.cells #[x, y, z] t)
  exact ⟨b3_new vp x y z t, inP_more (ho.toIn.below h) (Nat.le_trans ho.le h.size) (Nat.le_refl _), bt hB h, hB.size⟩
def BoxQ (W wx : World) (b q P : Nat) (x y z : Value) (p : PrD) : Prop := B3 wx b x y z ∧ OwQ q P wx (.agg #[x, y, z]) p ∧ (b < q ∨ P ≤ b) ∧ W.heap.size ≤ q ∧ Below W.heap.size W wx ∧ W.heap.size ≤ b
theorem boxQ_a {W vp : World} {b q P : Nat} {x y z : Value} {p : PrD} (hB : Below W.heap.size W vp) (hq : W.heap.size ≤ q) (hl : VarC W.heap.size vp b q) (ho : OwQ q P vp (.agg #[x, y, z]) p) : BoxQ W (((vp.setCell ⟨b, 0, none⟩ x).setCell ⟨b, 1, none⟩ y).setCell ⟨b, 2, none⟩ z) b q P x y z p := by
  have hm := mid3 vp b x y z
  exact ⟨((hl.1.set0 _).set1 _).set2 _, ho.mid hm (.inr hl.2.2), .inl hl.2.2, hq, set3_below hB hl.2.1 x y z, hl.2.1⟩
theorem boxQ_b {W vp : World} {q P : Nat} {x y z : Value} {p : PrD} {t : TypeId} (hB : Below W.heap.size W vp) (hq : W.heap.size ≤ q) (ho : OwQ q P vp (.agg #[x, y, z]) p) : BoxQ W (vp.alloc (.cells #[x, y, z] t)) vp.heap.size q P x y z p :=
  ⟨b3_new vp x y z t, ho.below (ba vp _), .inr ho.le, hq, bt hB (ba vp _), hB.size⟩

/-! ### STEP 1: the walk: the Go text returns true and writes nothing that was there -/
set_option maxRecDepth 100000 in
set_option maxHeartbeats 25600000 in
theorem walk (P0 Q0 G0 : Int) (a1 : ByteArray) (G12 Y12 G22 Y22 : Int) (a3 : Int) (a4 : Int) (w : World) (wP0 : (Lit.int .i64 P0).wf = true) (wQ0 : (Lit.int .i64 Q0).wf = true) (wG0 : (Lit.int .i64 G0).wf = true) (w1 : a1.size ≤ maxLen) (wG12 : (Lit.int .i64 G12).wf = true) (wY12 : (Lit.int .i64 Y12).wf = true) (wG22 : (Lit.int .i64 G22).wf = true) (wY22 : (Lit.int .i64 Y22).wf = true) (w3 : (Lit.int .i64 a3).wf = true) (w4 : (Lit.int .i64 a4).wf = true) :
    Calls Try.prog 9 #[.agg #[.int .i64 P0, .int .i64 Q0, .int .i64 G0], .string a1, .agg #[.int .i64 G12, .int .i64 Y12, .int .i64 G22, .int .i64 Y22], .int .i64 a3, .int .i64 a4] w fun e w' => e = .returned (.bool true) ∧ Below w.heap.size w w' := by
  have HVL := Lib.hid (pe_n P0 Q0 G0 a1 G12 Y12 G22 Y22 a3 a4)
  generalize hV : peV P0 Q0 G0 a1 G12 Y12 G22 Y22 a3 a4 = res at HVL
  generalize hK : peB P0 Q0 G0 a1 G12 Y12 G22 Y22 a3 a4 = ok
  have HV := Lib.hid hV
  have HK := Lib.hid hK
  have hrl : res.n ≤ 24 := HVL.out
  clear hV hK
  have hal := ba (w.alloc (.cells #[.int .i64 P0, .int .i64 Q0, .int .i64 G0] 23)) (.cells #[.int .i64 G12, .int .i64 Y12, .int .i64 G22, .int .i64 Y22] 45)
  have HB_0 := Lib.hid (bt (ba w (.cells #[.int .i64 P0, .int .i64 Q0, .int .i64 G0] 23)) hal)
  have G_0 := Lib.hid (GR.below (gr_new w P0 Q0 G0 23) hal)
  have hv := v4_new (w.alloc (.cells #[.int .i64 P0, .int .i64 Q0, .int .i64 G0] 23)) G12 Y12 G22 Y22 45
  rw [show (w.alloc (.cells #[.int .i64 P0, .int .i64 Q0, .int .i64 G0] 23)).heap.size = w.heap.size + 1 by simp] at hv
  have V_0 := Lib.hid hv
  clear hv hal
  by_cases b1 : 1048576 < a1.size
  · have c1 : (1048576 : Int) < (a1.size : Int) := by omega
    unfold maxLen at w1
    go_enter Try.func9, Try.ntmps9
    go_wp2
    go_ret
    exact ⟨rfl, HB_0.out⟩
  have c1 : (a1.size : Int) ≤ 1048576 := by omega
  have d1 : a1.size ≤ 1048576 := by omega
  clear b1
  go_enter Try.func9, Try.ntmps9
  go_upto_region 3 with fail
  go_cut [11, 12] (fun s1 s2 wx => ∃ (b : Nat) (a1_ : Option Addr) (c1_ : Nat) (a2_ : Option Addr) (c2_ : Nat) (a3_ : Option Addr) (c3_ : Nat), s1 = .pointer (some ⟨b, 0, none⟩) ∧ s2 = .bool ok ∧ BoxP ((w.alloc (.cells #[.int .i64 P0, .int .i64 Q0, .int .i64 G0] 23)).alloc (.cells #[.int .i64 G12, .int .i64 Y12, .int .i64 G22, .int .i64 Y22] 45)) wx b (.slice a1_ res.c.length c1_) (.slice a2_ res.h.length c2_) (.slice a3_ res.r.length c3_) res)
  case first =>
    have HKK := Lib.hid (show ∀ w', Below ((w.alloc (.cells #[.int .i64 P0, .int .i64 Q0, .int .i64 G0] 23)).alloc (.cells #[.int .i64 G12, .int .i64 Y12, .int .i64 G22, .int .i64 Y22] 45)).heap.size ((w.alloc (.cells #[.int .i64 P0, .int .i64 Q0, .int .i64 G0] 23)).alloc (.cells #[.int .i64 G12, .int .i64 Y12, .int .i64 G22, .int .i64 Y22] 45)) w' → ((w'.cell? ⟨w.heap.size, 0, none⟩ = some (.int .i64 P0) ∧ w'.cell? ⟨w.heap.size, 1, none⟩ = some (.int .i64 Q0) ∧ w'.cell? ⟨w.heap.size, 2, none⟩ = some (.int .i64 G0)) ∧ w'.cell? ⟨w.heap.size + 1, 0, none⟩ = some (.int .i64 G12) ∧ w'.cell? ⟨w.heap.size + 1, 1, none⟩ = some (.int .i64 Y12) ∧ w'.cell? ⟨w.heap.size + 1, 2, none⟩ = some (.int .i64 G22) ∧ w'.cell? ⟨w.heap.size + 1, 3, none⟩ = some (.int .i64 Y22)) from fun w' hk => ⟨G_0.out.below hk, V_0.out.below hk⟩)
    go_region_held3 (fun w' => (w'.cell? ⟨w.heap.size, 0, none⟩ = some (.int .i64 P0) ∧ w'.cell? ⟨w.heap.size, 1, none⟩ = some (.int .i64 Q0) ∧ w'.cell? ⟨w.heap.size, 2, none⟩ = some (.int .i64 G0)) ∧ w'.cell? ⟨w.heap.size + 1, 0, none⟩ = some (.int .i64 G12) ∧ w'.cell? ⟨w.heap.size + 1, 1, none⟩ = some (.int .i64 Y12) ∧ w'.cell? ⟨w.heap.size + 1, 2, none⟩ = some (.int .i64 G22) ∧ w'.cell? ⟨w.heap.size + 1, 3, none⟩ = some (.int .i64 Y22)) (first | with_reducible exact HKK.out _ HWp.out | exact HKK.out _ (Below.refl _ ((w.alloc (.cells #[.int .i64 P0, .int .i64 Q0, .int .i64 G0] 23)).alloc (.cells #[.int .i64 G12, .int .i64 Y12, .int .i64 G22, .int .i64 Y22] 45))).drew | exact HKK.out _ HWp.out | exact HKK.out _ (bt HWp.out (ba _ _)) | exact HKK.out _ (ba ((w.alloc (.cells #[.int .i64 P0, .int .i64 Q0, .int .i64 G0] 23)).alloc (.cells #[.int .i64 G12, .int .i64 Y12, .int .i64 G22, .int .i64 Y22] 45)) (.cells #[.slice none 0 0, .slice none 0 0, .slice none 0 0] 36)).drew | exact HKK.out _ (bt (Below.refl _ ((w.alloc (.cells #[.int .i64 P0, .int .i64 Q0, .int .i64 G0] 23)).alloc (.cells #[.int .i64 G12, .int .i64 Y12, .int .i64 G22, .int .i64 Y22] 45))).drew (ba _ _)) | exact HKK.out _ (set3_below HWp.out HLq.out.2.1 _ _ _)) ((first
      | (go_at_call 18; refine (toGroup_any _ _ _ _).mono ?_; rintro e vp ⟨rfl, hp⟩; (first | (have HLp := Lib.hid (HLp.out.below hp)) | (have HLp := Lib.hid (by with_reducible exact varb_new HWp.out hp)) | (have HLp := Lib.hid (by with_reducible exact varb_drop (W := ((w.alloc (.cells #[.int .i64 P0, .int .i64 Q0, .int .i64 G0] 23)).alloc (.cells #[.int .i64 G12, .int .i64 Y12, .int .i64 G22, .int .i64 Y22] 45))) (b := w.heap.size + 1 + 1) (by simp) hp)) | skip); have HWn := Lib.hid (show Below ((w.alloc (.cells #[.int .i64 P0, .int .i64 Q0, .int .i64 G0] 23)).alloc (.cells #[.int .i64 G12, .int .i64 Y12, .int .i64 G22, .int .i64 Y22] 45)).heap.size ((w.alloc (.cells #[.int .i64 P0, .int .i64 Q0, .int .i64 G0] 23)).alloc (.cells #[.int .i64 G12, .int .i64 Y12, .int .i64 G22, .int .i64 Y22] 45)) vp from by first | exact bt HWp.out hp | exact bt (bt HWp.out (ba _ _)) hp | exact bt (Below.refl _ ((w.alloc (.cells #[.int .i64 P0, .int .i64 Q0, .int .i64 G0] 23)).alloc (.cells #[.int .i64 G12, .int .i64 Y12, .int .i64 G22, .int .i64 Y22] 45))).drew hp | exact bt (ba ((w.alloc (.cells #[.int .i64 P0, .int .i64 Q0, .int .i64 G0] 23)).alloc (.cells #[.int .i64 G12, .int .i64 Y12, .int .i64 G22, .int .i64 Y22] 45)) (.cells #[.slice none 0 0, .slice none 0 0, .slice none 0 0] 36)).drew hp | exact bt (bt (Below.refl _ ((w.alloc (.cells #[.int .i64 P0, .int .i64 Q0, .int .i64 G0] 23)).alloc (.cells #[.int .i64 G12, .int .i64 Y12, .int .i64 G22, .int .i64 Y22] 45))).drew (ba _ _)) hp); have HWp := HWn; clear HWn hp)
      | (go_at_call 29; refine (toEql_any _ _ _ _ _).mono ?_; rintro e vp ⟨rfl, hp⟩; (first | (have HLp := Lib.hid (HLp.out.below hp)) | (have HLp := Lib.hid (by with_reducible exact varb_new HWp.out hp)) | (have HLp := Lib.hid (by with_reducible exact varb_drop (W := ((w.alloc (.cells #[.int .i64 P0, .int .i64 Q0, .int .i64 G0] 23)).alloc (.cells #[.int .i64 G12, .int .i64 Y12, .int .i64 G22, .int .i64 Y22] 45))) (b := w.heap.size + 1 + 1) (by simp) hp)) | skip); have HWn := Lib.hid (show Below ((w.alloc (.cells #[.int .i64 P0, .int .i64 Q0, .int .i64 G0] 23)).alloc (.cells #[.int .i64 G12, .int .i64 Y12, .int .i64 G22, .int .i64 Y22] 45)).heap.size ((w.alloc (.cells #[.int .i64 P0, .int .i64 Q0, .int .i64 G0] 23)).alloc (.cells #[.int .i64 G12, .int .i64 Y12, .int .i64 G22, .int .i64 Y22] 45)) vp from by first | exact bt HWp.out hp | exact bt (bt HWp.out (ba _ _)) hp | exact bt (Below.refl _ ((w.alloc (.cells #[.int .i64 P0, .int .i64 Q0, .int .i64 G0] 23)).alloc (.cells #[.int .i64 G12, .int .i64 Y12, .int .i64 G22, .int .i64 Y22] 45))).drew hp | exact bt (ba ((w.alloc (.cells #[.int .i64 P0, .int .i64 Q0, .int .i64 G0] 23)).alloc (.cells #[.int .i64 G12, .int .i64 Y12, .int .i64 G22, .int .i64 Y22] 45)) (.cells #[.slice none 0 0, .slice none 0 0, .slice none 0 0] 36)).drew hp | exact bt (bt (Below.refl _ ((w.alloc (.cells #[.int .i64 P0, .int .i64 Q0, .int .i64 G0] 23)).alloc (.cells #[.int .i64 G12, .int .i64 Y12, .int .i64 G22, .int .i64 Y22] 45))).drew (ba _ _)) hp); have HWp := HWn; clear HWn hp)
      | (go_at_call 44; refine (sProvE_any P0 Q0 G0 G12 Y12 G22 Y22 a3 a4 a1 d1 _).mono ?_; rw [HV.out, HK.out]; rintro e vp ⟨qa, qb, qc, rfl, ho, hp⟩; obtain ⟨qa1, qa2, qb1, qb2, qc1, qc2, hsh⟩ := inP_shapeQ (OwP.toIn ho); simp only [Value.agg.injEq, Array.mk.injEq, List.cons.injEq, and_true] at hsh; obtain ⟨rfl, rfl, rfl⟩ := hsh; have HOp := Lib.hid ho; (first | (have HLq := Lib.hid (varc_of HLp.out hp)) | (have HLq := Lib.hid (by with_reducible exact varc_new HWp.out hp)) | skip); have HSQ := Lib.hid (sizeq (W := ((w.alloc (.cells #[.int .i64 P0, .int .i64 Q0, .int .i64 G0] 23)).alloc (.cells #[.int .i64 G12, .int .i64 Y12, .int .i64 G22, .int .i64 Y22] 45))) (by first | exact HWp.out | exact bt HWp.out (ba _ _)) hp); have HWn := Lib.hid (show Below ((w.alloc (.cells #[.int .i64 P0, .int .i64 Q0, .int .i64 G0] 23)).alloc (.cells #[.int .i64 G12, .int .i64 Y12, .int .i64 G22, .int .i64 Y22] 45)).heap.size ((w.alloc (.cells #[.int .i64 P0, .int .i64 Q0, .int .i64 G0] 23)).alloc (.cells #[.int .i64 G12, .int .i64 Y12, .int .i64 G22, .int .i64 Y22] 45)) vp from by first | exact bt HWp.out hp | exact bt (bt HWp.out (ba _ _)) hp | exact bt (Below.refl _ ((w.alloc (.cells #[.int .i64 P0, .int .i64 Q0, .int .i64 G0] 23)).alloc (.cells #[.int .i64 G12, .int .i64 Y12, .int .i64 G22, .int .i64 Y22] 45))).drew hp | exact bt (ba ((w.alloc (.cells #[.int .i64 P0, .int .i64 Q0, .int .i64 G0] 23)).alloc (.cells #[.int .i64 G12, .int .i64 Y12, .int .i64 G22, .int .i64 Y22] 45)) (.cells #[.slice none 0 0, .slice none 0 0, .slice none 0 0] 36)).drew hp | exact bt (bt (Below.refl _ ((w.alloc (.cells #[.int .i64 P0, .int .i64 Q0, .int .i64 G0] 23)).alloc (.cells #[.int .i64 G12, .int .i64 Y12, .int .i64 G22, .int .i64 Y22] 45))).drew (ba _ _)) hp); have HWp := HWn; (first | (obtain ⟨⟨l0, l1, l2, lf⟩, _, _⟩ := HLq.out; have lf0 := lf 0; have lf1 := lf 1; have lf2 := lf 2; clear lf) | skip); clear HWn hp ho)
      | fail))
    all_goals (
      go_wp2_with fail
      go_meet
      first
        | exact ⟨_, _, _, _, _, _, _, rfl, rfl, boxP_a HWp.out HLq.out HOp.out⟩
        | exact ⟨_, _, _, _, _, _, _, rfl, rfl, boxP_b HWp.out HOp.out⟩)
  case rest =>
    obtain ⟨b, w1_, w2_, w3_, w4_, w5_, w6_, rfl, rfl, hbx⟩ := hcut
    have G_1 := Lib.hid (G_0.out.below hbx.2.2.1)
    have V_1 := Lib.hid (V_0.out.below hbx.2.2.1)
    have HB_1 := Lib.hid (bt HB_0.out hbx.2.2.1)
    have HX_1 := Lib.hid hbx.1
    have HW_1 := Lib.hid hbx.2.1
    clear G_0 V_0 HB_0 hbx
    have G_0 := G_1
    have V_0 := V_1
    clear G_1 V_1
    obtain ⟨W1, hW1⟩ : ∃ W, wc = W := ⟨_, rfl⟩
    subst hW1
    go_upto_region 4 with fail
    go_cut [13, 14] (fun s1 s2 wx => ∃ (b q P : Nat) (a1_ : Option Addr) (c1_ : Nat) (a2_ : Option Addr) (c2_ : Nat) (a3_ : Option Addr) (c3_ : Nat), s1 = .pointer (some ⟨b, 0, none⟩) ∧ s2 = .bool ok ∧ BoxQ wc wx b q P (.slice a1_ res.c.length c1_) (.slice a2_ res.h.length c2_) (.slice a3_ res.r.length c3_) res)
    case first =>
      have HKK := Lib.hid (show ∀ w', Below wc.heap.size wc w' → ((w'.cell? ⟨w.heap.size, 0, none⟩ = some (.int .i64 P0) ∧ w'.cell? ⟨w.heap.size, 1, none⟩ = some (.int .i64 Q0) ∧ w'.cell? ⟨w.heap.size, 2, none⟩ = some (.int .i64 G0)) ∧ w'.cell? ⟨w.heap.size + 1, 0, none⟩ = some (.int .i64 G12) ∧ w'.cell? ⟨w.heap.size + 1, 1, none⟩ = some (.int .i64 Y12) ∧ w'.cell? ⟨w.heap.size + 1, 2, none⟩ = some (.int .i64 G22) ∧ w'.cell? ⟨w.heap.size + 1, 3, none⟩ = some (.int .i64 Y22)) from fun w' hk => ⟨G_0.out.below hk, V_0.out.below hk⟩)
      go_region_held3 (fun w' => (w'.cell? ⟨w.heap.size, 0, none⟩ = some (.int .i64 P0) ∧ w'.cell? ⟨w.heap.size, 1, none⟩ = some (.int .i64 Q0) ∧ w'.cell? ⟨w.heap.size, 2, none⟩ = some (.int .i64 G0)) ∧ w'.cell? ⟨w.heap.size + 1, 0, none⟩ = some (.int .i64 G12) ∧ w'.cell? ⟨w.heap.size + 1, 1, none⟩ = some (.int .i64 Y12) ∧ w'.cell? ⟨w.heap.size + 1, 2, none⟩ = some (.int .i64 G22) ∧ w'.cell? ⟨w.heap.size + 1, 3, none⟩ = some (.int .i64 Y22)) (first | with_reducible exact HKK.out _ HWp.out | exact HKK.out _ (Below.refl _ wc).drew | exact HKK.out _ HWp.out | exact HKK.out _ (bt HWp.out (ba _ _)) | exact HKK.out _ (ba wc (.cells #[.slice none 0 0, .slice none 0 0, .slice none 0 0] 36)).drew | exact HKK.out _ (bt (Below.refl _ wc).drew (ba _ _)) | exact HKK.out _ (set3_below HWp.out HLq.out.2.1 _ _ _)) ((first
        | (go_at_call 18; refine (toGroup_any _ _ _ _).mono ?_; rintro e vp ⟨rfl, hp⟩; (first | (have HLp := Lib.hid (HLp.out.below hp)) | (have HLp := Lib.hid (by with_reducible exact varb_new HWp.out hp)) | (have HLp := Lib.hid (by with_reducible exact varb_drop (W := wc) (b := wc.heap.size) (rfl) hp)) | skip); have HWn := Lib.hid (show Below wc.heap.size wc vp from by first | exact bt HWp.out hp | exact bt (bt HWp.out (ba _ _)) hp | exact bt (Below.refl _ wc).drew hp | exact bt (ba wc (.cells #[.slice none 0 0, .slice none 0 0, .slice none 0 0] 36)).drew hp | exact bt (bt (Below.refl _ wc).drew (ba _ _)) hp); have HWp := HWn; clear HWn hp)
        | (go_at_call 29; refine (toEql_any _ _ _ _ _).mono ?_; rintro e vp ⟨rfl, hp⟩; (first | (have HLp := Lib.hid (HLp.out.below hp)) | (have HLp := Lib.hid (by with_reducible exact varb_new HWp.out hp)) | (have HLp := Lib.hid (by with_reducible exact varb_drop (W := wc) (b := wc.heap.size) (rfl) hp)) | skip); have HWn := Lib.hid (show Below wc.heap.size wc vp from by first | exact bt HWp.out hp | exact bt (bt HWp.out (ba _ _)) hp | exact bt (Below.refl _ wc).drew hp | exact bt (ba wc (.cells #[.slice none 0 0, .slice none 0 0, .slice none 0 0] 36)).drew hp | exact bt (bt (Below.refl _ wc).drew (ba _ _)) hp); have HWp := HWn; clear HWn hp)
        | (go_at_call 45; refine (provE_any P0 Q0 G0 G12 Y12 G22 Y22 a3 a4 a1 d1 _).mono ?_; rw [HV.out, HK.out]; rintro e vp ⟨qa, qb, qc, rfl, ho, hp⟩; obtain ⟨qa1, qa2, qb1, qb2, qc1, qc2, hsh⟩ := inP_shapeQ (OwQ.toIn ho); simp only [Value.agg.injEq, Array.mk.injEq, List.cons.injEq, and_true] at hsh; obtain ⟨rfl, rfl, rfl⟩ := hsh; have HOp := Lib.hid ho; (first | (have HLq := Lib.hid (varc_of HLp.out hp)) | (have HLq := Lib.hid (by with_reducible exact varc_new HWp.out hp)) | skip); have HSQ := Lib.hid (sizeq (W := wc) (by first | exact HWp.out | exact bt HWp.out (ba _ _)) hp); have HWn := Lib.hid (show Below wc.heap.size wc vp from by first | exact bt HWp.out hp | exact bt (bt HWp.out (ba _ _)) hp | exact bt (Below.refl _ wc).drew hp | exact bt (ba wc (.cells #[.slice none 0 0, .slice none 0 0, .slice none 0 0] 36)).drew hp | exact bt (bt (Below.refl _ wc).drew (ba _ _)) hp); have HWp := HWn; (first | (obtain ⟨⟨l0, l1, l2, lf⟩, _, _⟩ := HLq.out; have lf0 := lf 0; have lf1 := lf 1; have lf2 := lf 2; clear lf) | skip); clear HWn hp ho)
        | fail))
      all_goals (
        go_wp2_with fail
        go_meet
        first
          | exact ⟨_, _, _, _, _, _, _, _, _, rfl, rfl, boxQ_a HWp.out HSQ.out HLq.out HOp.out⟩
          | exact ⟨_, _, _, _, _, _, _, _, _, rfl, rfl, boxQ_b HWp.out HSQ.out HOp.out⟩)
    case rest =>
      skip
      obtain ⟨b2, q2, P2, g1_, g2_, g3_, g4_, g5_, g6_, rfl, rfl, hbx⟩ := hcut
      obtain ⟨hY, hO, hd, hq, hW, hb2⟩ := hbx
      have G_2 := Lib.hid (G_0.out.below hW)
      have V_2 := Lib.hid (V_0.out.below hW)
      have HX_2 := Lib.hid (HX_1.out.below hW)
      have HW_2 := Lib.hid (HW_1.out.below hW)
      have HB_2 := Lib.hid (bt HB_1.out hW)
      have HY_2 := Lib.hid hY
      have HO_2 := Lib.hid hO
      have HD := Lib.hid hd
      have HLX := Lib.hid (Nat.lt_of_lt_of_le HX_1.out.lt hq)
      have HLQ := Lib.hid hq
      have HLV := Lib.hid (Nat.lt_of_lt_of_le V_0.out.lt hq)
      have HLG := Lib.hid (Nat.lt_of_lt_of_le G_0.out.lt hq)
      have HLB := Lib.hid (Nat.le_trans HB_1.out.size hq)
      clear G_0 V_0 HX_1 HW_1 HB_1 hY hO hd hq hW
      obtain ⟨x0, x1, x2, _⟩ := HX_2.out
      obtain ⟨y0, y1, y2, _⟩ := HY_2.out
      go_wp2_with fail
      refine (eqP_any HO_2.out.toIn HW_2.out (by omega)).mono ?_
      rintro e v3 ⟨rfl, hb⟩
      clear x0 x1 x2 y0 y1 y2
      have G_3 := Lib.hid (G_2.out.below hb)
      have V_3 := Lib.hid (V_2.out.below hb)
      have HX_3 := Lib.hid (HX_2.out.below hb)
      have HW_3 := Lib.hid (HW_2.out.below hb)
      have HY_3 := Lib.hid (HY_2.out.below hb)
      have HO_3 := Lib.hid (HO_2.out.below hb)
      have HB_3 := Lib.hid (bt HB_2.out hb)
      clear hb G_2 V_2 HX_2 HW_2 HY_2 HO_2 HB_2
      obtain ⟨y0, y1, y2, _⟩ := HY_3.out
      go_wp2_with fail
      refine (markQ_any HO_3.out (by omega) (by omega) (by omega)).mono ?_
      rintro e v4 ⟨rfl, ho, hmi⟩
      clear y0 y1 y2
      have G_4 := Lib.hid (G_3.out.mid hmi (.inl HLG.out))
      have V_4 := Lib.hid (v4_mid V_3.out hmi HLV.out)
      have HX_4 := Lib.hid (HX_3.out.mid hmi (.inl HLX.out))
      have HW_4 := Lib.hid (HW_3.out.mid hmi HLQ.out)
      have HY_4 := Lib.hid (HY_3.out.mid hmi HD.out)
      have HB_4 := Lib.hid (HB_3.out.trans (hmi.toBelow HLB.out HB_3.out.size))
      have HO_4 := Lib.hid ho.toIn
      clear ho hmi G_3 V_3 HX_3 HW_3 HY_3 HB_3 HO_3
      obtain ⟨y0, y1, y2, _⟩ := HY_4.out
      go_wp2_with fail
      refine (heldP_any HO_4.out (by omega) (by omega) (by omega)).mono ?_
      rintro e v5 ⟨rfl, hb⟩
      clear y0 y1 y2
      have G_5 := Lib.hid (G_4.out.below hb)
      have V_5 := Lib.hid (V_4.out.below hb)
      have HX_5 := Lib.hid (HX_4.out.below hb)
      have HW_5 := Lib.hid (HW_4.out.below hb)
      have HY_5 := Lib.hid (HY_4.out.below hb)
      have HO_5 := Lib.hid (HO_4.out.below hb)
      have HB_5 := Lib.hid (bt HB_4.out hb)
      clear hb G_4 V_4 HX_4 HW_4 HY_4 HO_4 HB_4
      have G_0 := G_5
      have V_0 := V_5
      clear G_5 V_5 HLX HLQ HLV HLG HLB HD hb2
      go_upto_region 15 with fail
      go_cut [17, 18] (fun s1 s2 wx => ∃ (b q P : Nat) (a1_ : Option Addr) (c1_ : Nat) (a2_ : Option Addr) (c2_ : Nat) (a3_ : Option Addr) (c3_ : Nat), s1 = .pointer (some ⟨b, 0, none⟩) ∧ s2 = .bool ok ∧ BoxQ v5 wx b q P (.slice a1_ res.c.length c1_) (.slice a2_ res.h.length c2_) (.slice a3_ res.r.length c3_) res)
      case first =>
        have HKK := Lib.hid (show ∀ w', Below v5.heap.size v5 w' → ((w'.cell? ⟨w.heap.size, 0, none⟩ = some (.int .i64 P0) ∧ w'.cell? ⟨w.heap.size, 1, none⟩ = some (.int .i64 Q0) ∧ w'.cell? ⟨w.heap.size, 2, none⟩ = some (.int .i64 G0)) ∧ w'.cell? ⟨w.heap.size + 1, 0, none⟩ = some (.int .i64 G12) ∧ w'.cell? ⟨w.heap.size + 1, 1, none⟩ = some (.int .i64 Y12) ∧ w'.cell? ⟨w.heap.size + 1, 2, none⟩ = some (.int .i64 G22) ∧ w'.cell? ⟨w.heap.size + 1, 3, none⟩ = some (.int .i64 Y22)) from fun w' hk => ⟨G_0.out.below hk, V_0.out.below hk⟩)
        go_region_held3 (fun w' => (w'.cell? ⟨w.heap.size, 0, none⟩ = some (.int .i64 P0) ∧ w'.cell? ⟨w.heap.size, 1, none⟩ = some (.int .i64 Q0) ∧ w'.cell? ⟨w.heap.size, 2, none⟩ = some (.int .i64 G0)) ∧ w'.cell? ⟨w.heap.size + 1, 0, none⟩ = some (.int .i64 G12) ∧ w'.cell? ⟨w.heap.size + 1, 1, none⟩ = some (.int .i64 Y12) ∧ w'.cell? ⟨w.heap.size + 1, 2, none⟩ = some (.int .i64 G22) ∧ w'.cell? ⟨w.heap.size + 1, 3, none⟩ = some (.int .i64 Y22)) (first | with_reducible exact HKK.out _ HWp.out | exact HKK.out _ (Below.refl _ v5).drew | exact HKK.out _ HWp.out | exact HKK.out _ (bt HWp.out (ba _ _)) | exact HKK.out _ (ba v5 (.cells #[.slice none 0 0, .slice none 0 0, .slice none 0 0] 36)).drew | exact HKK.out _ (bt (Below.refl _ v5).drew (ba _ _)) | exact HKK.out _ (set3_below HWp.out HLq.out.2.1 _ _ _)) ((first
          | (go_at_call 18; refine (toGroup_any _ _ _ _).mono ?_; rintro e vp ⟨rfl, hp⟩; (first | (have HLp := Lib.hid (HLp.out.below hp)) | (have HLp := Lib.hid (by with_reducible exact varb_new HWp.out hp)) | (have HLp := Lib.hid (by with_reducible exact varb_drop (W := v5) (b := v5.heap.size) (rfl) hp)) | skip); have HWn := Lib.hid (show Below v5.heap.size v5 vp from by first | exact bt HWp.out hp | exact bt (bt HWp.out (ba _ _)) hp | exact bt (Below.refl _ v5).drew hp | exact bt (ba v5 (.cells #[.slice none 0 0, .slice none 0 0, .slice none 0 0] 36)).drew hp | exact bt (bt (Below.refl _ v5).drew (ba _ _)) hp); have HWp := HWn; clear HWn hp)
          | (go_at_call 29; refine (toEql_any _ _ _ _ _).mono ?_; rintro e vp ⟨rfl, hp⟩; (first | (have HLp := Lib.hid (HLp.out.below hp)) | (have HLp := Lib.hid (by with_reducible exact varb_new HWp.out hp)) | (have HLp := Lib.hid (by with_reducible exact varb_drop (W := v5) (b := v5.heap.size) (rfl) hp)) | skip); have HWn := Lib.hid (show Below v5.heap.size v5 vp from by first | exact bt HWp.out hp | exact bt (bt HWp.out (ba _ _)) hp | exact bt (Below.refl _ v5).drew hp | exact bt (ba v5 (.cells #[.slice none 0 0, .slice none 0 0, .slice none 0 0] 36)).drew hp | exact bt (bt (Below.refl _ v5).drew (ba _ _)) hp); have HWp := HWn; clear HWn hp)
          | (go_at_call 45; refine (provE_any P0 Q0 G0 G12 Y12 G22 Y22 a3 a4 a1 d1 _).mono ?_; rw [HV.out, HK.out]; rintro e vp ⟨qa, qb, qc, rfl, ho, hp⟩; obtain ⟨qa1, qa2, qb1, qb2, qc1, qc2, hsh⟩ := inP_shapeQ (OwQ.toIn ho); simp only [Value.agg.injEq, Array.mk.injEq, List.cons.injEq, and_true] at hsh; obtain ⟨rfl, rfl, rfl⟩ := hsh; have HOp := Lib.hid ho; (first | (have HLq := Lib.hid (varc_of HLp.out hp)) | (have HLq := Lib.hid (by with_reducible exact varc_new HWp.out hp)) | skip); have HSQ := Lib.hid (sizeq (W := v5) (by first | exact HWp.out | exact bt HWp.out (ba _ _)) hp); have HWn := Lib.hid (show Below v5.heap.size v5 vp from by first | exact bt HWp.out hp | exact bt (bt HWp.out (ba _ _)) hp | exact bt (Below.refl _ v5).drew hp | exact bt (ba v5 (.cells #[.slice none 0 0, .slice none 0 0, .slice none 0 0] 36)).drew hp | exact bt (bt (Below.refl _ v5).drew (ba _ _)) hp); have HWp := HWn; (first | (obtain ⟨⟨l0, l1, l2, lf⟩, _, _⟩ := HLq.out; have lf0 := lf 0; have lf1 := lf 1; have lf2 := lf 2; clear lf) | skip); clear HWn hp ho)
          | fail))
        all_goals (
          go_wp2_with fail
          go_meet
          first
            | exact ⟨_, _, _, _, _, _, _, _, _, rfl, rfl, boxQ_a HWp.out HSQ.out HLq.out HOp.out⟩
            | exact ⟨_, _, _, _, _, _, _, _, _, rfl, rfl, boxQ_b HWp.out HSQ.out HOp.out⟩)
      case rest =>
        obtain ⟨b3, q3, P3, h1_, h2_, h3_, h4_, h5_, h6_, rfl, rfl, hbx⟩ := hcut
        obtain ⟨hZ, hO, _, _, hW, _⟩ := hbx
        have HX_6 := Lib.hid (HX_5.out.below hW)
        have HW_6 := Lib.hid (HW_5.out.below hW)
        have HY_6 := Lib.hid (HY_5.out.below hW)
        have HO_6 := Lib.hid (HO_5.out.below hW)
        have HB_6 := Lib.hid (bt HB_5.out hW)
        have HZ_6 := Lib.hid hZ
        have HH_6 := Lib.hid hO.toIn
        clear HX_5 HW_5 HY_5 HO_5 HB_5 hZ hO hW G_0 V_0
        obtain ⟨x0, x1, x2, _⟩ := HX_6.out
        obtain ⟨u0, u1, u2, _⟩ := HZ_6.out
        go_wp2_with fail
        refine (eqP_any HH_6.out HW_6.out (by omega)).mono ?_
        rintro e v7 ⟨rfl, hb⟩
        clear x0 x1 x2 u0 u1 u2
        have HY_7 := Lib.hid (HY_6.out.below hb)
        have HO_7 := Lib.hid (HO_6.out.below hb)
        have HB_7 := Lib.hid (bt HB_6.out hb)
        clear hb HX_6 HW_6 HY_6 HO_6 HB_6 HZ_6 HH_6
        obtain ⟨y0, y1, y2, _⟩ := HY_7.out
        go_wp2_with fail
        refine (heldP_any HO_7.out (by omega) (by omega) (by omega)).mono ?_
        rintro e v8 ⟨rfl, hb⟩
        have HB_8 := Lib.hid (bt HB_7.out hb)
        clear hb y0 y1 y2
        go_wp2
        go_ret
        exact ⟨rfl, HB_8.out⟩

/-! ### The row's step -/
set_option maxRecDepth 100000 in
theorem lifted (os : Os) (started : os.Started) (H : Type) (enc : TypeId × Value → H) :
    ReturnsInHanded {} Try.checked os 9 .any (Rows.fnExactProveEqualSpec.pre6 enc Try.prog Try.f9 Rows.fnExactProveEqualRow.domain false) (Rows.fnExactProveEqualSpec.post enc Try.prog Try.f9 false true false false) := by
  refine returnsInHanded_of_change (C := Try.checked) own started (by kernel_rfl) Try.func9
    (ChangeSpec.witness6 (enc := enc) (C := Try.checked) false ⟨#[], #[.agg #[.int .i64 0, .int .i64 0, .int .i64 0], .string ByteArray.empty, .agg #[.int .i64 0, .int .i64 0, .int .i64 0, .int .i64 0], .int .i64 0, .int .i64 0], []⟩ 8 (by kernel_rfl) (by kernel_rfl) (by kernel_rfl) (by kernel_rfl)) ?_
  intro W base args ds gs before hval0 hW hcnd _
  have hval : ∀ (j : Nat) t v, Try.f9.params[j]? = some t → args[j]? = some v → Value.okWide Try.prog W .any base t v := hval0
  have hW' := hW
  obtain ⟨p, q, hA0, hV, rfl, hfz, hnd⟩ := hW
  have hA : DataW.TrodAll enc Try.prog W 0 (fun _ => true) true Try.f9.params.toList args.toList ds p := hA0
  rw [Try.params9] at hA hval
  obtain ⟨v0, vs0, d0, ds0, p0, q0, hargs, rfl, rfl, h0, r0⟩ := trodAll_cons hA
  obtain ⟨v1, vs1, d1, ds1, p1, q1, rfl, rfl, rfl, h1, r1⟩ := trodAll_cons r0
  obtain ⟨v2, vs2, d2, ds2, p2, q2, rfl, rfl, rfl, h2, r2⟩ := trodAll_cons r1
  obtain ⟨v3, vs3, d3, ds3, p3, q3, rfl, rfl, rfl, h3, r3⟩ := trodAll_cons r2
  obtain ⟨v4, vs4, d4, ds4, p4, q4, rfl, rfl, rfl, h4, r4⟩ := trodAll_cons r3
  obtain ⟨rfl, rfl, rfl⟩ := trodAll_nil r4
  obtain rfl : args = #[v0, v1, v2, v3, v4] := by cases args; simp_all
  obtain ⟨rfl, rfl⟩ := trodVars_none hV
  have k0 := h0
  have lt0 : ∀ x ∈ p0, x.block < W.heap.size := by obtain ⟨m, hm⟩ := k0; exact DataW.trod_lt m _ _ _ hm
  obtain ⟨c0_0, c0_1, c0_2, y0_0, y0_1, y0_2, m0, rfl, rfl, rfl, hy0_0, hy0_1, hy0_2⟩ := open_agg3 Try.underlying23 (by kernel_rfl) (by kernel_rfl) (hval 0 23 v0 rfl rfl) h0
  obtain ⟨P0, e0_0, _, wP0⟩ := DataW.trod_int Try.underlying3 hy0_0
  obtain rfl := (List.cons.inj e0_0).1
  obtain ⟨Q0, e0_1, _, wQ0⟩ := DataW.trod_int Try.underlying3 hy0_1
  obtain rfl := (List.cons.inj e0_1).1
  obtain ⟨G0, e0_2, _, wG0⟩ := DataW.trod_int Try.underlying3 hy0_2
  obtain rfl := (List.cons.inj e0_2).1
  obtain ⟨a1, rfl, rfl, rfl, w1⟩ := open_string Try.underlying9 (hval 1 9 v1 rfl rfl) h1
  have k2 := h2
  have lt2 : ∀ x ∈ p2, x.block < W.heap.size := by obtain ⟨m, hm⟩ := k2; exact DataW.trod_lt m _ _ _ hm
  obtain ⟨c2_0, c2_1, c2_2, c2_3, y2_0, y2_1, y2_2, y2_3, m2, rfl, rfl, rfl, hy2_0, hy2_1, hy2_2, hy2_3⟩ := open_agg4 Try.underlying45 (by kernel_rfl) (by kernel_rfl) (hval 2 45 v2 rfl rfl) h2
  obtain ⟨G12, e2_0, _, wG12⟩ := DataW.trod_int Try.underlying3 hy2_0
  obtain rfl := (List.cons.inj e2_0).1
  obtain ⟨Y12, e2_1, _, wY12⟩ := DataW.trod_int Try.underlying3 hy2_1
  obtain rfl := (List.cons.inj e2_1).1
  obtain ⟨G22, e2_2, _, wG22⟩ := DataW.trod_int Try.underlying3 hy2_2
  obtain rfl := (List.cons.inj e2_2).1
  obtain ⟨Y22, e2_3, _, wY22⟩ := DataW.trod_int Try.underlying3 hy2_3
  obtain rfl := (List.cons.inj e2_3).1
  obtain ⟨a3, rfl, rfl, rfl, w3⟩ := open_int Try.underlying3 (hval 3 3 v3 rfl rfl) h3
  obtain ⟨a4, rfl, rfl, rfl, w4⟩ := open_int Try.underlying3 (hval 4 3 v4 rfl rfl) h4
  clear hA0 hval0
  refine (walk P0 Q0 G0 a1 G12 Y12 G22 Y22 a3 a4 W wP0 wQ0 wG0 w1 wG12 wY12 wG22 wY22 w3 w4).mono fun e W' ⟨he, bel⟩ => ?_
  subst he
  exact ⟨_, rfl, _, _, _, [], _, [], hW', trodAll_mk1 (shut_bool Try.underlying4 _), (trodAll_cons_mk (Below.trod laidOut (by kernel_rfl) (of_decide_eq_true (by kernel_rfl)) k0 bel lt0) (trodAll_cons_mk (shut_string Try.underlying9 w1) (trodAll_cons_mk (Below.trod laidOut (by kernel_rfl) (of_decide_eq_true (by kernel_rfl)) k2 bel lt2) (trodAll_cons_mk (shut_int Try.underlying3 w3) (trodAll_cons_mk (shut_int Try.underlying3 w4) trodAll_mk0))))), rfl, bel.frame _, fun h => by cases h⟩

theorem over : Rows.fnExactProveEqualRow.holds Try.pinned (OpenSpec.ofChange Rows.fnExactProveEqualSpec) :=
  OpenClaim.holds_of_wide 9 Try.f9 rfl rfl rfl rfl rfl rfl rfl ⟨rfl, rfl, rfl, rfl, rfl⟩ rfl rfl rfl rfl rfl (by kernel_rfl) Try.func9
    (show joinedFacts Try.prog 9 Try.f9 Rows.fnExactProveEqualSpec Rows.fnExactProveEqualRow = true by unfold joinedFacts; rw [Head.make, Head.lifts, Head.enters]; kernel_rfl)
    (of_decide_eq_true (by kernel_rfl)) (by unfold Func.isWrapper; first | (rw [if_pos (by decide +kernel)]; kernel_rfl) | (rw [if_neg (by decide +kernel)]; exact ⟨rfl, rfl⟩))
    (fun os started H enc _ => lifted os started H enc)

/-- The statement. -/
theorem proved : Rows.FnExactProveEqualSaid := over
#print axioms proved
end Go.Proofs.Ytdaekpfngphefaa.fnExactProveEqual
