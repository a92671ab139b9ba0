/-
For every group and every further argument the law FnExactPowCipher returns true: the program's PowCipher answers as the reference's does.
No condition.
-/
import Derived.Test.YtafoenoilcgjdaaRows
import Derived.WalkKit
import Derived.ProofKit
import Derived.OpenShut
import Derived.ShutString
import Derived.ChangeOld
import Derived.Below
import Derived.Lib.SmallJoins
import Derived.Test.YtafoenoilcgjdaaElI
import Derived.Deep.DeepCutAuto
import Derived.Test.YtafoenoilcgjdaaElM
import Derived.Test.YtafoenoilcgjdaaFacts
namespace Go.Proofs.Ytafoenoilcgjdaa.fnExactPowCipher
open Go.Joins Go.ChangeShapes Go.WideShapes Go.ChangeAt Go.RowKit Go.Deep
open Go.ChangeMaps (open_string shut_string)
set_option linter.unusedVariables false

theorem own : ownKnob Try.prog.godebug = none := by kernel_rfl
theorem laidOut : laidOutB Try.prog = true := by kernel_rfl

/-- What the walk is told of a slice of integers that came in: it is nil; or it leads to a row of 'cap' cells that hold the numbers 'zs'. -/
def IsRow (k : IntKind) (w : World) (a : Option Addr) (len cap : Nat) (zs : List Int) : Prop :=
  (a = none ∧ len = 0 ∧ cap = 0 ∧ zs = []) ∨
  ∃ x, a = some x ∧ len ≤ cap ∧ cap ≤ maxLen ∧ zs.length = cap ∧ (∀ i, i < zs.length → w.cell? (x.add i) = some (.int k (zs.getD i 0))) ∧ ∀ n ∈ zs, (Lit.int k n).wf = true

/-- A variable that is laid while a region is under way, not written yet: it lies above n. -/
def VarZ (w : World) (b n : Nat) : Prop := C2 w b 0 0 ∧ n < b
theorem VarZ.below {w w' : World} {b n : Nat} (h : VarZ w b n) (hb : Below w.heap.size w w') : VarZ w' b n := ⟨h.1.below hb, h.2⟩
theorem varz_new {w w' : World} {n : Nat} {x y : Int} {t : TypeId} (h : C2 w n x y) (hb : Below (w.alloc (.cells #[.int .i64 0, .int .i64 0] t)).heap.size (w.alloc (.cells #[.int .i64 0, .int .i64 0] t)) w') : VarZ w' w.heap.size n := ⟨(c2_new w 0 0 t).below hb, h.lt⟩
theorem varz_drop {w w' : World} {n b : Nat} {x y : Int} {t : TypeId} (h : C2 w n x y) (e : w.heap.size = b) (hb : Below (w.alloc (.cells #[.int .i64 0, .int .i64 0] t)).drew.heap.size (w.alloc (.cells #[.int .i64 0, .int .i64 0] t)).drew w') : VarZ w' b n := e ▸ ⟨C2.below (w := (w.alloc (.cells #[.int .i64 0, .int .i64 0] t)).drew) (c2_new w 0 0 t) hb, h.lt⟩
theorem c2_pair {w : World} {b c : Nat} {x y : Int} (h : C2 w b x y) (hne : c ≠ b) (u v : Value) : C2 ((w.setCell ⟨c, 0, none⟩ u).setCell ⟨c, 1, none⟩ v) b x y := (h.other _ _ hne).other _ _ hne

/-! ### STEP 1: the walk: the Go text returns true and writes nothing that was there -/
set_option maxRecDepth 100000 in
set_option maxHeartbeats 3200000 in
theorem walk (P0 Q0 G0 : Int) (A1 B1 : Int) (a2 : Int) (w : World) (wP0 : (Lit.int .i64 P0).wf = true) (wQ0 : (Lit.int .i64 Q0).wf = true) (wG0 : (Lit.int .i64 G0).wf = true) (wA1 : (Lit.int .i64 A1).wf = true) (wB1 : (Lit.int .i64 B1).wf = true) (w2 : (Lit.int .i64 a2).wf = true) :
    Calls Try.prog 8 #[.agg #[.int .i64 P0, .int .i64 Q0, .int .i64 G0], .agg #[.int .i64 A1, .int .i64 B1], .int .i64 a2] w fun e w' => e = .returned (.bool true) ∧ Below w.heap.size w w' := by
  have hal := ba (w.alloc (.cells #[.int .i64 P0, .int .i64 Q0, .int .i64 G0] 23)) (.cells #[.int .i64 A1, .int .i64 B1] 66)
  have HB_0 := Lib.hid (bt (ba w (.cells #[.int .i64 P0, .int .i64 Q0, .int .i64 G0] 23)) hal)
  have G_0 := Lib.hid (GR.below (gr_new w P0 Q0 G0 23) hal)
  have C_0 := Lib.hid (c2_at (w.alloc (.cells #[.int .i64 P0, .int .i64 Q0, .int .i64 G0] 23)) (w.heap.size + 1) (by simp) A1 B1 66)
  clear hal
  go_enter Try.func8, Try.ntmps8
  go_upto_region 1 with fail
  go_cut [7, 8] (fun s1 s2 wx => ∃ b : Nat, s1 = .pointer (some ⟨b, 0, none⟩) ∧ s2 = .bool (pcB P0 Q0 G0 A1 B1 a2) ∧ C2 wx b (pcA P0 Q0 G0 A1 B1 a2) (pcM P0 Q0 G0 A1 B1 a2) ∧ GR wx w.heap.size P0 Q0 G0 ∧ C2 wx (w.heap.size + 1) A1 B1 ∧ Below w.heap.size w wx ∧ w.heap.size + 1 < b)
  case first =>
    obtain ⟨c0, c1, c2⟩ := G_0.out
    obtain ⟨ca0, ca1, _⟩ := C_0.out
    go_region_held3 (fun w' => w'.cell? ⟨w.heap.size, 0, none⟩ = some (.int .i64 P0) ∧ w'.cell? ⟨w.heap.size, 1, none⟩ = some (.int .i64 Q0) ∧ w'.cell? ⟨w.heap.size, 2, none⟩ = some (.int .i64 G0) ∧ w'.cell? ⟨w.heap.size + 1, 0, none⟩ = some (.int .i64 A1) ∧ w'.cell? ⟨w.heap.size + 1, 1, none⟩ = some (.int .i64 B1)) (first | with_reducible exact ⟨x0, x1, x2, y0, y1⟩ | with_reducible exact ⟨cell_pair x0 (by omega) _ _, cell_pair x1 (by omega) _ _, cell_pair x2 (by omega) _ _, cell_pair y0 (by omega) _ _, cell_pair y1 (by omega) _ _⟩ | exact ⟨x0, x1, x2, y0, y1⟩ | exact ⟨c0, c1, c2, ca0, ca1⟩ | exact ⟨((HGp.out.below (ba _ _))).1, ((HGp.out.below (ba _ _))).2.1, ((HGp.out.below (ba _ _))).2.2, (HCp.out.below (ba _ _)).1, (HCp.out.below (ba _ _)).2.1⟩ | exact ⟨(gr_drop G_0.out (ba _ _)).1, (gr_drop G_0.out (ba _ _)).2.1, (gr_drop G_0.out (ba _ _)).2.2, (c2_drop C_0.out (ba _ _)).1, (c2_drop C_0.out (ba _ _)).2.1⟩) ((first
      | (go_at_call 13; refine (toGroup_any _ _ _ _).mono ?_; rintro e vp ⟨rfl, hp⟩; (first | (have HLp := Lib.hid (HLp.out.below hp)) | (have HLp := Lib.hid (by with_reducible exact varz_new HCp.out hp)) | (have HLp := Lib.hid (by with_reducible exact varz_drop (b := w.heap.size + 1 + 1) C_0.out (by simp) hp)) | skip); have HBp := Lib.hid (show Below w.heap.size w vp from by first | exact bt HBp.out hp | exact bt (bt HBp.out (ba _ _)) hp | exact bt_drop HB_0.out hp | exact bt_drop (bt HB_0.out (ba _ _)) hp | exact bt (bt_drop HB_0.out (ba _ _)) hp); have HGp := Lib.hid (show GR vp w.heap.size P0 Q0 G0 from by first | exact (HGp.out).below hp | exact (((HGp.out).below (ba _ _))).below hp | exact gr_drop G_0.out hp | exact gr_drop ((G_0.out).below (ba _ _)) hp | exact ((gr_drop G_0.out (ba _ _))).below hp); have HCp := Lib.hid (show C2 vp (w.heap.size + 1) A1 B1 from by first | exact (HCp.out).below hp | exact (((HCp.out).below (ba _ _))).below hp | exact c2_drop C_0.out hp | exact c2_drop ((C_0.out).below (ba _ _)) hp | exact ((c2_drop C_0.out (ba _ _))).below hp); clear hp; obtain ⟨x0, x1, x2⟩ := HGp.out; obtain ⟨y0, y1, _⟩ := HCp.out; (first | (obtain ⟨⟨l0, l1, lf⟩, ln⟩ := HLp.out; have lf0 := lf 0; have lf1 := lf 1; clear lf) | skip))
      | (go_at_call 44; refine (toCip_any _ _ _).mono ?_; rintro e vp ⟨rfl, hp⟩; (first | (have HLp := Lib.hid (HLp.out.below hp)) | (have HLp := Lib.hid (by with_reducible exact varz_new HCp.out hp)) | (have HLp := Lib.hid (by with_reducible exact varz_drop (b := w.heap.size + 1 + 1) C_0.out (by simp) hp)) | skip); have HBp := Lib.hid (show Below w.heap.size w vp from by first | exact bt HBp.out hp | exact bt (bt HBp.out (ba _ _)) hp | exact bt_drop HB_0.out hp | exact bt_drop (bt HB_0.out (ba _ _)) hp | exact bt (bt_drop HB_0.out (ba _ _)) hp); have HGp := Lib.hid (show GR vp w.heap.size P0 Q0 G0 from by first | exact (HGp.out).below hp | exact (((HGp.out).below (ba _ _))).below hp | exact gr_drop G_0.out hp | exact gr_drop ((G_0.out).below (ba _ _)) hp | exact ((gr_drop G_0.out (ba _ _))).below hp); have HCp := Lib.hid (show C2 vp (w.heap.size + 1) A1 B1 from by first | exact (HCp.out).below hp | exact (((HCp.out).below (ba _ _))).below hp | exact c2_drop C_0.out hp | exact c2_drop ((C_0.out).below (ba _ _)) hp | exact ((c2_drop C_0.out (ba _ _))).below hp); clear hp; obtain ⟨x0, x1, x2⟩ := HGp.out; obtain ⟨y0, y1, _⟩ := HCp.out; (first | (obtain ⟨⟨l0, l1, lf⟩, ln⟩ := HLp.out; have lf0 := lf 0; have lf1 := lf 1; clear lf) | skip))
      | (go_at_call 43; refine (sPowCipher_any P0 Q0 G0 A1 B1 a2 _).mono ?_; rintro e vp ⟨rfl, hp⟩; (first | (have HLp := Lib.hid (HLp.out.below hp)) | (have HLp := Lib.hid (by with_reducible exact varz_new HCp.out hp)) | (have HLp := Lib.hid (by with_reducible exact varz_drop (b := w.heap.size + 1 + 1) C_0.out (by simp) hp)) | skip); have HBp := Lib.hid (show Below w.heap.size w vp from by first | exact bt HBp.out hp | exact bt (bt HBp.out (ba _ _)) hp | exact bt_drop HB_0.out hp | exact bt_drop (bt HB_0.out (ba _ _)) hp | exact bt (bt_drop HB_0.out (ba _ _)) hp); have HGp := Lib.hid (show GR vp w.heap.size P0 Q0 G0 from by first | exact (HGp.out).below hp | exact (((HGp.out).below (ba _ _))).below hp | exact gr_drop G_0.out hp | exact gr_drop ((G_0.out).below (ba _ _)) hp | exact ((gr_drop G_0.out (ba _ _))).below hp); have HCp := Lib.hid (show C2 vp (w.heap.size + 1) A1 B1 from by first | exact (HCp.out).below hp | exact (((HCp.out).below (ba _ _))).below hp | exact c2_drop C_0.out hp | exact c2_drop ((C_0.out).below (ba _ _)) hp | exact ((c2_drop C_0.out (ba _ _))).below hp); clear hp; obtain ⟨x0, x1, x2⟩ := HGp.out; obtain ⟨y0, y1, _⟩ := HCp.out; (first | (obtain ⟨⟨l0, l1, lf⟩, ln⟩ := HLp.out; have lf0 := lf 0; have lf1 := lf 1; clear lf) | skip))
      | fail))
    all_goals (
      go_wp2_with fail
      go_meet
      first
        | exact ⟨_, rfl, rfl, HLp.out.1.set _ _, gr_pair HGp.out (by omega) _ _, c2_pair HCp.out (by omega) _ _, set_below HBp.out _ (by omega) _ _, HLp.out.2⟩
        | exact ⟨_, rfl, rfl, c2_new _ _ _ _, HGp.out.below (ba _ _), HCp.out.below (ba _ _), bt HBp.out (ba _ _), HCp.out.lt⟩)
  case rest =>
    clear HB_0 G_0 C_0
    obtain ⟨b, rfl, rfl, hX, hG, hC, hB, hb⟩ := hcut
    have X_0 := Lib.hid hX
    have G_0 := Lib.hid hG
    have C_0 := Lib.hid hC
    have HB_0 := Lib.hid hB
    clear hX hG hC hB
    go_upto_region 2 with fail
    go_cut [9, 10] (fun s1 s2 wx => ∃ b2 : Nat, s1 = .pointer (some ⟨b2, 0, none⟩) ∧ s2 = .bool (pcB P0 Q0 G0 A1 B1 a2) ∧ C2 wx b2 (pcA P0 Q0 G0 A1 B1 a2) (pcM P0 Q0 G0 A1 B1 a2) ∧ C2 wx b (pcA P0 Q0 G0 A1 B1 a2) (pcM P0 Q0 G0 A1 B1 a2) ∧ Below w.heap.size w wx)
    case first =>
      obtain ⟨c0, c1, c2⟩ := G_0.out
      obtain ⟨ca0, ca1, _⟩ := C_0.out
      go_region_held3 (fun w' => w'.cell? ⟨w.heap.size, 0, none⟩ = some (.int .i64 P0) ∧ w'.cell? ⟨w.heap.size, 1, none⟩ = some (.int .i64 Q0) ∧ w'.cell? ⟨w.heap.size, 2, none⟩ = some (.int .i64 G0) ∧ w'.cell? ⟨w.heap.size + 1, 0, none⟩ = some (.int .i64 A1) ∧ w'.cell? ⟨w.heap.size + 1, 1, none⟩ = some (.int .i64 B1)) (first | with_reducible exact ⟨x0, x1, x2, y0, y1⟩ | with_reducible exact ⟨cell_pair x0 (by omega) _ _, cell_pair x1 (by omega) _ _, cell_pair x2 (by omega) _ _, cell_pair y0 (by omega) _ _, cell_pair y1 (by omega) _ _⟩ | exact ⟨x0, x1, x2, y0, y1⟩ | exact ⟨c0, c1, c2, ca0, ca1⟩ | exact ⟨((HGp.out.below (ba _ _))).1, ((HGp.out.below (ba _ _))).2.1, ((HGp.out.below (ba _ _))).2.2, (HCp.out.below (ba _ _)).1, (HCp.out.below (ba _ _)).2.1⟩ | exact ⟨(gr_drop G_0.out (ba _ _)).1, (gr_drop G_0.out (ba _ _)).2.1, (gr_drop G_0.out (ba _ _)).2.2, (c2_drop C_0.out (ba _ _)).1, (c2_drop C_0.out (ba _ _)).2.1⟩) ((first
        | (go_at_call 13; refine (toGroup_any _ _ _ _).mono ?_; rintro e vp ⟨rfl, hp⟩; (first | (have HLp := Lib.hid (HLp.out.below hp)) | (have HLp := Lib.hid (by with_reducible exact varz_new HXp.out hp)) | (have HLp := Lib.hid (by with_reducible exact varz_drop (b := wc.heap.size) X_0.out (by rfl) hp)) | skip); have HBp := Lib.hid (show Below w.heap.size w vp from by first | exact bt HBp.out hp | exact bt (bt HBp.out (ba _ _)) hp | exact bt_drop HB_0.out hp | exact bt_drop (bt HB_0.out (ba _ _)) hp | exact bt (bt_drop HB_0.out (ba _ _)) hp); have HGp := Lib.hid (show GR vp w.heap.size P0 Q0 G0 from by first | exact (HGp.out).below hp | exact (((HGp.out).below (ba _ _))).below hp | exact gr_drop G_0.out hp | exact gr_drop ((G_0.out).below (ba _ _)) hp | exact ((gr_drop G_0.out (ba _ _))).below hp); have HCp := Lib.hid (show C2 vp (w.heap.size + 1) A1 B1 from by first | exact (HCp.out).below hp | exact (((HCp.out).below (ba _ _))).below hp | exact c2_drop C_0.out hp | exact c2_drop ((C_0.out).below (ba _ _)) hp | exact ((c2_drop C_0.out (ba _ _))).below hp); have HXp := Lib.hid (show C2 vp b (pcA P0 Q0 G0 A1 B1 a2) (pcM P0 Q0 G0 A1 B1 a2) from by first | exact (HXp.out).below hp | exact (((HXp.out).below (ba _ _))).below hp | exact c2_drop X_0.out hp | exact c2_drop ((X_0.out).below (ba _ _)) hp | exact ((c2_drop X_0.out (ba _ _))).below hp); clear hp; obtain ⟨x0, x1, x2⟩ := HGp.out; obtain ⟨y0, y1, _⟩ := HCp.out; (first | (obtain ⟨⟨l0, l1, lf⟩, ln⟩ := HLp.out; have lf0 := lf 0; have lf1 := lf 1; clear lf) | skip))
        | (go_at_call 44; refine (toCip_any _ _ _).mono ?_; rintro e vp ⟨rfl, hp⟩; (first | (have HLp := Lib.hid (HLp.out.below hp)) | (have HLp := Lib.hid (by with_reducible exact varz_new HXp.out hp)) | (have HLp := Lib.hid (by with_reducible exact varz_drop (b := wc.heap.size) X_0.out (by rfl) hp)) | skip); have HBp := Lib.hid (show Below w.heap.size w vp from by first | exact bt HBp.out hp | exact bt (bt HBp.out (ba _ _)) hp | exact bt_drop HB_0.out hp | exact bt_drop (bt HB_0.out (ba _ _)) hp | exact bt (bt_drop HB_0.out (ba _ _)) hp); have HGp := Lib.hid (show GR vp w.heap.size P0 Q0 G0 from by first | exact (HGp.out).below hp | exact (((HGp.out).below (ba _ _))).below hp | exact gr_drop G_0.out hp | exact gr_drop ((G_0.out).below (ba _ _)) hp | exact ((gr_drop G_0.out (ba _ _))).below hp); have HCp := Lib.hid (show C2 vp (w.heap.size + 1) A1 B1 from by first | exact (HCp.out).below hp | exact (((HCp.out).below (ba _ _))).below hp | exact c2_drop C_0.out hp | exact c2_drop ((C_0.out).below (ba _ _)) hp | exact ((c2_drop C_0.out (ba _ _))).below hp); have HXp := Lib.hid (show C2 vp b (pcA P0 Q0 G0 A1 B1 a2) (pcM P0 Q0 G0 A1 B1 a2) from by first | exact (HXp.out).below hp | exact (((HXp.out).below (ba _ _))).below hp | exact c2_drop X_0.out hp | exact c2_drop ((X_0.out).below (ba _ _)) hp | exact ((c2_drop X_0.out (ba _ _))).below hp); clear hp; obtain ⟨x0, x1, x2⟩ := HGp.out; obtain ⟨y0, y1, _⟩ := HCp.out; (first | (obtain ⟨⟨l0, l1, lf⟩, ln⟩ := HLp.out; have lf0 := lf 0; have lf1 := lf 1; clear lf) | skip))
        | (go_at_call 45; refine (powCipher_any P0 Q0 G0 A1 B1 a2 _).mono ?_; rintro e vp ⟨rfl, hp⟩; (first | (have HLp := Lib.hid (HLp.out.below hp)) | (have HLp := Lib.hid (by with_reducible exact varz_new HXp.out hp)) | (have HLp := Lib.hid (by with_reducible exact varz_drop (b := wc.heap.size) X_0.out (by rfl) hp)) | skip); have HBp := Lib.hid (show Below w.heap.size w vp from by first | exact bt HBp.out hp | exact bt (bt HBp.out (ba _ _)) hp | exact bt_drop HB_0.out hp | exact bt_drop (bt HB_0.out (ba _ _)) hp | exact bt (bt_drop HB_0.out (ba _ _)) hp); have HGp := Lib.hid (show GR vp w.heap.size P0 Q0 G0 from by first | exact (HGp.out).below hp | exact (((HGp.out).below (ba _ _))).below hp | exact gr_drop G_0.out hp | exact gr_drop ((G_0.out).below (ba _ _)) hp | exact ((gr_drop G_0.out (ba _ _))).below hp); have HCp := Lib.hid (show C2 vp (w.heap.size + 1) A1 B1 from by first | exact (HCp.out).below hp | exact (((HCp.out).below (ba _ _))).below hp | exact c2_drop C_0.out hp | exact c2_drop ((C_0.out).below (ba _ _)) hp | exact ((c2_drop C_0.out (ba _ _))).below hp); have HXp := Lib.hid (show C2 vp b (pcA P0 Q0 G0 A1 B1 a2) (pcM P0 Q0 G0 A1 B1 a2) from by first | exact (HXp.out).below hp | exact (((HXp.out).below (ba _ _))).below hp | exact c2_drop X_0.out hp | exact c2_drop ((X_0.out).below (ba _ _)) hp | exact ((c2_drop X_0.out (ba _ _))).below hp); clear hp; obtain ⟨x0, x1, x2⟩ := HGp.out; obtain ⟨y0, y1, _⟩ := HCp.out; (first | (obtain ⟨⟨l0, l1, lf⟩, ln⟩ := HLp.out; have lf0 := lf 0; have lf1 := lf 1; clear lf) | skip))
        | fail))
      all_goals (
        go_wp2_with fail
        go_meet
        first
          | exact ⟨_, rfl, rfl, HLp.out.1.set _ _, c2_pair HXp.out (by omega) _ _, set_below HBp.out _ (by omega) _ _⟩
          | exact ⟨_, rfl, rfl, c2_new _ _ _ _, HXp.out.below (ba _ _), bt HBp.out (ba _ _)⟩)
    case rest =>
      clear HB_0 G_0 C_0 X_0
      obtain ⟨b2, rfl, rfl, hY, hX, hB⟩ := hcut
      obtain ⟨d0, d1, _⟩ := hY
      obtain ⟨e0, e1, _⟩ := hX
      go_wp2_with fail
      refine (eqCip_same _ _ _).mono ?_
      rintro e u4 ⟨rfl, q1, q2, rfl⟩
      have HU4 := Lib.hid (bt (bt hB (ba _ (.cells q1 61))) (ba _ (.cells q2 61)))
      clear hB
      go_wp2
      go_ret
      exact ⟨rfl, HU4.out⟩

/-! ### The row's step -/
set_option maxRecDepth 100000 in
theorem lifted (os : Os) (started : os.Started) (H : Type) (enc : TypeId × Value → H) :
    ReturnsInHanded {} Try.checked os 8 .any (Rows.fnExactPowCipherSpec.pre6 enc Try.prog Try.f8 Rows.fnExactPowCipherRow.domain false) (Rows.fnExactPowCipherSpec.post enc Try.prog Try.f8 false true false false) := by
  refine returnsInHanded_of_change (C := Try.checked) own started (by kernel_rfl) Try.func8
    (ChangeSpec.witness6 (enc := enc) (C := Try.checked) false ⟨#[], #[.agg #[.int .i64 0, .int .i64 0, .int .i64 0], .agg #[.int .i64 0, .int .i64 0], .int .i64 0], []⟩ 8 (by kernel_rfl) (by kernel_rfl) (by kernel_rfl) (by kernel_rfl)) ?_
  intro W base args ds gs before hval0 hW hcnd _
  have hval : ∀ (j : Nat) t v, Try.f8.params[j]? = some t → args[j]? = some v → Value.okWide Try.prog W .any base t v := hval0
  have hW' := hW
  obtain ⟨p, q, hA0, hV, rfl, hfz, hnd⟩ := hW
  have hA : DataW.TrodAll enc Try.prog W 0 (fun _ => true) true Try.f8.params.toList args.toList ds p := hA0
  rw [Try.params8] at hA hval
  obtain ⟨v0, vs0, d0, ds0, p0, q0, hargs, rfl, rfl, h0, r0⟩ := trodAll_cons hA
  obtain ⟨v1, vs1, d1, ds1, p1, q1, rfl, rfl, rfl, h1, r1⟩ := trodAll_cons r0
  obtain ⟨v2, vs2, d2, ds2, p2, q2, rfl, rfl, rfl, h2, r2⟩ := trodAll_cons r1
  obtain ⟨rfl, rfl, rfl⟩ := trodAll_nil r2
  obtain rfl : args = #[v0, v1, v2] := by cases args; simp_all
  obtain ⟨rfl, rfl⟩ := trodVars_none hV
  have k0 := h0
  have lt0 : ∀ x ∈ p0, x.block < W.heap.size := by obtain ⟨m, hm⟩ := k0; exact DataW.trod_lt m _ _ _ hm
  obtain ⟨c0_0, c0_1, c0_2, y0_0, y0_1, y0_2, m0, rfl, rfl, rfl, hy0_0, hy0_1, hy0_2⟩ := open_agg3 Try.underlying23 (by kernel_rfl) (by kernel_rfl) (hval 0 23 v0 rfl rfl) h0
  obtain ⟨P0, e0_0, _, wP0⟩ := DataW.trod_int Try.underlying3 hy0_0
  obtain rfl := (List.cons.inj e0_0).1
  obtain ⟨Q0, e0_1, _, wQ0⟩ := DataW.trod_int Try.underlying3 hy0_1
  obtain rfl := (List.cons.inj e0_1).1
  obtain ⟨G0, e0_2, _, wG0⟩ := DataW.trod_int Try.underlying3 hy0_2
  obtain rfl := (List.cons.inj e0_2).1
  have k1 := h1
  have lt1 : ∀ x ∈ p1, x.block < W.heap.size := by obtain ⟨m, hm⟩ := k1; exact DataW.trod_lt m _ _ _ hm
  obtain ⟨c1_0, c1_1, y1_0, y1_1, m1, rfl, rfl, rfl, hy1_0, hy1_1⟩ := open_agg2 Try.underlying66 (by kernel_rfl) (by kernel_rfl) (hval 1 66 v1 rfl rfl) h1
  obtain ⟨A1, e1_0, _, wA1⟩ := DataW.trod_int Try.underlying3 hy1_0
  obtain rfl := (List.cons.inj e1_0).1
  obtain ⟨B1, e1_1, _, wB1⟩ := DataW.trod_int Try.underlying3 hy1_1
  obtain rfl := (List.cons.inj e1_1).1
  obtain ⟨a2, rfl, rfl, rfl, w2⟩ := open_int Try.underlying3 (hval 2 3 v2 rfl rfl) h2
  clear hA0 hval0
  refine (walk P0 Q0 G0 A1 B1 a2 W wP0 wQ0 wG0 wA1 wB1 w2).mono fun e W' ⟨he, bel⟩ => ?_
  subst he
  exact ⟨_, rfl, _, _, _, [], _, [], hW', trodAll_mk1 (shut_bool Try.underlying4 _), (trodAll_cons_mk (Below.trod laidOut (by kernel_rfl) (of_decide_eq_true (by kernel_rfl)) k0 bel lt0) (trodAll_cons_mk (Below.trod laidOut (by kernel_rfl) (of_decide_eq_true (by kernel_rfl)) k1 bel lt1) (trodAll_cons_mk (shut_int Try.underlying3 w2) trodAll_mk0))), rfl, bel.frame _, fun h => by cases h⟩

theorem over : Rows.fnExactPowCipherRow.holds Try.pinned (OpenSpec.ofChange Rows.fnExactPowCipherSpec) :=
  OpenClaim.holds_of_wide 8 Try.f8 rfl rfl rfl rfl rfl rfl rfl ⟨rfl, rfl, rfl, rfl, rfl⟩ rfl rfl rfl rfl rfl (by kernel_rfl) Try.func8
    (show joinedFacts Try.prog 8 Try.f8 Rows.fnExactPowCipherSpec Rows.fnExactPowCipherRow = true by unfold joinedFacts; rw [Head.make, Head.lifts, Head.enters]; kernel_rfl)
    (of_decide_eq_true (by kernel_rfl)) (by unfold Func.isWrapper; first | (rw [if_pos (by decide +kernel)]; kernel_rfl) | (rw [if_neg (by decide +kernel)]; exact ⟨rfl, rfl⟩))
    (fun os started H enc _ => lifted os started H enc)

/-- The statement. -/
theorem proved : Rows.FnExactPowCipherSaid := over
#print axioms proved
end Go.Proofs.Ytafoenoilcgjdaa.fnExactPowCipher
