/- What the laws of layer 2 draw: the Draw functions that hand out a group. -/
import Derived.Test.YtkpfmpndaenclaaDrG6
import Derived.Deep.RegionHeld3
namespace Go.Proofs.Ytkpfmpndaenclaa
open Go.RowKit

def DrawGroup (w : World) (e : Ending) (w' : World) : Prop :=
  ∃ P Q G : Int, e = .returned (gv P Q G) ∧ DB P Q G ∧ Below w.heap.size w w'
def DrawGroupNum (w : World) (e : Ending) (w' : World) : Prop :=
  ∃ P Q G x : Int, e = .returned (.tuple #[gv P Q G, .int .i64 x]) ∧ DB P Q G ∧ (-8 ≤ x ∧ x ≤ 2000000000) ∧ Below w.heap.size w w'

theorem cur_at (w : World) (b : Nat) (hw : w.heap.size = b) (ad : Option Addr) (n cap : Nat) (hb : IsB w ad n) (t : TypeId) : Cur (w.alloc (.cells #[.slice ad n cap, .int .i64 0, .int .u64 0] t)) b 0 := by
  subst hw; exact cur_new w ad n cap hb t
theorem below_at {w a b : World} {g : Nat} (h : Below w.heap.size w a) (hg : a.grownBy b (some g)) (hge : w.heap.size ≤ g) : Below w.heap.size w b :=
  h.grown hg h.size (fun k hk => by cases hk; exact hge)
theorem own3_at (w : World) (b : Nat) (hw : w.heap.size = b) (P Q G : Int) (t : TypeId) : Own3 (w.alloc (.cells #[.int .i64 P, .int .i64 Q, .int .i64 G] t)) b P Q G := by
  subst hw; exact own3_new w P Q G t

theorem Own3.drew {w : World} {b : Nat} {P Q G : Int} (h : Own3 w b P Q G) : Own3 w.drew b P Q G := h
theorem GR.oth {w : World} {b : Nat} {P Q G : Int} (h : GR w b P Q G) (a : Addr) (v : Value) (hne : a.block ≠ b) : GR (w.setCell a v) b P Q G := by
  obtain ⟨c0, c1, c2⟩ := h
  refine ⟨?_, ?_, ?_⟩
  · rw [World.cell?_setCell_other _ _ _ _ (fun e => hne (by rw [e]))]; exact c0
  · rw [World.cell?_setCell_other _ _ _ _ (fun e => hne (by rw [e]))]; exact c1
  · rw [World.cell?_setCell_other _ _ _ _ (fun e => hne (by rw [e]))]; exact c2
theorem gr_after {w : World} {b c : Nat} {P Q G : Int} (h : GR w b P Q G) (hne : c ≠ b) (x y z : Value) : GR (((w.setCell ⟨c, 0, none⟩ x).setCell ⟨c, 1, none⟩ y).setCell ⟨c, 2, none⟩ z) b P Q G :=
  ((h.oth _ _ hne).oth _ _ hne).oth _ _ hne

set_option maxRecDepth 100000 in
set_option maxHeartbeats 1000000 in
theorem drawIsValidGroup_any (ad : Option Addr) (n cap : Nat) (w : World) (hb : IsB w ad n) :
    Calls Try.prog 78 #[.slice ad n cap] w (DrawGroup w) := by
  have hal := ba w (.cells #[.int .i64 0, .int .i64 0, .int .i64 0] 24)
  have HC := Lib.hid (cur_at (w.alloc (.cells #[.int .i64 0, .int .i64 0, .int .i64 0] 24)) (w.heap.size + 1) (by simp) ad n cap (hb.below hal) 67)
  have hal2 := ba (w.alloc (.cells #[.int .i64 0, .int .i64 0, .int .i64 0] 24)) (.cells #[.slice ad n cap, .int .i64 0, .int .u64 0] 67)
  have HB := Lib.hid (bt hal hal2)
  have HO := Lib.hid ((own3_new w 0 0 0 24).below hal2)
  clear hb hal hal2
  go_enter Try.func78, Try.ntmps78
  go_wp2_with fail
  refine (anyGroup_any (w.heap.size + 1) 0 (Nat.zero_le _) _ HC.out).mono ?_
  rintro e w1 ⟨P, Q, G, rfl, hd, _, hg1⟩
  have HB1 := Lib.hid (below_at HB.out hg1 (by omega))
  have HO1 := Lib.hid (HO.out.grown hg1 (by omega))
  have HD := Lib.hid hd
  clear hg1 hd
  obtain ⟨⟨d0, d1, d2⟩, df⟩ := HO1.out
  have df0 := df 0
  have df1 := df 1
  have df2 := df 2
  clear df
  go_wp2
  (try simp only [Exit.inBlock, Exit.then])
  refine bodyPost_ret (v := gv P Q G) ?_ rfl ⟨P, Q, G, rfl, HD.out, ?_⟩
  · rw [results_cell_one rfl]; go_simp
  · exact ((HB1.out.setCell (Nat.le_refl _) _).setCell (Nat.le_refl _) _).setCell (Nat.le_refl _) _

set_option maxHeartbeats 1000000 in
theorem drawElementsOf_any (ad : Option Addr) (n cap : Nat) (w : World) (hb : IsB w ad n) :
    Calls Try.prog 28 #[.slice ad n cap] w (DrawGroup w) := by
  have hal := ba w (.cells #[.int .i64 0, .int .i64 0, .int .i64 0] 24)
  have HI := Lib.hid (hb.below hal)
  have HB := Lib.hid hal
  have HO := Lib.hid (own3_new w 0 0 0 24)
  clear hb hal
  go_enter Try.func28, Try.ntmps28
  go_wp2_with fail
  refine (drawIsValidGroup_any _ _ _ _ HI.out).mono ?_
  rintro e w1 ⟨P, Q, G, rfl, hd, hb1⟩
  have HB1 := Lib.hid (bt HB.out hb1)
  have HO1 := Lib.hid (HO.out.below hb1)
  have HD := Lib.hid hd
  clear hb1 hd
  obtain ⟨⟨d0, d1, d2⟩, df⟩ := HO1.out
  have df0 := df 0
  have df1 := df 1
  have df2 := df 2
  clear df
  go_wp2
  (try simp only [Exit.inBlock, Exit.then])
  refine bodyPost_ret (v := gv P Q G) ?_ rfl ⟨P, Q, G, rfl, HD.out, ?_⟩
  · rw [results_cell_one rfl]; go_simp
  · exact ((HB1.out.setCell (Nat.le_refl _) _).setCell (Nat.le_refl _) _).setCell (Nat.le_refl _) _

set_option maxRecDepth 100000 in
set_option maxHeartbeats 4000000 in
theorem drawInverseOf_any (ad : Option Addr) (n cap : Nat) (w : World) (hb : IsB w ad n) :
    Calls Try.prog 12 #[.slice ad n cap] w (DrawGroupNum w) := by
  have hal := ba w (.cells #[.int .i64 0, .int .i64 0, .int .i64 0] 24)
  have HC := Lib.hid (cur_at (w.alloc (.cells #[.int .i64 0, .int .i64 0, .int .i64 0] 24)) (w.heap.size + 1) (by simp) ad n cap (hb.below hal) 67)
  have hal2 := ba (w.alloc (.cells #[.int .i64 0, .int .i64 0, .int .i64 0] 24)) (.cells #[.slice ad n cap, .int .i64 0, .int .u64 0] 67)
  have HB := Lib.hid (bt hal hal2)
  have HO := Lib.hid ((own3_new w 0 0 0 24).below hal2)
  clear hb hal hal2
  go_enter Try.func12, Try.ntmps12
  go_wp2_with fail
  refine (anyGroup_any (w.heap.size + 1) 0 (Nat.zero_le _) _ HC.out).mono ?_
  rintro e w1 ⟨P, Q, G, rfl, hd, hc1, hg1⟩
  obtain ⟨⟨p0, p1⟩, ⟨q0, q1⟩, g0, g1⟩ := hd
  have hal3 := ba w1 (.cells #[.int .i64 P, .int .i64 Q, .int .i64 G] 24)
  have hs1 : w.heap.size + 1 < w1.heap.size := hc1.lt
  have hne : w1.heap.size ≠ w.heap.size + 1 := by omega
  have hne0 : w1.heap.size ≠ w.heap.size := by omega
  have HC1 := Lib.hid (hc1.below hal3)
  have HB1 := Lib.hid (bt (below_at HB.out hg1 (by omega)) hal3)
  have HO1 := Lib.hid ((HO.out.grown hg1 (by omega)).below hal3)
  have HV1 := Lib.hid (gr_new w1 P Q G 24)
  obtain ⟨v0, v1, v2⟩ := HV1.out
  clear hg1 hc1 hal3
  go_wp2_with fail
  go_region_held3 (fun w' => w'.cell? ⟨w1.heap.size, 0, none⟩ = some (.int .i64 P) ∧ w'.cell? ⟨w1.heap.size, 1, none⟩ = some (.int .i64 Q) ∧ w'.cell? ⟨w1.heap.size, 2, none⟩ = some (.int .i64 G)) (first | exact ⟨v0, v1, v2⟩ | exact ⟨x0, x1, x2⟩ | exact gr_after HV2.out (Ne.symm hne0) _ _ _ | exact gr_after (GR.drew HV2.out) (Ne.symm hne0) _ _ _) ((first
    | (go_at_call 54; refine (anyElement_any (w.heap.size + 1) 12 (by decide) P Q G p0 p1 q0 q1 g0 g1 _ (by first | exact HC1.out | exact HC1.out.drew)).mono ?_; rintro e w2 ⟨x, rfl, hx, _, hg2⟩; have HX := Lib.hid hx; have HB2 := Lib.hid (show Below w.heap.size w w2 from by first | exact below_at HB1.out hg2 (by omega) | exact below_at HB1.out.drew hg2 (by omega)); have HV2 := Lib.hid (show GR w2 w1.heap.size P Q G from by first | exact HV1.out.grown hg2 hne | exact GR.grown (GR.drew HV1.out) hg2 hne); obtain ⟨x0, x1, x2⟩ := HV2.out; have HO2 := Lib.hid (show Own3 w2 w.heap.size 0 0 0 from by first | exact HO1.out.grown hg2 (by omega) | exact Own3.grown (Own3.drew HO1.out) hg2 (by omega)); obtain ⟨⟨d0, d1, d2⟩, df⟩ := HO2.out; have df0 := df 0; have df1 := df 1; have df2 := df 2; clear df hg2 hx)))
  all_goals (
    go_wp2
    (try simp only [Exit.inBlock, Exit.then])
    refine bodyPost_ret (v := .tuple #[gv P Q G, .int .i64 x]) ?_ rfl ⟨P, Q, G, x, rfl, ⟨⟨p0, p1⟩, ⟨q0, q1⟩, g0, g1⟩, HX.out, ?_⟩
    · rw [results_cell_tmp rfl]; go_simp
    · first | exact ((HB2.out.setCell (Nat.le_refl _) _).setCell (Nat.le_refl _) _).setCell (Nat.le_refl _) _ | exact (((HB2.out.drew).setCell (Nat.le_refl _) _).setCell (Nat.le_refl _) _).setCell (Nat.le_refl _) _)

end Go.Proofs.Ytkpfmpndaenclaa

