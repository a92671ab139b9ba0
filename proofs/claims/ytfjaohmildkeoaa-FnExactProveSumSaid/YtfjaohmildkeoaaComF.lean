/- Plain words for commitments, and where bases and their makers lie. -/
import Derived.Test.YtfjaohmildkeoaaGrG
import Derived.Test.YtfjaohmildkeoaaElA
import Derived.Test.YtfjaohmildkeoaaTyI
import Derived.Test.YtfjaohmildkeoaaSigA
import Derived.Deep.Slices
import Derived.OpenShut
import Derived.Lib.SmallJoins
import Derived.Test.YtfjaohmildkeoaaG7
import Derived.Deep.RegionHeld3
namespace Go.Proofs.Ytfjaohmildkeoaa
open Go.RowKit
set_option linter.unusedVariables false
set_option linter.unusedSimpArgs false

/-! ### Bases, commitments -/
def baB (P Q x : Int) : Bool := decide (x ≠ 1) && elB P Q x
def basB (P Q : Int) (zs : List Int) : Bool := decide (zs.length ≤ 24) && zs.all fun z => baB P Q z
def bsB (P Q G H : Int) (hs : List Int) : Bool := goodB P Q G && (baB P Q H && basB P Q hs)
theorem bs_true {P Q G H : Int} {hs : List Int} : bsB P Q G H hs = true ↔ goodB P Q G = true ∧ (H ≠ 1 ∧ elB P Q H = true) ∧ hs.length ≤ 24 ∧ ∀ z ∈ hs, z ≠ 1 ∧ elB P Q z = true := by
  simp [bsB, baB, basB]
theorem bs_good {P Q G H : Int} {hs : List Int} (h : bsB P Q G H hs = true) : goodB P Q G = true := (bs_true.1 h).1
theorem bs_H {P Q G H : Int} {hs : List Int} (h : bsB P Q G H hs = true) : elB P Q H = true := (bs_true.1 h).2.1.2
theorem bs_all {P Q G H : Int} {hs : List Int} (h : bsB P Q G H hs = true) : allEl P Q hs = true := by
  unfold allEl; rw [List.all_eq_true]; exact fun z hz => ((bs_true.1 h).2.2.2 z hz).2
def mpB (P Q G H : Int) (hs us xs : List Int) : Bool := bsB P Q G H hs && powsOk P Q us xs
def mpV (P Q G H : Int) (hs us xs : List Int) : Int := if mpB P Q G H hs us xs then powsFrom P 1 us xs else 0
def cmW (P G H m r : Int) : Int := Num.pow G m P * Num.pow H r P % P
def cmB (P Q G H : Int) (hs : List Int) (m r : Int) : Bool := bsB P Q G H hs && allIn [m, r] 0 (Q - 1)
def cmV (P Q G H : Int) (hs : List Int) (m r : Int) : Int := if cmB P Q G H hs m r then cmW P G H m r else 0
theorem pows_two {P a b x y : Int} (hP : 2 ≤ P) : powsFrom P 1 [a, b] [x, y] = Num.pow a x P * Num.pow b y P % P := by
  have h := pow_lt a x P hP
  show 1 * Num.pow a x P % P * Num.pow b y P % P = _
  rw [Int.one_mul, Int.emod_eq_of_lt h.1 h.2]
theorem mp_two (P Q G H m r : Int) (hs : List Int) : mpV P Q G H hs [G, H] [m, r] = cmV P Q G H hs m r ∧ mpB P Q G H hs [G, H] [m, r] = cmB P Q G H hs m r := by
  have e : mpB P Q G H hs [G, H] [m, r] = cmB P Q G H hs m r := by
    unfold mpB cmB
    cases h : bsB P Q G H hs
    · rfl
    · rw [powsOk_all P Q [G, H] [m, r] rfl, show allEl P Q [G, H] = true by simp [allEl, good_el (bs_good h), bs_H h]]; rfl
  refine ⟨?_, e⟩
  unfold mpV cmV
  rw [e]
  cases h : cmB P Q G H hs m r
  · rfl
  · have hb : bsB P Q G H hs = true := by unfold cmB at h; rw [Bool.and_eq_true] at h; exact h.1
    simp only [if_true]
    exact pows_two (good_mo (bs_good hb)).1.1

theorem cm_bs {P Q G H : Int} {hs : List Int} {m r : Int} (h : cmB P Q G H hs m r = true) : bsB P Q G H hs = true := by
  unfold cmB at h; rw [Bool.and_eq_true] at h; exact h.1
/-- Commitments to lists. -/
def cvB (P Q G H : Int) (hs l : List Int) (r : Int) : Bool := bsB P Q G H hs && (decide (l.length ≤ hs.length) && allIn (r :: l) 0 (Q - 1))
def cvW (P H : Int) (hs l : List Int) (r : Int) : Int := powsFrom P 1 (H :: hs.take l.length) (r :: l)
def cvV (P Q G H : Int) (hs l : List Int) (r : Int) : Int := if cvB P Q G H hs l r then cvW P H hs l r else 0
theorem cv_bs {P Q G H : Int} {hs l : List Int} {r : Int} (h : cvB P Q G H hs l r = true) : bsB P Q G H hs = true := by
  unfold cvB at h; rw [Bool.and_eq_true] at h; exact h.1
theorem all_take {P Q : Int} {zs : List Int} (h : allEl P Q zs = true) (k : Nat) : allEl P Q (zs.take k) = true := by
  unfold allEl at *
  rw [List.all_eq_true] at *
  exact fun z hz => h z (List.mem_of_mem_take hz)
theorem mp_vec (P Q G H : Int) (hs l : List Int) (r : Int) (hl : l.length ≤ hs.length) : mpV P Q G H hs ([H] ++ hs.take l.length) ([r] ++ l) = cvV P Q G H hs l r ∧ mpB P Q G H hs ([H] ++ hs.take l.length) ([r] ++ l) = cvB P Q G H hs l r := by
  have e : mpB P Q G H hs ([H] ++ hs.take l.length) ([r] ++ l) = cvB P Q G H hs l r := by
    unfold mpB cvB
    cases h : bsB P Q G H hs
    · rfl
    · have ha : allEl P Q (H :: hs.take l.length) = true := by
        have h1 := all_take (bs_all h) l.length
        unfold allEl at h1 ⊢
        rw [List.all_cons, bs_H h, h1]; rfl
      rw [List.singleton_append, List.singleton_append, powsOk_all P Q (H :: hs.take l.length) (r :: l) (by simp; omega), ha, decide_eq_true hl]
  refine ⟨?_, e⟩
  unfold mpV cvV
  rw [e]
  rfl
/-- Whether an element is the commitment. -/
def coB (P Q c : Int) (b : Bool) : Bool := b && elB P Q c
def coV (P Q c : Int) (b : Bool) (v : Int) : Bool := coB P Q c b && decide (c = v)
theorem InI.cap {B : Nat} {w : World} {ad : Option Addr} {n cap : Nat} {zs : List Int} (h : InI B w (.slice ad n cap) zs) : zs.length ≤ cap := by
  obtain ⟨h0, ad', cap', h1, h2, h3, h4⟩ := h
  simp only [Value.slice.injEq] at h1
  obtain ⟨_, _, rfl⟩ := h1
  exact h4

/-! ### Where they lie -/
def D2 (w : World) (b : Nat) (x y : Value) : Prop := w.cell? ⟨b, 0, none⟩ = some x ∧ w.cell? ⟨b, 1, none⟩ = some y
theorem d2_at (w : World) (b : Nat) (hb : w.heap.size = b) (x y : Value) (t : TypeId) : D2 (w.alloc (.cells #[x, y] t)) b x y := by
  subst hb; exact ⟨World.cell?_alloc_at _ _ _ _ rfl, World.cell?_alloc_at _ _ _ _ rfl⟩
theorem D2.lt {w : World} {b : Nat} {x y : Value} (h : D2 w b x y) : b < w.heap.size := World.block_lt_of_cell? w _ h.1
theorem D2.below {w w' : World} {b : Nat} {x y : Value} (h : D2 w b x y) (hb : Below w.heap.size w w') : D2 w' b x y := by
  have hl := h.lt
  exact ⟨by rw [hb.cell (p := ⟨b, 0, none⟩) hl]; exact h.1, by rw [hb.cell (p := ⟨b, 1, none⟩) hl]; exact h.2⟩
theorem D2.drew {w : World} {b : Nat} {x y : Value} (h : D2 w b x y) : D2 w.drew b x y := h
def D5 (w : World) (b : Nat) (P Q G H : Int) (y : Value) : Prop := GR w b P Q G ∧ w.cell? ⟨b, 3, none⟩ = some (.int .i64 H) ∧ w.cell? ⟨b, 4, none⟩ = some y
theorem d5_at (w : World) (b : Nat) (hb : w.heap.size = b) (P Q G H : Int) (y : Value) (t : TypeId) : D5 (w.alloc (.cells #[.int .i64 P, .int .i64 Q, .int .i64 G, .int .i64 H, y] t)) b P Q G H y := by
  subst hb
  exact ⟨⟨World.cell?_alloc_at _ _ _ _ rfl, World.cell?_alloc_at _ _ _ _ rfl, World.cell?_alloc_at _ _ _ _ rfl⟩, World.cell?_alloc_at _ _ _ _ rfl, World.cell?_alloc_at _ _ _ _ rfl⟩
theorem D5.below {w w' : World} {b : Nat} {P Q G H : Int} {y : Value} (h : D5 w b P Q G H y) (hb : Below w.heap.size w w') : D5 w' b P Q G H y := by
  have hl := h.1.lt
  exact ⟨h.1.below hb, by rw [hb.cell (p := ⟨b, 3, none⟩) hl]; exact h.2.1, by rw [hb.cell (p := ⟨b, 4, none⟩) hl]; exact h.2.2⟩
theorem D5.drew {w : World} {b : Nat} {P Q G H : Int} {y : Value} (h : D5 w b P Q G H y) : D5 w.drew b P Q G H y := h
theorem inI_at (w : World) (b : Nat) (hb : w.heap.size = b) (zs : List Int) (t : TypeId) : InI (w.alloc (.cells (zs.map (Value.int .i64)).toArray t)).heap.size (w.alloc (.cells (zs.map (Value.int .i64)).toArray t)) (.slice (some ⟨b, 0, none⟩) zs.length zs.length) zs := by
  subst hb
  exact InI.of (ints_spot w _ rfl zs t) (fun h => by cases h) (Nat.le_refl _)

end Go.Proofs.Ytfjaohmildkeoaa

/- Chapter 9, the program: bases, commitments, checks of openings. -/
namespace Go.Proofs.Ytfjaohmildkeoaa
open Go.RowKit
set_option linter.unusedVariables false
set_option linter.unusedSimpArgs false

theorem hasBase_any (P Q G x : Int) (hm : Mo P Q) (w : World) :
    Calls Try.prog 138 #[gv P Q G, .int .i64 x] w fun e w' => e = .returned (.bool (baB P Q x)) ∧ Below w.heap.size w w' := by
  have H0 := Lib.hid (gr_new w P Q G 24)
  obtain ⟨c0, c1, c2⟩ := H0.out
  by_cases h : x = 1
  · subst h
    have e1 : baB P Q 1 = false := by simp [baB]
    rw [e1]
    clear e1
    go_enter Try.func138, Try.ntmps138
    go_wp2
    go_ret
    exact ⟨rfl, ba _ _⟩
  · have e1 : baB P Q x = elB P Q x := by simp [baB, h]
    have hx : (x != 1) = true := by simpa using h
    rw [e1]
    clear e1 h
    go_enter Try.func138, Try.ntmps138
    go_wp2_with fail
    refine (hasElement_any P Q G x hm _).mono ?_
    rintro e w2 ⟨rfl, hb2⟩
    have HB2 := Lib.hid (bt (ba _ _) hb2)
    clear hb2
    go_wp2
    go_ret
    exact ⟨rfl, HB2.out⟩

set_option maxHeartbeats 1600000 in
theorem allBas_any (P Q G : Int) (hm : Mo P Q) (ad : Option Addr) (n cap : Nat) (zs : List Int) (hn : zs.length = n) (hl : n ≤ 1152921504606846976) (w : World) (hz : IsInts w ad zs) :
    Calls Try.prog 140 #[.slice ad n cap, .func (.func 138) #[gv P Q G] #[]] w fun e w' => e = .returned (.bool (zs.all fun z => baB P Q z)) ∧ Below w.heap.size w w' := by
  go_enter Try.func140, Try.ntmps140
  go_wp2
  go_loopw [6, 9] (fun _ K wr => ∃ k : Nat, k ≤ n ∧ K = .int .i64 k ∧ (zs.all fun z => baB P Q z) = ((zs.drop k).all fun z => baB P Q z) ∧ Below w.heap.size w wr) (fun _ K _ => n - (intOf K).toNat)
  case atStart => exact ⟨0, Nat.zero_le _, rfl, rfl, Below.refl _ _⟩
  case round =>
    obtain ⟨k, hk, rfl, he, hbel⟩ := hrel
    by_cases hkn : k < n
    · obtain ⟨b, off, z, rfl, hb, hc, hd⟩ := (hz.below hbel (Nat.le_refl _)).at (k := k) (by omega)
      have HS := Lib.hid (all_step hd he)
      have HB := Lib.hid hbel
      clear he hd hbel
      cases hi' : baB P Q z
      · have HI := Lib.hid hi'
        clear hi'
        go_wp2_with fail
        refine (hasBase_any P Q G z hm _).mono ?_
        rintro e w1 ⟨rfl, hb1⟩
        rw [HI.out]
        have HB1 := Lib.hid (bt HB.out hb1)
        clear hb1
        go_wp2
        go_ret
        exact ⟨by rw [HS.out.2 HI.out]; rfl, HB1.out⟩
      · have HI := Lib.hid hi'
        clear hi'
        go_wp2_with fail
        refine (hasBase_any P Q G z hm _).mono ?_
        rintro e w1 ⟨rfl, hb1⟩
        rw [HI.out]
        have HB1 := Lib.hid (bt HB.out hb1)
        clear hb1
        go_wp2
        go_roundw
        case rel => exact ⟨k + 1, by omega, by go_num, HS.out.1 HI.out, HB1.out⟩
        case measure => simp only [intOf]; omega
    · have HE := Lib.hid he
      have HB := Lib.hid hbel
      clear he hbel
      go_wp2
      go_ret
      refine ⟨?_, HB.out⟩
      rw [HE.out, List.drop_of_length_le (by omega)]; rfl

set_option maxHeartbeats 1600000 in
theorem listOfBas_any (P Q G : Int) (hm : Mo P Q) (ad : Option Addr) (n cap : Nat) (zs : List Int) (hn : zs.length = n) (hl : n ≤ 1152921504606846976) (w : World) (hz : IsInts w ad zs) :
    Calls Try.prog 139 #[.slice ad n cap, .func (.func 138) #[gv P Q G] #[]] w fun e w' => e = .returned (.bool (basB P Q zs)) ∧ Below w.heap.size w w' := by
  by_cases h24 : n ≤ 24
  · have h2i : (n : Int) ≤ 24 := by omega
    have hr : basB P Q zs = zs.all fun z => baB P Q z := by simp [basB, hn, h24]
    rw [hr]
    have HN := Lib.hid hn
    clear hr hn
    go_enter Try.func139, Try.ntmps139
    go_wp2_with fail
    refine (allBas_any P Q G hm ad n cap zs HN.out hl _ hz).mono ?_
    rintro e w1 ⟨rfl, hb1⟩
    have HB1 := Lib.hid hb1
    clear hb1
    go_wp2
    go_ret
    exact ⟨rfl, HB1.out⟩
  · have h2i : (24 : Int) < (n : Int) := by omega
    have hr : basB P Q zs = false := by simp [basB, hn]; omega
    rw [hr]
    clear hr
    go_enter Try.func139, Try.ntmps139
    go_wp2
    go_ret
    exact ⟨rfl, Below.refl _ _⟩


set_option maxRecDepth 100000 in
set_option maxHeartbeats 3200000 in
theorem isValidBases_any (P Q G H : Int) {B : Nat} {y : Value} {hs : List Int} (hl : hs.length ≤ 1152921504606846976) {w : World} (hy : InI B w y hs) :
    Calls Try.prog 95 #[gv P Q G, .agg #[.int .i64 H, y]] w fun e w' => e = .returned (.bool (bsB P Q G H hs)) ∧ Below w.heap.size w w' := by
  obtain ⟨ya, yc, rfl⟩ := hy.shape
  have G_0 := Lib.hid ((gr_at w (w.heap.size) (by simp) P Q G 24).below (ba (w.alloc (.cells #[.int .i64 P, .int .i64 Q, .int .i64 G] 24)) (.cells #[.int .i64 H, .slice ya hs.length yc] 53)))
  have V_0 := Lib.hid (d2_at (w.alloc (.cells #[.int .i64 P, .int .i64 Q, .int .i64 G] 24)) (w.heap.size + 1) (by simp) (.int .i64 H) (.slice ya hs.length yc) 53)
  have HB_0 := Lib.hid (show Below w.heap.size w ((w.alloc (.cells #[.int .i64 P, .int .i64 Q, .int .i64 G] 24)).alloc (.cells #[.int .i64 H, .slice ya hs.length yc] 53)) from bt (ba _ _) (ba _ _))
  have Y_0 := Lib.hid (hy.below HB_0.out)
  clear hy
  cases h0 : goodB P Q G
  · have K0 := Lib.hid (show goodB P Q G = false from h0)
    have E1 := Lib.hid (show bsB P Q G H hs = false by simp [bsB, h0])
    rw [E1.out]
    clear h0
    obtain ⟨gG0, gG1, gG2⟩ := G_0.out
    obtain ⟨cV0, cV1⟩ := V_0.out
    go_enter Try.func95, Try.ntmps95
    go_wp2_with fail
    refine (isValidGroup_any P Q G _).mono ?_
    rw [K0.out]
    rintro e v1 ⟨rfl, hb⟩
    have HB_1 := Lib.hid (bt HB_0.out hb)
    have G_1 := Lib.hid (G_0.out.below hb)
    have V_1 := Lib.hid (V_0.out.below hb)
    have Y_1 := Lib.hid (Y_0.out.below hb)
    clear hb gG0 gG1 gG2 cV0 cV1
    obtain ⟨gG0, gG1, gG2⟩ := G_1.out
    obtain ⟨cV0, cV1⟩ := V_1.out
    go_wp2
    go_ret
    exact ⟨rfl, HB_1.out⟩
  have K0 := Lib.hid (show goodB P Q G = true from h0)
  have hmo := good_mo h0
  cases h1 : baB P Q H
  · have K1 := Lib.hid (show baB P Q H = false from h1)
    have E1 := Lib.hid (show bsB P Q G H hs = false by simp [bsB, h0, h1])
    rw [E1.out]
    clear h0 h1
    obtain ⟨gG0, gG1, gG2⟩ := G_0.out
    obtain ⟨cV0, cV1⟩ := V_0.out
    go_enter Try.func95, Try.ntmps95
    go_wp2_with fail
    refine (isValidGroup_any P Q G _).mono ?_
    rw [K0.out]
    rintro e v1 ⟨rfl, hb⟩
    have HB_1 := Lib.hid (bt HB_0.out hb)
    have G_1 := Lib.hid (G_0.out.below hb)
    have V_1 := Lib.hid (V_0.out.below hb)
    have Y_1 := Lib.hid (Y_0.out.below hb)
    clear hb gG0 gG1 gG2 cV0 cV1
    obtain ⟨gG0, gG1, gG2⟩ := G_1.out
    obtain ⟨cV0, cV1⟩ := V_1.out
    go_wp2_with fail
    refine (hasBase_any P Q G H hmo _).mono ?_
    rw [K1.out]
    rintro e v2 ⟨rfl, hb⟩
    have HB_2 := Lib.hid (bt HB_1.out hb)
    have G_2 := Lib.hid (G_1.out.below hb)
    have V_2 := Lib.hid (V_1.out.below hb)
    have Y_2 := Lib.hid (Y_1.out.below hb)
    clear hb gG0 gG1 gG2 cV0 cV1
    obtain ⟨gG0, gG1, gG2⟩ := G_2.out
    obtain ⟨cV0, cV1⟩ := V_2.out
    go_wp2
    go_ret
    exact ⟨rfl, HB_2.out⟩
  have K1 := Lib.hid (show baB P Q H = true from h1)
  cases h2 : basB P Q hs
  · have K2 := Lib.hid (show basB P Q hs = false from h2)
    have E1 := Lib.hid (show bsB P Q G H hs = false by simp [bsB, h0, h1, h2])
    rw [E1.out]
    clear h0 h1 h2
    obtain ⟨gG0, gG1, gG2⟩ := G_0.out
    obtain ⟨cV0, cV1⟩ := V_0.out
    go_enter Try.func95, Try.ntmps95
    go_wp2_with fail
    refine (isValidGroup_any P Q G _).mono ?_
    rw [K0.out]
    rintro e v1 ⟨rfl, hb⟩
    have HB_1 := Lib.hid (bt HB_0.out hb)
    have G_1 := Lib.hid (G_0.out.below hb)
    have V_1 := Lib.hid (V_0.out.below hb)
    have Y_1 := Lib.hid (Y_0.out.below hb)
    clear hb gG0 gG1 gG2 cV0 cV1
    obtain ⟨gG0, gG1, gG2⟩ := G_1.out
    obtain ⟨cV0, cV1⟩ := V_1.out
    go_wp2_with fail
    refine (hasBase_any P Q G H hmo _).mono ?_
    rw [K1.out]
    rintro e v2 ⟨rfl, hb⟩
    have HB_2 := Lib.hid (bt HB_1.out hb)
    have G_2 := Lib.hid (G_1.out.below hb)
    have V_2 := Lib.hid (V_1.out.below hb)
    have Y_2 := Lib.hid (Y_1.out.below hb)
    clear hb gG0 gG1 gG2 cV0 cV1
    obtain ⟨gG0, gG1, gG2⟩ := G_2.out
    obtain ⟨cV0, cV1⟩ := V_2.out
    go_wp2_with fail
    refine (listOfBas_any P Q G hmo ya hs.length yc hs rfl hl _ (Y_2.out.ints).1).mono ?_
    rw [K2.out]
    rintro e v3 ⟨rfl, hb⟩
    have HB_3 := Lib.hid (bt HB_2.out hb)
    have G_3 := Lib.hid (G_2.out.below hb)
    have V_3 := Lib.hid (V_2.out.below hb)
    have Y_3 := Lib.hid (Y_2.out.below hb)
    clear hb gG0 gG1 gG2 cV0 cV1
    obtain ⟨gG0, gG1, gG2⟩ := G_3.out
    obtain ⟨cV0, cV1⟩ := V_3.out
    go_wp2
    go_ret
    exact ⟨rfl, HB_3.out⟩
  have K2 := Lib.hid (show basB P Q hs = true from h2)
  have E1 := Lib.hid (show bsB P Q G H hs = true by simp [bsB, h0, h1, h2])
  rw [E1.out]
  clear h0 h1 h2
  obtain ⟨gG0, gG1, gG2⟩ := G_0.out
  obtain ⟨cV0, cV1⟩ := V_0.out
  go_enter Try.func95, Try.ntmps95
  go_wp2_with fail
  refine (isValidGroup_any P Q G _).mono ?_
  rw [K0.out]
  rintro e v1 ⟨rfl, hb⟩
  have HB_1 := Lib.hid (bt HB_0.out hb)
  have G_1 := Lib.hid (G_0.out.below hb)
  have V_1 := Lib.hid (V_0.out.below hb)
  have Y_1 := Lib.hid (Y_0.out.below hb)
  clear hb gG0 gG1 gG2 cV0 cV1
  obtain ⟨gG0, gG1, gG2⟩ := G_1.out
  obtain ⟨cV0, cV1⟩ := V_1.out
  go_wp2_with fail
  refine (hasBase_any P Q G H hmo _).mono ?_
  rw [K1.out]
  rintro e v2 ⟨rfl, hb⟩
  have HB_2 := Lib.hid (bt HB_1.out hb)
  have G_2 := Lib.hid (G_1.out.below hb)
  have V_2 := Lib.hid (V_1.out.below hb)
  have Y_2 := Lib.hid (Y_1.out.below hb)
  clear hb gG0 gG1 gG2 cV0 cV1
  obtain ⟨gG0, gG1, gG2⟩ := G_2.out
  obtain ⟨cV0, cV1⟩ := V_2.out
  go_wp2_with fail
  refine (listOfBas_any P Q G hmo ya hs.length yc hs rfl hl _ (Y_2.out.ints).1).mono ?_
  rw [K2.out]
  rintro e v3 ⟨rfl, hb⟩
  have HB_3 := Lib.hid (bt HB_2.out hb)
  have G_3 := Lib.hid (G_2.out.below hb)
  have V_3 := Lib.hid (V_2.out.below hb)
  have Y_3 := Lib.hid (Y_2.out.below hb)
  clear hb gG0 gG1 gG2 cV0 cV1
  obtain ⟨gG0, gG1, gG2⟩ := G_3.out
  obtain ⟨cV0, cV1⟩ := V_3.out
  go_wp2
  go_ret
  exact ⟨rfl, HB_3.out⟩

set_option maxRecDepth 100000 in
set_option maxHeartbeats 3200000 in
theorem multiply_any (P Q G H : Int) {B : Nat} {y : Value} {hs : List Int} (hl : hs.length ≤ 1152921504606846976) {B1 B2 : Nat} {us xs : List Int} {u1 u2 : Value} (hul : bsB P Q G H hs = true → us.length ≤ 100) (hxl : xs.length = us.length) {w : World} (hy : InI B w y hs) (hu : InI B1 w u1 us) (hx : InI B2 w u2 xs) :
    Calls Try.prog 172 #[.agg #[.int .i64 P, .int .i64 Q, .int .i64 G, .int .i64 H, y], u1, u2] w fun e w' => e = .returned (.tuple #[.int .i64 (mpV P Q G H hs us xs), .bool (mpB P Q G H hs us xs)]) ∧ Below w.heap.size w w' := by
  obtain ⟨ya, yc, rfl⟩ := hy.shape
  obtain ⟨ua, uc, rfl⟩ := hu.shape
  obtain ⟨xa, xc, rfl⟩ := hx.shape
  rw [hxl]
  have K_0 := Lib.hid (d5_at w (w.heap.size) (by simp) P Q G H (.slice ya hs.length yc) 151)
  have HB_0 := Lib.hid (show Below w.heap.size w (w.alloc (.cells #[.int .i64 P, .int .i64 Q, .int .i64 G, .int .i64 H, .slice ya hs.length yc] 151)) from ba _ _)
  have Y_0 := Lib.hid (hy.below HB_0.out)
  have U_0 := Lib.hid (hu.below HB_0.out)
  have X_0 := Lib.hid (hx.below HB_0.out)
  rw [hxl] at X_0
  have HXL := Lib.hid hxl
  clear hy hu hx hxl
  cases h0 : bsB P Q G H hs
  · have K0 := Lib.hid (show bsB P Q G H hs = false from h0)
    have E1 := Lib.hid (show mpB P Q G H hs us xs = false by simp [mpB, h0])
    have E2 := Lib.hid (show mpV P Q G H hs us xs = 0 by simp [mpV, E1.out])
    rw [E1.out, E2.out]
    clear h0
    obtain ⟨⟨cK0, cK1, cK2⟩, cK3, cK4⟩ := K_0.out
    go_enter Try.func172, Try.ntmps172
    go_wp2_with fail
    refine (isValidBases_any P Q G H hl Y_0.out).mono ?_
    rw [K0.out]
    rintro e v1 ⟨rfl, hb⟩
    have HB_1 := Lib.hid (bt HB_0.out hb)
    have K_1 := Lib.hid (K_0.out.below hb)
    have Y_1 := Lib.hid (Y_0.out.below hb)
    have U_1 := Lib.hid (U_0.out.below hb)
    have X_1 := Lib.hid (X_0.out.below hb)
    clear hb cK0 cK1 cK2 cK3 cK4
    obtain ⟨⟨cK0, cK1, cK2⟩, cK3, cK4⟩ := K_1.out
    go_wp2
    go_ret2
    exact ⟨rfl, HB_1.out⟩
  have K0 := Lib.hid (show bsB P Q G H hs = true from h0)
  have hgd := bs_good h0
  have hmo := good_mo hgd
  have E1 := Lib.hid (show mpB P Q G H hs us xs = powsOk P Q us xs by simp [mpB, h0])
  have E2 := Lib.hid (show mpV P Q G H hs us xs = powsVal P Q us xs by simp [mpV, mpB, powsVal, h0])
  have HUL := Lib.hid (hul h0)
  rw [E1.out, E2.out]
  clear h0 hgd
  obtain ⟨⟨cK0, cK1, cK2⟩, cK3, cK4⟩ := K_0.out
  go_enter Try.func172, Try.ntmps172
  go_wp2_with fail
  refine (isValidBases_any P Q G H hl Y_0.out).mono ?_
  rw [K0.out]
  rintro e v1 ⟨rfl, hb⟩
  have HB_1 := Lib.hid (bt HB_0.out hb)
  have K_1 := Lib.hid (K_0.out.below hb)
  have Y_1 := Lib.hid (Y_0.out.below hb)
  have U_1 := Lib.hid (U_0.out.below hb)
  have X_1 := Lib.hid (X_0.out.below hb)
  clear hb cK0 cK1 cK2 cK3 cK4
  obtain ⟨⟨cK0, cK1, cK2⟩, cK3, cK4⟩ := K_1.out
  go_wp2_with fail
  refine (multiplyPowers_most P Q G hmo _ _ us.length _ _ us xs rfl HXL.out (HUL.out) _ (U_1.out.ints).1 (X_1.out.ints).1).mono ?_
  rintro e' v9 ⟨rfl, hb9⟩
  have HB_9 := Lib.hid (bt HB_1.out hb9)
  clear hb9
  go_wp2
  go_ret2
  exact ⟨rfl, HB_9.out⟩

set_option maxRecDepth 100000 in
set_option maxHeartbeats 3200000 in
theorem kcommit_any (P Q G H : Int) {B : Nat} {y : Value} {hs : List Int} (hl : hs.length ≤ 1152921504606846976) (m r : Int) {w : World} (hy : InI B w y hs) :
    Calls Try.prog 144 #[.agg #[.int .i64 P, .int .i64 Q, .int .i64 G, .int .i64 H, y], .int .i64 m, .int .i64 r] w fun e w' => e = .returned (.tuple #[.int .i64 (cmV P Q G H hs m r), .bool (cmB P Q G H hs m r)]) ∧ Below w.heap.size w w' := by
  obtain ⟨ya, yc, rfl⟩ := hy.shape
  have E1 := Lib.hid (mp_two P Q G H m r hs)
  rw [← E1.out.1, ← E1.out.2]
  clear E1
  have K_0 := Lib.hid (d5_at w (w.heap.size) (by simp) P Q G H (.slice ya hs.length yc) 151)
  have HB_0 := Lib.hid (show Below w.heap.size w (w.alloc (.cells #[.int .i64 P, .int .i64 Q, .int .i64 G, .int .i64 H, .slice ya hs.length yc] 151)) from ba _ _)
  have Y_0 := Lib.hid (hy.below HB_0.out)
  clear hy
  obtain ⟨cK0, cK1, cK2⟩ := K_0.out.1
  obtain ⟨cK3, cK4⟩ := K_0.out.2
  go_enter Try.func144, Try.ntmps144
  go_wp2_with fail
  refine (multiply_any P Q G H hl (us := [G, H]) (xs := [m, r]) (fun _ => by simp) rfl ((Y_0.out.below (ba _ _)).below (ba _ _)) ((inI_at _ (w.heap.size + 1) (by simp) [G, H] 3).below (ba _ _)) (inI_at _ (w.heap.size + 1 + 1) (by simp) [m, r] 3)).mono ?_
  rintro e' v9 ⟨rfl, hb9⟩
  have HB_9 := Lib.hid (bt (bt (bt HB_0.out (ba _ _)) (ba _ _)) hb9)
  clear hb9
  go_wp2
  go_ret2
  exact ⟨rfl, HB_9.out⟩

set_option maxRecDepth 100000 in
set_option maxHeartbeats 3200000 in
theorem commit_any (P Q G H : Int) {B : Nat} {y : Value} {hs : List Int} (hl : hs.length ≤ 1152921504606846976) (m r : Int) {w : World} (hy : InI B w y hs) :
    Calls Try.prog 99 #[gv P Q G, .agg #[.int .i64 H, y], .int .i64 m, .int .i64 r] w fun e w' => e = .returned (.tuple #[.int .i64 (cmV P Q G H hs m r), .bool (cmB P Q G H hs m r)]) ∧ Below w.heap.size w w' := by
  obtain ⟨ya, yc, rfl⟩ := hy.shape
  have G_0 := Lib.hid ((gr_at w (w.heap.size) (by simp) P Q G 24).below (ba (w.alloc (.cells #[.int .i64 P, .int .i64 Q, .int .i64 G] 24)) (.cells #[.int .i64 H, .slice ya hs.length yc] 53)))
  have V_0 := Lib.hid (d2_at (w.alloc (.cells #[.int .i64 P, .int .i64 Q, .int .i64 G] 24)) (w.heap.size + 1) (by simp) (.int .i64 H) (.slice ya hs.length yc) 53)
  have HB_0 := Lib.hid (show Below w.heap.size w ((w.alloc (.cells #[.int .i64 P, .int .i64 Q, .int .i64 G] 24)).alloc (.cells #[.int .i64 H, .slice ya hs.length yc] 53)) from bt (ba _ _) (ba _ _))
  have Y_0 := Lib.hid (hy.below HB_0.out)
  clear hy
  obtain ⟨gG0, gG1, gG2⟩ := G_0.out
  obtain ⟨cV0, cV1⟩ := V_0.out
  go_enter Try.func99, Try.ntmps99
  go_wp2_with fail
  refine (kcommit_any P Q G H hl m r Y_0.out).mono ?_
  rintro e' v9 ⟨rfl, hb9⟩
  have HB_9 := Lib.hid (bt HB_0.out hb9)
  clear hb9
  go_wp2
  go_ret2
  exact ⟨rfl, HB_9.out⟩

theorem inI_take {B : Nat} {w : World} {ad : Option Addr} {n cap : Nat} {zs : List Int} (h : InI B w (.slice ad n cap) zs) {k : Nat} (hk : k ≤ zs.length) : InI B w (.slice ad k cap) (zs.take k) := by
  obtain ⟨h0, ad', cap', h1, h2, h3, h4⟩ := h
  simp only [Value.slice.injEq] at h1
  obtain ⟨rfl, _, rfl⟩ := h1
  refine ⟨h0, ad, cap, by rw [List.length_take, Nat.min_eq_left hk], ?_, h3, by rw [List.length_take]; omega⟩
  rcases h2 with h2 | ⟨b, off, h5, h6, h7, h8⟩
  · subst h2; exact .inl (by simp)
  · refine .inr ⟨b, off, h5, h6, h7, fun i hi => ?_⟩
    rw [List.length_take] at hi
    rw [h8 i (by omega)]
    simp only [List.getD_eq_getElem?_getD, List.getElem?_take]
    rw [if_pos (by omega)]

end Go.Proofs.Ytfjaohmildkeoaa

/- How the laws copy, compare, measure, mark and hold bases; bases that come into a law. -/
namespace Go.Proofs.Ytfjaohmildkeoaa
open Go.RowKit Go.ChangeShapes Go.WideShapes Go.ChangeAt Go.Joins Go.Deep
set_option linter.unusedVariables false
set_option linter.unusedSimpArgs false

/-! ### Two values in a block that may be written -/
def B2 (w : World) (b : Nat) (x y : Value) : Prop := w.cell? ⟨b, 0, none⟩ = some x ∧ w.cell? ⟨b, 1, none⟩ = some y ∧ ∀ i, w.frozen? ⟨b, i, none⟩ = false
theorem b2_at (w : World) (b : Nat) (hb : w.heap.size = b) (x y : Value) (t : TypeId) : B2 (w.alloc (.cells #[x, y] t)) b x y := by
  subst hb
  refine ⟨?_, ?_, fun _ => World.frozen?_alloc_at _ _ _ _ rfl⟩ <;> (rw [World.cell?_alloc_at _ _ _ _ rfl]; rfl)
theorem B2.lt {w : World} {b : Nat} {x y : Value} (h : B2 w b x y) : b < w.heap.size := World.block_lt_of_cell? w _ h.1
theorem B2.below {w w' : World} {b : Nat} {x y : Value} (h : B2 w b x y) (hb : Below w.heap.size w w') : B2 w' b x y := by
  have hl := h.lt
  refine ⟨?_, ?_, fun i => ?_⟩
  · rw [hb.cell (p := ⟨b, 0, none⟩) hl]; exact h.1
  · rw [hb.cell (p := ⟨b, 1, none⟩) hl]; exact h.2.1
  · rw [hb.frozen (p := ⟨b, i, none⟩) hl]; exact h.2.2 i
theorem B2.mid {w w' : World} {b Q P : Nat} {x y : Value} (h : B2 w b x y) (hm : Mid Q P w w') (ho : b < Q ∨ P ≤ b) : B2 w' b x y := by
  have hl := h.lt
  have he := hm.block b hl ho
  refine ⟨?_, ?_, fun i => ?_⟩
  · rw [World.cell?_of_block (a := ⟨b, 0, none⟩) he]; exact h.1
  · rw [World.cell?_of_block (a := ⟨b, 1, none⟩) he]; exact h.2.1
  · have := h.2.2 i
    unfold World.frozen? at this ⊢
    simp only [he]
    exact this
theorem B2.d2 {w : World} {b : Nat} {x y : Value} (h : B2 w b x y) : D2 w b x y := ⟨h.1, h.2.1⟩

/-! ### A copy -/
def MadeB (w : World) (H : Int) (hs : List Int) (e : Ending) (w' : World) : Prop := ∃ y, e = .returned (.agg #[.int .i64 H, y]) ∧ OwI w.heap.size w'.heap.size w' y hs ∧ Below w.heap.size w w'
set_option maxRecDepth 100000 in
set_option maxHeartbeats 1600000 in
theorem toBas_any {P : Nat} {w : World} {H : Int} {y : Value} {hs : List Int} (h : InI P w y hs) (hl : hs.length ≤ 17592186044416) :
    Calls Try.prog 27 #[.agg #[.int .i64 H, y]] w (MadeB w H hs) := by
  obtain ⟨ya, yc, rfl⟩ := h.shape
  have hb2 := bt (bt (ba w (.cells #[.int .i64 H, .slice ya hs.length yc] 46)) (ba _ (.cells #[.int .i64 0, .slice none 0 0] 53))) (ba _ (.cells #[.int .i64 H, .slice none 0 0] 53))
  have HX := Lib.hid (((b2_at w w.heap.size rfl (.int .i64 H) (.slice ya hs.length yc) 46).below (ba _ (.cells #[.int .i64 0, .slice none 0 0] 53))).below (ba _ (.cells #[.int .i64 H, .slice none 0 0] 53)))
  have HY := Lib.hid ((b2_at (w.alloc (.cells #[.int .i64 H, .slice ya hs.length yc] 46)) (w.heap.size + 1) (by simp) (.int .i64 0) (.slice none 0 0) 53).below (ba _ (.cells #[.int .i64 H, .slice none 0 0] 53)))
  have HZ := Lib.hid (b2_at ((w.alloc (.cells #[.int .i64 H, .slice ya hs.length yc] 46)).alloc (.cells #[.int .i64 0, .slice none 0 0] 53)) (w.heap.size + 2) (by simp) (.int .i64 H) (.slice none 0 0) 53)
  have I2 := Lib.hid (h.below hb2)
  have HB := Lib.hid hb2
  clear hb2 h
  go_enter Try.func27, Try.ntmps27
  go_wp2_with fail
  refine (toI_any I2.out hl).mono ?_
  rintro e w2 ⟨v2, rfl, ho2, hbw⟩
  obtain ⟨vb, wb, rfl⟩ := own_shape ho2.1
  have HY3 := Lib.hid (HY.out.below hbw)
  have HZ3 := Lib.hid (HZ.out.below hbw)
  have HB3 := Lib.hid (bt HB.out hbw)
  have HO3 := Lib.hid (ho2.wide (Q' := w.heap.size + 3) (by simp) (Nat.le_refl _) (Nat.le_refl _))
  clear hbw ho2
  obtain ⟨y0, y1, yf⟩ := HY3.out
  have yf0 := yf 0
  have yf1 := yf 1
  obtain ⟨z0, z1, zf⟩ := HZ3.out
  have zf1 := zf 1
  clear zf yf
  go_wp2
  (try simp only [Exit.inBlock, Exit.then])
  refine bodyPost_ret (v := .agg #[.int .i64 H, .slice vb hs.length wb]) ?_ rfl ⟨_, rfl, ?_, ?_⟩
  · rw [results_cell_one rfl]; go_simp
  · have M := (((mid_cell w2 (w.heap.size + 2) 1 (.slice vb hs.length wb)).wide (Q' := w.heap.size + 1) (P' := w.heap.size + 3) (by omega) (by omega)).trans ((mid_cell _ (w.heap.size + 1) 0 (.int .i64 H)).wide (by omega) (by omega))).trans ((mid_cell _ (w.heap.size + 1) 1 (.slice vb hs.length wb)).wide (by omega) (by omega))
    have o5 := HO3.out.mid M (.inr (Nat.le_refl _))
    exact o5.wide (Nat.le_add_right _ _) (by simp) (Nat.le_refl _)
  · exact ((HB3.out.setCell (show w.heap.size ≤ w.heap.size + 2 by omega) _).setCell (show w.heap.size ≤ w.heap.size + 1 by omega) _).setCell (show w.heap.size ≤ w.heap.size + 1 by omega) _

set_option maxRecDepth 100000 in
set_option maxHeartbeats 1600000 in
theorem eqBas_any {P P' : Nat} {w : World} {H : Int} {y y' : Value} {hs : List Int} (h : InI P w y hs) (h' : InI P' w y' hs) (hl : hs.length ≤ 17592186044416) :
    Calls Try.prog 31 #[.agg #[.int .i64 H, y], .agg #[.int .i64 H, y']] w fun e w' => e = .returned (.bool true) ∧ Below w.heap.size w w' := by
  obtain ⟨ya, yc, rfl⟩ := h.shape
  obtain ⟨za, zc, rfl⟩ := h'.shape
  have hb2 := bt (ba w (.cells #[.int .i64 H, .slice ya hs.length yc] 53)) (ba _ (.cells #[.int .i64 H, .slice za hs.length zc] 53))
  have HX := Lib.hid ((b2_at w w.heap.size rfl (.int .i64 H) (.slice ya hs.length yc) 53).below (ba _ (.cells #[.int .i64 H, .slice za hs.length zc] 53)))
  have HY := Lib.hid (b2_at (w.alloc (.cells #[.int .i64 H, .slice ya hs.length yc] 53)) (w.heap.size + 1) (by simp) (.int .i64 H) (.slice za hs.length zc) 53)
  have J1 := Lib.hid (h.below hb2)
  have K1 := Lib.hid (h'.below hb2)
  have HB := Lib.hid hb2
  clear hb2 h h'
  obtain ⟨x0, x1, _⟩ := HX.out
  obtain ⟨y0, y1, _⟩ := HY.out
  go_enter Try.func31, Try.ntmps31
  go_wp2_with fail
  refine (eqI_any J1.out K1.out hl).mono ?_
  rintro e w1 ⟨rfl, hb1⟩
  have HB1 := Lib.hid (bt HB.out hb1)
  clear hb1
  go_wp2
  go_ret
  exact ⟨rfl, HB1.out⟩

theorem szBas_any {P : Nat} {w : World} {H : Int} {y : Value} {hs : List Int} {left : Int} (h : InI P w y hs) (h0 : 0 ≤ left) (h1 : left ≤ 1048576) (hl : hs.length ≤ maxLen) :
    Calls Try.prog 24 #[.agg #[.int .i64 H, y], .int .i64 left] w fun e w' => e = .returned (.int .i64 (szV hs.length left)) ∧ Below w.heap.size w w' := by
  obtain ⟨ya, yc, rfl⟩ := h.shape
  have hb2 := ba w (.cells #[.int .i64 H, .slice ya hs.length yc] 46)
  have HX := Lib.hid (b2_at w w.heap.size rfl (.int .i64 H) (.slice ya hs.length yc) 46)
  have J1 := Lib.hid (h.below hb2)
  have HB := Lib.hid hb2
  clear hb2 h
  obtain ⟨x0, x1, _⟩ := HX.out
  by_cases hn : (hs.length : Int) ≤ left
  · have e1 : szV hs.length left = left - hs.length := by simp [szV, hn]
    have E1 := Lib.hid e1
    rw [e1]
    have hneg : ¬ left - (hs.length : Int) < 0 := by omega
    clear e1
    go_enter Try.func24, Try.ntmps24
    go_wp2_with fail
    refine (szI_any J1.out h0 h1 hl).mono ?_
    rw [E1.out]
    rintro e w' ⟨rfl, rfl⟩
    go_wp2
    go_ret
    exact ⟨rfl, HB.out⟩
  · have e1 : szV hs.length left = -1 := by simp [szV, hn]
    have E1 := Lib.hid e1
    rw [e1]
    clear e1
    go_enter Try.func24, Try.ntmps24
    go_wp2_with fail
    refine (szI_any J1.out h0 h1 hl).mono ?_
    rw [E1.out]
    rintro e w' ⟨rfl, rfl⟩
    go_wp2
    go_ret
    exact ⟨rfl, HB.out⟩

/-! ### Marks -/
theorem markBas_any {Q P : Nat} {w : World} {H : Int} {y : Value} {hs : List Int} {k : Int} (h : OwI Q P w y hs) (hk0 : 0 ≤ k) (hk1 : k ≤ 8796093022208) (hl : hs.length ≤ 8796093022208) :
    Calls Try.prog 33 #[.agg #[.int .i64 H, y], .int .i64 k] w (MarkI Q P w y hs k) := by
  obtain ⟨ya, yc, rfl⟩ := own_shape h.1
  have hal := ba w (.cells #[.int .i64 H, .slice ya hs.length yc] 53)
  have HX := Lib.hid (b2_at w w.heap.size rfl (.int .i64 H) (.slice ya hs.length yc) 53)
  have HM := Lib.hid (Mid.ofBelow (Q := Q) (P := P) hal)
  have J1 := Lib.hid (h.below hal)
  clear hal h
  obtain ⟨x0, x1, _⟩ := HX.out
  go_enter Try.func33, Try.ntmps33
  go_wp2_with fail
  refine (markI_any J1.out hk0 (by omega) (by omega)).mono ?_
  rintro e w1 ⟨rfl, ho1, hm1⟩
  have O1 := Lib.hid ho1
  have HM1 := Lib.hid (HM.out.trans hm1)
  clear hm1 ho1 x0 x1
  go_wp2
  go_ret
  exact ⟨rfl, O1.out, HM1.out⟩
/-! ### Bases that come into a law -/
theorem inI_opn {T : Type} {enc : TypeId × Value → T} {W : World} {held : Bool} {fuel : Nat} {v : Value} {x : DataW T × List MemPlace}
    (hf : DataW.trod enc Try.prog W 0 (fun _ => true) held fuel 25 [v] = some x) : ∃ zs, InI W.heap.size W v zs ∧ zs.length ≤ maxLen := by
  rcases open_ints Try.underlying25 Try.underlying3 (by kernel_rfl) hf with ⟨hcs, _⟩ | ⟨y, l, c, zs, hcs, _, hl, hm, hz, _, hcell, hwz⟩
  · obtain rfl := (List.cons.inj hcs).1
    exact ⟨[], ⟨Nat.le_refl _, none, 0, rfl, .inl rfl, fun _ => rfl, Nat.le_refl _⟩, by simp⟩
  · obtain rfl := (List.cons.inj hcs).1
    simp only [if_true] at hz
    obtain ⟨q1, q2, q3⟩ := inI_of_row (w := W) (a := some y) (len := l) (cap := c) (zs := zs) (.inr ⟨y, rfl, hl, hm, hz, hcell, hwz⟩)
    exact ⟨_, q1, by omega⟩
set_option maxRecDepth 100000 in
theorem inBas_open {T : Type} {enc : TypeId × Value → T} {W : World} {held : Bool} {b0 : Nat} {v : Value} {d : DataW T} {p : List MemPlace}
    (hv : Value.okWide Try.prog W .any b0 46 v) (h : DataW.Trod enc Try.prog W 0 (fun _ => true) held 46 v d p) :
    ∃ (H : Int) (y : Value) (hs : List Int), v = .agg #[.int .i64 H, y] ∧ InI W.heap.size W y hs ∧ hs.length ≤ maxLen := by
  obtain ⟨v0, v1, y0, y1, n, rfl, _, _, h0, h1⟩ := open_agg2 Try.underlying46 (by kernel_rfl) (by kernel_rfl) hv h
  obtain ⟨H, e0, _, _⟩ := DataW.trod_int Try.underlying3 h0
  obtain rfl := (List.cons.inj e0).1
  obtain ⟨z1, k1, l1⟩ := inI_opn h1
  exact ⟨H, v1, z1, rfl, k1, l1⟩

end Go.Proofs.Ytfjaohmildkeoaa

/- Chapter 9, the reference: bases, commitments, checks of openings. -/
namespace Go.Proofs.Ytfjaohmildkeoaa
open Go.RowKit
set_option linter.unusedVariables false
set_option linter.unusedSimpArgs false

/-! ### No 1 among them -/
def nB (x : Int) (zs : List Int) : Bool := zs.all fun z => decide (z ≠ x)
theorem nB_step {x : Int} {zs rest : List Int} {z : Int} {k : Nat} {t : Bool} (hd : zs.drop k = z :: rest) (he : t = nB x (zs.drop k)) : (z = x → t = false) ∧ (z ≠ x → t = nB x rest) := by
  rw [hd] at he
  refine ⟨fun h => ?_, fun h => ?_⟩ <;> (rw [he]; simp [nB, h])
theorem l9Has_any (ad : Option Addr) (n cap : Nat) (zs : List Int) (x : Int) (hn : zs.length = n) (hl : n ≤ 1152921504606846976) (w : World) (hz : IsInts w ad zs) :
    Calls Try.prog 135 #[.slice ad n cap, .int .i64 x] w fun e w' => e = .returned (.bool (!nB x zs)) ∧ w = w' := by
  have HN := Lib.hid hn
  clear hn
  go_enter Try.func135, Try.ntmps135
  go_wp2_with fail
  go_loop [6, 9] (fun _ K => ∃ k : Nat, k ≤ n ∧ K = .int .i64 k ∧ nB x zs = nB x (zs.drop k)) (fun _ K => n - (intOf K).toNat)
  case atStart => exact ⟨0, Nat.zero_le _, rfl, rfl⟩
  case round =>
    obtain ⟨k, hk, rfl, he⟩ := hrel
    by_cases hkn : k < n
    · obtain ⟨b, off, z, rfl, hb, hc, hd⟩ := hz.at (k := k) (by have := HN.out; omega)
      have HS := Lib.hid (nB_step (rest := zs.drop (k + 1)) hd he)
      clear he hd
      by_cases hxz : z = x
      · have HM := Lib.hid (HS.out.1 hxz)
        have hxb : (z == x) = true := by simp [hxz]
        clear hxz
        go_wp2_with fail
        go_ret
        exact ⟨by rw [HM.out]; rfl, rfl⟩
      · have HM := Lib.hid (HS.out.2 hxz)
        have hxb : (z == x) = false := by simp; exact hxz
        clear hxz
        go_wp2_with fail
        go_round
        case rel => exact ⟨k + 1, by omega, by go_num, HM.out⟩
        case measure => simp only [intOf]; omega
    · have HE := Lib.hid he
      clear he
      go_wp2_with fail
      go_ret
      refine ⟨?_, rfl⟩
      rw [HE.out, List.drop_of_length_le (by have := HN.out; omega)]; rfl
theorem nB_all (P Q : Int) (zs : List Int) : (nB 1 zs && allEl P Q zs) = zs.all fun z => baB P Q z := by
  induction zs with
  | nil => rfl
  | cons a t ih =>
    simp only [nB, allEl, List.all_cons, baB] at ih ⊢
    rw [← ih]
    cases decide (a ≠ 1) <;> cases elB P Q a <;> cases (t.all fun z => decide (z ≠ 1)) <;> rfl
theorem bs_ref (P Q G H : Int) (hs : List Int) : bsB P Q G H hs = (goodB P Q G && (decide (H ≠ 1) && (allEl P Q [H] && (decide (hs.length ≤ 24) && (nB 1 hs && allEl P Q hs))))) := by
  rw [nB_all]
  have e : allEl P Q [H] = elB P Q H := by simp [allEl]
  rw [e]
  simp only [bsB, baB, basB, Bool.and_assoc]
theorem mul_two {P a b : Int} (h0 : 0 ≤ a) (h1 : a < P) : mulFrom P 1 [a, b] = a * b % P := by
  show 1 * a % P * b % P = _
  rw [Int.one_mul, Int.emod_eq_of_lt h0 h1]

set_option maxRecDepth 100000 in
set_option maxHeartbeats 3200000 in
theorem l9Good_any (P Q G H : Int) {B : Nat} {y : Value} {hs : List Int} (hl : hs.length ≤ 1152921504606846976) {w : World} (hy : InI B w y hs) :
    Calls Try.prog 89 #[gv P Q G, .agg #[.int .i64 H, y]] w fun e w' => e = .returned (.bool (bsB P Q G H hs)) ∧ Below w.heap.size w w' := by
  obtain ⟨ya, yc, rfl⟩ := hy.shape
  have G_0 := Lib.hid ((gr_at w (w.heap.size) (by simp) P Q G 24).below (ba (w.alloc (.cells #[.int .i64 P, .int .i64 Q, .int .i64 G] 24)) (.cells #[.int .i64 H, .slice ya hs.length yc] 53)))
  have V_0 := Lib.hid (d2_at (w.alloc (.cells #[.int .i64 P, .int .i64 Q, .int .i64 G] 24)) (w.heap.size + 1) (by simp) (.int .i64 H) (.slice ya hs.length yc) 53)
  have HB_0 := Lib.hid (show Below w.heap.size w ((w.alloc (.cells #[.int .i64 P, .int .i64 Q, .int .i64 G] 24)).alloc (.cells #[.int .i64 H, .slice ya hs.length yc] 53)) from bt (ba _ _) (ba _ _))
  have Y_0 := Lib.hid (hy.below HB_0.out)
  clear hy
  cases h0 : goodB P Q G
  · have K0 := Lib.hid (show goodB P Q G = false from h0)
    have E1 := Lib.hid (show bsB P Q G H hs = false by simp [bs_ref, h0])
    rw [E1.out]
    clear h0
    obtain ⟨gG0, gG1, gG2⟩ := G_0.out
    obtain ⟨cV0, cV1⟩ := V_0.out
    go_enter Try.func89, Try.ntmps89
    go_wp2_with fail
    refine (l2Good_any P Q G _).mono ?_
    rw [K0.out]
    rintro e v1 ⟨rfl, hb⟩
    have HB_1 := Lib.hid (bt HB_0.out hb)
    have G_1 := Lib.hid (G_0.out.below hb)
    have V_1 := Lib.hid (V_0.out.below hb)
    have Y_1 := Lib.hid (Y_0.out.below hb)
    clear hb gG0 gG1 gG2 cV0 cV1
    obtain ⟨gG0, gG1, gG2⟩ := G_1.out
    obtain ⟨cV0, cV1⟩ := V_1.out
    go_wp2
    go_ret
    exact ⟨rfl, HB_1.out⟩
  have K0 := Lib.hid (show goodB P Q G = true from h0)
  have hmo := good_mo h0
  by_cases h1 : ¬ (H ≠ 1)
  · have B1 : (H != 1) = false := by simpa using h1
    have E1 := Lib.hid (show bsB P Q G H hs = false by simp [bs_ref, h0, h1])
    rw [E1.out]
    clear h0 h1
    obtain ⟨gG0, gG1, gG2⟩ := G_0.out
    obtain ⟨cV0, cV1⟩ := V_0.out
    go_enter Try.func89, Try.ntmps89
    go_wp2_with fail
    refine (l2Good_any P Q G _).mono ?_
    rw [K0.out]
    rintro e v1 ⟨rfl, hb⟩
    have HB_1 := Lib.hid (bt HB_0.out hb)
    have G_1 := Lib.hid (G_0.out.below hb)
    have V_1 := Lib.hid (V_0.out.below hb)
    have Y_1 := Lib.hid (Y_0.out.below hb)
    clear hb gG0 gG1 gG2 cV0 cV1
    obtain ⟨gG0, gG1, gG2⟩ := G_1.out
    obtain ⟨cV0, cV1⟩ := V_1.out
    go_wp2
    go_ret
    exact ⟨rfl, HB_1.out⟩
  have h1 := Decidable.not_not.1 h1
  have B1 : (H != 1) = true := by simpa using h1
  cases h2 : allEl P Q [H]
  · have K2 := Lib.hid (show allEl P Q [H] = false from h2)
    have E1 := Lib.hid (show bsB P Q G H hs = false by simp [bs_ref, h0, h1, h2])
    rw [E1.out]
    clear h0 h1 h2
    obtain ⟨gG0, gG1, gG2⟩ := G_0.out
    obtain ⟨cV0, cV1⟩ := V_0.out
    go_enter Try.func89, Try.ntmps89
    go_wp2_with fail
    refine (l2Good_any P Q G _).mono ?_
    rw [K0.out]
    rintro e v1 ⟨rfl, hb⟩
    have HB_1 := Lib.hid (bt HB_0.out hb)
    have G_1 := Lib.hid (G_0.out.below hb)
    have V_1 := Lib.hid (V_0.out.below hb)
    have Y_1 := Lib.hid (Y_0.out.below hb)
    clear hb gG0 gG1 gG2 cV0 cV1
    obtain ⟨gG0, gG1, gG2⟩ := G_1.out
    obtain ⟨cV0, cV1⟩ := V_1.out
    go_wp2_with fail
    refine (gIs_any P Q G hmo _ 1 1 [H] rfl (by decide) _ (ints_lit v1 [H] 3)).mono ?_
    rw [K2.out]
    rintro e v2 ⟨rfl, hb0⟩
    have hb := bt (ba v1 _) hb0
    clear hb0
    have HB_2 := Lib.hid (bt HB_1.out hb)
    have G_2 := Lib.hid (G_1.out.below hb)
    have V_2 := Lib.hid (V_1.out.below hb)
    have Y_2 := Lib.hid (Y_1.out.below hb)
    clear hb gG0 gG1 gG2 cV0 cV1
    obtain ⟨gG0, gG1, gG2⟩ := G_2.out
    obtain ⟨cV0, cV1⟩ := V_2.out
    go_wp2
    go_ret
    exact ⟨rfl, HB_2.out⟩
  have K2 := Lib.hid (show allEl P Q [H] = true from h2)
  by_cases h3 : ¬ (hs.length ≤ 24)
  · have B3 : (24 : Int) < (hs.length : Int) := by omega
    have E1 := Lib.hid (show bsB P Q G H hs = false by simp [bs_ref, h0, h1, h2, h3])
    rw [E1.out]
    clear h0 h1 h2 h3
    obtain ⟨gG0, gG1, gG2⟩ := G_0.out
    obtain ⟨cV0, cV1⟩ := V_0.out
    go_enter Try.func89, Try.ntmps89
    go_wp2_with fail
    refine (l2Good_any P Q G _).mono ?_
    rw [K0.out]
    rintro e v1 ⟨rfl, hb⟩
    have HB_1 := Lib.hid (bt HB_0.out hb)
    have G_1 := Lib.hid (G_0.out.below hb)
    have V_1 := Lib.hid (V_0.out.below hb)
    have Y_1 := Lib.hid (Y_0.out.below hb)
    clear hb gG0 gG1 gG2 cV0 cV1
    obtain ⟨gG0, gG1, gG2⟩ := G_1.out
    obtain ⟨cV0, cV1⟩ := V_1.out
    go_wp2_with fail
    refine (gIs_any P Q G hmo _ 1 1 [H] rfl (by decide) _ (ints_lit v1 [H] 3)).mono ?_
    rw [K2.out]
    rintro e v2 ⟨rfl, hb0⟩
    have hb := bt (ba v1 _) hb0
    clear hb0
    have HB_2 := Lib.hid (bt HB_1.out hb)
    have G_2 := Lib.hid (G_1.out.below hb)
    have V_2 := Lib.hid (V_1.out.below hb)
    have Y_2 := Lib.hid (Y_1.out.below hb)
    clear hb gG0 gG1 gG2 cV0 cV1
    obtain ⟨gG0, gG1, gG2⟩ := G_2.out
    obtain ⟨cV0, cV1⟩ := V_2.out
    go_wp2
    go_ret
    exact ⟨rfl, HB_2.out⟩
  have h3 := Decidable.not_not.1 h3
  have B3 : (hs.length : Int) ≤ 24 := by omega
  cases h4 : nB 1 hs
  · have K4 := Lib.hid (show nB 1 hs = false from h4)
    have E1 := Lib.hid (show bsB P Q G H hs = false by simp [bs_ref, h0, h1, h2, h3, h4])
    rw [E1.out]
    clear h0 h1 h2 h3 h4
    obtain ⟨gG0, gG1, gG2⟩ := G_0.out
    obtain ⟨cV0, cV1⟩ := V_0.out
    go_enter Try.func89, Try.ntmps89
    go_wp2_with fail
    refine (l2Good_any P Q G _).mono ?_
    rw [K0.out]
    rintro e v1 ⟨rfl, hb⟩
    have HB_1 := Lib.hid (bt HB_0.out hb)
    have G_1 := Lib.hid (G_0.out.below hb)
    have V_1 := Lib.hid (V_0.out.below hb)
    have Y_1 := Lib.hid (Y_0.out.below hb)
    clear hb gG0 gG1 gG2 cV0 cV1
    obtain ⟨gG0, gG1, gG2⟩ := G_1.out
    obtain ⟨cV0, cV1⟩ := V_1.out
    go_wp2_with fail
    refine (gIs_any P Q G hmo _ 1 1 [H] rfl (by decide) _ (ints_lit v1 [H] 3)).mono ?_
    rw [K2.out]
    rintro e v2 ⟨rfl, hb0⟩
    have hb := bt (ba v1 _) hb0
    clear hb0
    have HB_2 := Lib.hid (bt HB_1.out hb)
    have G_2 := Lib.hid (G_1.out.below hb)
    have V_2 := Lib.hid (V_1.out.below hb)
    have Y_2 := Lib.hid (Y_1.out.below hb)
    clear hb gG0 gG1 gG2 cV0 cV1
    obtain ⟨gG0, gG1, gG2⟩ := G_2.out
    obtain ⟨cV0, cV1⟩ := V_2.out
    go_wp2_with fail
    refine (l9Has_any ya hs.length yc hs 1 rfl hl _ (Y_2.out.ints).1).mono ?_
    rw [K4.out]
    rintro e w' ⟨rfl, rfl⟩
    go_wp2
    go_ret
    exact ⟨rfl, HB_2.out⟩
  have K4 := Lib.hid (show nB 1 hs = true from h4)
  cases h5 : allEl P Q hs
  · have K5 := Lib.hid (show allEl P Q hs = false from h5)
    have E1 := Lib.hid (show bsB P Q G H hs = false by simp [bs_ref, h0, h1, h2, h3, h4, h5])
    rw [E1.out]
    clear h0 h1 h2 h3 h4 h5
    obtain ⟨gG0, gG1, gG2⟩ := G_0.out
    obtain ⟨cV0, cV1⟩ := V_0.out
    go_enter Try.func89, Try.ntmps89
    go_wp2_with fail
    refine (l2Good_any P Q G _).mono ?_
    rw [K0.out]
    rintro e v1 ⟨rfl, hb⟩
    have HB_1 := Lib.hid (bt HB_0.out hb)
    have G_1 := Lib.hid (G_0.out.below hb)
    have V_1 := Lib.hid (V_0.out.below hb)
    have Y_1 := Lib.hid (Y_0.out.below hb)
    clear hb gG0 gG1 gG2 cV0 cV1
    obtain ⟨gG0, gG1, gG2⟩ := G_1.out
    obtain ⟨cV0, cV1⟩ := V_1.out
    go_wp2_with fail
    refine (gIs_any P Q G hmo _ 1 1 [H] rfl (by decide) _ (ints_lit v1 [H] 3)).mono ?_
    rw [K2.out]
    rintro e v2 ⟨rfl, hb0⟩
    have hb := bt (ba v1 _) hb0
    clear hb0
    have HB_2 := Lib.hid (bt HB_1.out hb)
    have G_2 := Lib.hid (G_1.out.below hb)
    have V_2 := Lib.hid (V_1.out.below hb)
    have Y_2 := Lib.hid (Y_1.out.below hb)
    clear hb gG0 gG1 gG2 cV0 cV1
    obtain ⟨gG0, gG1, gG2⟩ := G_2.out
    obtain ⟨cV0, cV1⟩ := V_2.out
    go_wp2_with fail
    refine (l9Has_any ya hs.length yc hs 1 rfl hl _ (Y_2.out.ints).1).mono ?_
    rw [K4.out]
    rintro e w' ⟨rfl, rfl⟩
    go_wp2_with fail
    refine (gIs_any P Q G hmo ya hs.length yc hs rfl hl _ (Y_2.out.ints).1).mono ?_
    rw [K5.out]
    rintro e v3 ⟨rfl, hb⟩
    have HB_3 := Lib.hid (bt HB_2.out hb)
    have G_3 := Lib.hid (G_2.out.below hb)
    have V_3 := Lib.hid (V_2.out.below hb)
    have Y_3 := Lib.hid (Y_2.out.below hb)
    clear hb gG0 gG1 gG2 cV0 cV1
    obtain ⟨gG0, gG1, gG2⟩ := G_3.out
    obtain ⟨cV0, cV1⟩ := V_3.out
    go_wp2
    go_ret
    exact ⟨rfl, HB_3.out⟩
  have K5 := Lib.hid (show allEl P Q hs = true from h5)
  have E1 := Lib.hid (show bsB P Q G H hs = true by simp [bs_ref, h0, h1, h2, h3, h4, h5])
  rw [E1.out]
  clear h0 h1 h2 h3 h4 h5
  obtain ⟨gG0, gG1, gG2⟩ := G_0.out
  obtain ⟨cV0, cV1⟩ := V_0.out
  go_enter Try.func89, Try.ntmps89
  go_wp2_with fail
  refine (l2Good_any P Q G _).mono ?_
  rw [K0.out]
  rintro e v1 ⟨rfl, hb⟩
  have HB_1 := Lib.hid (bt HB_0.out hb)
  have G_1 := Lib.hid (G_0.out.below hb)
  have V_1 := Lib.hid (V_0.out.below hb)
  have Y_1 := Lib.hid (Y_0.out.below hb)
  clear hb gG0 gG1 gG2 cV0 cV1
  obtain ⟨gG0, gG1, gG2⟩ := G_1.out
  obtain ⟨cV0, cV1⟩ := V_1.out
  go_wp2_with fail
  refine (gIs_any P Q G hmo _ 1 1 [H] rfl (by decide) _ (ints_lit v1 [H] 3)).mono ?_
  rw [K2.out]
  rintro e v2 ⟨rfl, hb0⟩
  have hb := bt (ba v1 _) hb0
  clear hb0
  have HB_2 := Lib.hid (bt HB_1.out hb)
  have G_2 := Lib.hid (G_1.out.below hb)
  have V_2 := Lib.hid (V_1.out.below hb)
  have Y_2 := Lib.hid (Y_1.out.below hb)
  clear hb gG0 gG1 gG2 cV0 cV1
  obtain ⟨gG0, gG1, gG2⟩ := G_2.out
  obtain ⟨cV0, cV1⟩ := V_2.out
  go_wp2_with fail
  refine (l9Has_any ya hs.length yc hs 1 rfl hl _ (Y_2.out.ints).1).mono ?_
  rw [K4.out]
  rintro e w' ⟨rfl, rfl⟩
  go_wp2_with fail
  refine (gIs_any P Q G hmo ya hs.length yc hs rfl hl _ (Y_2.out.ints).1).mono ?_
  rw [K5.out]
  rintro e v3 ⟨rfl, hb⟩
  have HB_3 := Lib.hid (bt HB_2.out hb)
  have G_3 := Lib.hid (G_2.out.below hb)
  have V_3 := Lib.hid (V_2.out.below hb)
  have Y_3 := Lib.hid (Y_2.out.below hb)
  clear hb gG0 gG1 gG2 cV0 cV1
  obtain ⟨gG0, gG1, gG2⟩ := G_3.out
  obtain ⟨cV0, cV1⟩ := V_3.out
  go_wp2
  go_ret
  exact ⟨rfl, HB_3.out⟩

set_option maxRecDepth 100000 in
set_option maxHeartbeats 3200000 in
theorem pCommit_any (P Q G H m r : Int) (hg : goodB P Q G = true) (hH0 : elB P Q H = true) (hm : 0 ≤ m ∧ m < Q) (hr : 0 ≤ r ∧ r < Q) {ya : Option Addr} {yc : Nat} {hs : List Int} (w : World) :
    Calls Try.prog 93 #[gv P Q G, .agg #[.int .i64 H, .slice ya hs.length yc], .int .i64 m, .int .i64 r] w fun e w' => e = .returned (.int .i64 (cmW P G H m r)) ∧ Below w.heap.size w w' := by
  have hmo := good_mo hg
  have hgr := good_rng hg
  have HP := Lib.hid hmo.1
  have HQ := Lib.hid hgr.2.1
  have hH := el_rng hH0
  have hG := el_rng (good_el hg)
  have HG := Lib.hid (show 0 ≤ G ∧ G ≤ 2000000000 by have := hmo.1; omega)
  have HH := Lib.hid (show 0 ≤ H ∧ H ≤ 2000000000 by have := hmo.1; omega)
  have HM := Lib.hid hm
  have HR := Lib.hid hr
  have hp1 := pow_lt G m P hmo.1.1
  have hp2 := pow_lt H r P hmo.1.1
  have EM0 := mul_two (b := Num.pow H r P) hp1.1 hp1.2
  have HPP := Lib.hid (show ∀ z ∈ [Num.pow G m P, Num.pow H r P], 0 ≤ z ∧ z < P from fun z hz => by
    simp only [List.mem_cons, List.not_mem_nil, or_false] at hz
    rcases hz with rfl | rfl
    · exact hp1
    · exact hp2)
  unfold cmW
  generalize hq1 : Num.pow G m P = p1 at EM0 HPP ⊢
  generalize hq2 : Num.pow H r P = p2 at EM0 HPP ⊢
  have P1 := Lib.hid hq1
  have P2 := Lib.hid hq2
  have EM := Lib.hid EM0
  clear hq1 hq2 EM0 hp1 hp2 hm hr hmo hgr hH hG hg hH0
  have G_0 := Lib.hid ((gr_at w (w.heap.size) (by simp) P Q G 24).below (ba (w.alloc (.cells #[.int .i64 P, .int .i64 Q, .int .i64 G] 24)) (.cells #[.int .i64 H, .slice ya hs.length yc] 53)))
  have V_0 := Lib.hid (d2_at (w.alloc (.cells #[.int .i64 P, .int .i64 Q, .int .i64 G] 24)) (w.heap.size + 1) (by simp) (.int .i64 H) (.slice ya hs.length yc) 53)
  have HB_0 := Lib.hid (show Below w.heap.size w ((w.alloc (.cells #[.int .i64 P, .int .i64 Q, .int .i64 G] 24)).alloc (.cells #[.int .i64 H, .slice ya hs.length yc] 53)) from bt (ba _ _) (ba _ _))
  obtain ⟨W, hW⟩ : ∃ W, ((w.alloc (.cells #[.int .i64 P, .int .i64 Q, .int .i64 G] 24)).alloc (.cells #[.int .i64 H, .slice ya hs.length yc] 53)) = W := ⟨_, rfl⟩
  rw [hW] at HB_0 G_0 V_0
  go_enter Try.func93, Try.ntmps93
  go_wp2_with fail
  clear hW
  have hbd : Below W.heap.size W W.drew := (Below.refl _ W).drew
  have HB_s := Lib.hid (bt HB_0.out hbd)
  have G_s := Lib.hid (G_0.out.below hbd)
  have V_s := Lib.hid (V_0.out.below hbd)
  clear hbd
  refine wp_region_held_drew (S := (fun w' => (w'.cell? ⟨w.heap.size, 0, none⟩ = some (.int .i64 P) ∧ w'.cell? ⟨w.heap.size, 1, none⟩ = some (.int .i64 Q) ∧ w'.cell? ⟨w.heap.size, 2, none⟩ = some (.int .i64 G)) ∧ w'.cell? ⟨w.heap.size + 1, 0, none⟩ = some (.int .i64 H) ∧ w'.cell? ⟨w.heap.size + 1, 1, none⟩ = some (.slice ya hs.length yc))) (by kernel_rfl) (show _ from ⟨⟨G_0.out.1, G_0.out.2.1, G_0.out.2.2⟩, V_0.out.1, V_0.out.2⟩) (fun hHeld => ?_)
  generalize hW0 : W.drew = Ws at *
  clear hW0
  refine wpAnyH_take (i := 0) (v := ?_) rfl (by kernel_rfl) (by kernel_rfl) (by kernel_rfl) (fun _ _ _ h => h) (Or.inl ⟨by kernel_rfl, ?_⟩) (by assumption) ?_
  rotate_left 1
  · intro w9 hSw
    try dsimp only at hSw
    go_simp
    try with_reducible rfl
  try simp only [Act.put, List.getElem_toArray, List.getElem_cons_succ, List.getElem_cons_zero, List.setIfInBounds_toArray, List.set_cons_zero, List.set_cons_succ]
  refine wpAnyH_take (i := 1) (v := ?_) rfl (by kernel_rfl) (by kernel_rfl) (by kernel_rfl) (fun _ _ _ h => h) (Or.inl ⟨by kernel_rfl, ?_⟩) (by assumption) ?_
  rotate_left 1
  · intro w9 hSw
    try dsimp only at hSw
    go_simp
    try with_reducible rfl
  try simp only [Act.put, List.getElem_toArray, List.getElem_cons_succ, List.getElem_cons_zero, List.setIfInBounds_toArray, List.set_cons_zero, List.set_cons_succ]
  refine wpAnyH_take (i := 2) (v := ?_) rfl (by kernel_rfl) (by kernel_rfl) (by kernel_rfl) (fun _ _ _ h => h) (Or.inl ⟨by kernel_rfl, ?_⟩) (by assumption) ?_
  rotate_left 1
  · intro w9 hSw
    try dsimp only at hSw
    go_simp
    try with_reducible rfl
  try simp only [Act.put, List.getElem_toArray, List.getElem_cons_succ, List.getElem_cons_zero, List.setIfInBounds_toArray, List.set_cons_zero, List.set_cons_succ]
  refine wpAnyH_take (i := 3) (v := ?_) rfl (by kernel_rfl) (by kernel_rfl) (by kernel_rfl) (fun _ _ _ h => h) (Or.inl ⟨by kernel_rfl, ?_⟩) (by assumption) ?_
  rotate_left 1
  · intro w9 hSw
    try dsimp only at hSw
    go_simp
    try with_reducible rfl
  try simp only [Act.put, List.getElem_toArray, List.getElem_cons_succ, List.getElem_cons_zero, List.setIfInBounds_toArray, List.set_cons_zero, List.set_cons_succ]
  refine wpAnyH_take (i := 4) (v := ?_) rfl (by kernel_rfl) (by kernel_rfl) (by kernel_rfl) (fun _ _ _ h => h) (Or.inl ⟨by kernel_rfl, ?_⟩) (by assumption) ?_
  rotate_left 1
  · intro w9 hSw
    try dsimp only at hSw
    go_simp
    try with_reducible rfl
  try simp only [Act.put, List.getElem_toArray, List.getElem_cons_succ, List.getElem_cons_zero, List.setIfInBounds_toArray, List.set_cons_zero, List.set_cons_succ]
  refine wpAnyH_take (i := 6) (v := ?_) rfl (by kernel_rfl) (by kernel_rfl) (by kernel_rfl) (fun _ _ _ h => h) (Or.inl ⟨by kernel_rfl, ?_⟩) (by assumption) ?_
  rotate_left 1
  · intro w9 hSw
    try dsimp only at hSw
    go_simp
    try with_reducible rfl
  try simp only [Act.put, List.getElem_toArray, List.getElem_cons_succ, List.getElem_cons_zero, List.setIfInBounds_toArray, List.set_cons_zero, List.set_cons_succ]
  refine wpAnyH_take (i := 7) (v := ?_) rfl (by kernel_rfl) (by kernel_rfl) (by kernel_rfl) (fun _ _ _ h => h) (Or.inl ⟨by kernel_rfl, ?_⟩) (by assumption) ?_
  rotate_left 1
  · intro w9 hSw
    try dsimp only at hSw
    go_simp
    try with_reducible rfl
  try simp only [Act.put, List.getElem_toArray, List.getElem_cons_succ, List.getElem_cons_zero, List.setIfInBounds_toArray, List.set_cons_zero, List.set_cons_succ]
  refine wpAnyH_take (i := 8) (v := ?_) rfl (by kernel_rfl) (by kernel_rfl) (by kernel_rfl) (fun _ _ _ h => h) (Or.inl ⟨by kernel_rfl, ?_⟩) (by assumption) ?_
  rotate_left 1
  · intro w9 hSw
    try dsimp only at hSw
    go_simp
    try with_reducible rfl
  try simp only [Act.put, List.getElem_toArray, List.getElem_cons_succ, List.getElem_cons_zero, List.setIfInBounds_toArray, List.set_cons_zero, List.set_cons_succ]
  refine wpAnyH_take (i := 9) (v := ?_) rfl (by kernel_rfl) (by kernel_rfl) (by kernel_rfl) (fun _ _ _ h => h) (Or.inl ⟨by kernel_rfl, ?_⟩) (by assumption) ?_
  rotate_left 1
  · intro w9 hSw
    try dsimp only at hSw
    go_simp
    try with_reducible rfl
  try simp only [Act.put, List.getElem_toArray, List.getElem_cons_succ, List.getElem_cons_zero, List.setIfInBounds_toArray, List.set_cons_zero, List.set_cons_succ]
  refine wpAnyH_ready (rs := [5]) (by kernel_rfl) (by simp) ?_
  refine AllReadyH.cons rfl (fun K hK => ?_) (AllReadyH.nil)
  go_simp
  go_at_call 91
  refine (gExp_any P Q G G m HG.out.1 HG.out.2 HM.out.1 HM.out.2 HP.out.1 HP.out.2 HQ.out.1 HQ.out.2 _).mono ?_
  rw [P1.out]
  rintro e' Wsf ⟨rfl, hb⟩
  have HB_sf := Lib.hid (bt HB_s.out hb)
  have G_sf := Lib.hid (G_s.out.below hb)
  have V_sf := Lib.hid (V_s.out.below hb)
  clear hb
  go_wp2_with fail
  refine hK.out _ _ (show _ from ⟨⟨G_sf.out.1, G_sf.out.2.1, G_sf.out.2.2⟩, V_sf.out.1, V_sf.out.2⟩) (fun hHeld => ?_)
  clear hK K
  try simp only [Act.put, List.getElem_toArray, List.getElem_cons_succ, List.getElem_cons_zero, List.setIfInBounds_toArray, List.set_cons_zero, List.set_cons_succ]
  refine wpAnyH_ready (rs := [10]) (by kernel_rfl) (by simp) ?_
  refine AllReadyH.cons rfl (fun K hK => ?_) (AllReadyH.nil)
  go_simp
  go_at_call 91
  refine (gExp_any P Q G H r HH.out.1 HH.out.2 HR.out.1 HR.out.2 HP.out.1 HP.out.2 HQ.out.1 HQ.out.2 _).mono ?_
  rw [P2.out]
  rintro e' Wsfk ⟨rfl, hb⟩
  have HB_sfk := Lib.hid (bt HB_sf.out hb)
  have G_sfk := Lib.hid (G_sf.out.below hb)
  have V_sfk := Lib.hid (V_sf.out.below hb)
  clear hb
  go_wp2_with fail
  refine hK.out _ _ (show _ from ⟨⟨G_sfk.out.1, G_sfk.out.2.1, G_sfk.out.2.2⟩, V_sfk.out.1, V_sfk.out.2⟩) (fun hHeld => ?_)
  clear hK K
  try simp only [Act.put, List.getElem_toArray, List.getElem_cons_succ, List.getElem_cons_zero, List.setIfInBounds_toArray, List.set_cons_zero, List.set_cons_succ]
  refine wpAnyH_ready (rs := [11]) (by kernel_rfl) (by simp) ?_
  refine AllReadyH.cons rfl (fun K hK => ?_) (AllReadyH.nil)
  go_simp
  have hb := ba Wsfk (.cells #[.int .i64 p1, .int .i64 p2] 3)
  have HB_sfkl := Lib.hid (bt HB_sfk.out hb)
  have G_sfkl := Lib.hid (G_sfk.out.below hb)
  have V_sfkl := Lib.hid (V_sfk.out.below hb)
  have L_sfkl := Lib.hid (show IsInts (Wsfk.alloc (.cells #[.int .i64 p1, .int .i64 p2] 3)) (some ⟨Wsfk.heap.size, 0, none⟩) [p1, p2] from ints_spot Wsfk _ rfl [p1, p2] 3)
  clear hb
  refine hK.out _ _ (show _ from ⟨⟨G_sfkl.out.1, G_sfkl.out.2.1, G_sfkl.out.2.2⟩, V_sfkl.out.1, V_sfkl.out.2⟩) (fun hHeld => ?_)
  clear hK K
  try simp only [Act.put, List.getElem_toArray, List.getElem_cons_succ, List.getElem_cons_zero, List.setIfInBounds_toArray, List.set_cons_zero, List.set_cons_succ]
  generalize hW9 : Wsfk.alloc (.cells #[.int .i64 p1, .int .i64 p2] 3) = Wsfkl at *
  clear hW9
  refine wpAnyH_ready (rs := [12]) (by kernel_rfl) (by simp) ?_
  refine AllReadyH.cons rfl (fun K hK => ?_) (AllReadyH.nil)
  go_simp
  go_at_call 132
  refine (gMul_any P Q G _ 2 2 [p1, p2] rfl (by decide) HP.out.1 HP.out.2 HPP.out _ L_sfkl.out).mono ?_
  rw [EM.out]
  rintro e' Wsfklm ⟨rfl, hb⟩
  have HB_sfklm := Lib.hid (bt HB_sfkl.out hb)
  have G_sfklm := Lib.hid (G_sfkl.out.below hb)
  have V_sfklm := Lib.hid (V_sfkl.out.below hb)
  clear hb
  go_wp2_with fail
  refine hK.out _ _ (show _ from ⟨⟨G_sfklm.out.1, G_sfklm.out.2.1, G_sfklm.out.2.2⟩, V_sfklm.out.1, V_sfklm.out.2⟩) (fun hHeld => ?_)
  clear hK K
  try simp only [Act.put, List.getElem_toArray, List.getElem_cons_succ, List.getElem_cons_zero, List.setIfInBounds_toArray, List.set_cons_zero, List.set_cons_succ]
  refine wpAnyH_take (i := 13) (v := ?_) rfl (by kernel_rfl) (by kernel_rfl) (by kernel_rfl) (fun _ _ _ h => h) (Or.inl ⟨by kernel_rfl, ?_⟩) (by assumption) ?_
  rotate_left 1
  · intro w9 hSw
    try dsimp only at hSw
    go_simp
    try with_reducible rfl
  try simp only [Act.put, List.getElem_toArray, List.getElem_cons_succ, List.getElem_cons_zero, List.setIfInBounds_toArray, List.set_cons_zero, List.set_cons_succ]
  refine wpAnyH_done (by kernel_rfl) ?_ _
  go_wp2
  go_ret
  exact ⟨rfl, HB_sfklm.out⟩

theorem in_pair {Q a b : Int} (h : allIn [a, b] 0 (Q - 1) = true) : (0 ≤ a ∧ a < Q) ∧ 0 ≤ b ∧ b < Q := by
  simp only [allIn, List.all_cons, List.all_nil, Bool.and_true, Bool.and_eq_true, inB_true] at h
  omega

theorem el_list1 (P Q c : Int) : allEl P Q [c] = elB P Q c := by simp [allEl]
theorem co_on {P Q c v : Int} {b : Bool} (h : coB P Q c b = true) : coV P Q c b v = decide (c = v) := by unfold coV; rw [h, Bool.true_and]

theorem mul_mod3 (P a b x : Int) : a * b % P * x % P = a * (b * x % P) % P := by
  rw [Int.mul_emod (a * b % P) x P, Int.emod_emod, ← Int.mul_emod, Int.mul_emod a (b * x % P) P, Int.emod_emod, ← Int.mul_emod, Int.mul_assoc]
theorem pows_acc {P : Int} : ∀ (zs es : List Int) (a b : Int), powsFrom P (a * b % P) zs es % P = a * powsFrom P b zs es % P
  | [], _, a, b => by simp [powsFrom]
  | _ :: _, [], a, b => by simp [powsFrom]
  | z :: zs, e :: es, a, b => by
    show powsFrom P (a * b % P * Num.pow z e P % P) zs es % P = a * powsFrom P (b * Num.pow z e P % P) zs es % P
    rw [← pows_acc (P := P) zs es a (b * Num.pow z e P % P), mul_mod3]
theorem cv_ref {P Q G H r : Int} {hs l : List Int} (hg : goodB P Q G = true) (hH : elB P Q H = true) (hr : 0 ≤ r ∧ r < Q) (ha : allEl P Q hs = true) (hl : allIn l 0 (Q - 1) = true) :
    mulFrom P 1 [Num.pow H r P, powsFrom P 1 (hs.take l.length) l] = cvW P H hs l r := by
  have hP := (good_mo hg).1.1
  have h := pow_lt H r P hP
  rw [mul_two h.1 h.2]
  have h2 := pows_acc (P := P) (hs.take l.length) l (Num.pow H r P) 1
  rw [Int.mul_one] at h2
  have e1 : elB P Q (Num.pow H r P) = true := el_pow hg hH hr.1
  have h3 := el_rng (pows_el hg (hs.take l.length) l (1 * Num.pow H r P % P) (by rw [Int.one_mul, Int.emod_eq_of_lt h.1 h.2]; exact e1) (all_take ha _) hl)
  unfold cvW
  show _ = powsFrom P (1 * Num.pow H r P % P) (hs.take l.length) l
  rw [Int.one_mul] at h3 ⊢
  rw [← h2, Int.emod_eq_of_lt (by omega) h3.2]

theorem in_single {Q a : Int} (h : allIn [a] 0 (Q - 1) = true) : 0 ≤ a ∧ a < Q := by
  simp only [allIn, List.all_cons, List.all_nil, Bool.and_true, inB_true] at h
  omega
theorem cv_split (P Q G H : Int) (hs l : List Int) (r : Int) : cvB P Q G H hs l r = (bsB P Q G H hs && (decide (l.length ≤ hs.length) && (allIn l 0 (Q - 1) && allIn [r] 0 (Q - 1)))) := by
  unfold cvB
  have e : allIn (r :: l) 0 (Q - 1) = (allIn l 0 (Q - 1) && allIn [r] 0 (Q - 1)) := by
    simp only [allIn, List.all_cons, List.all_nil, Bool.and_true]
    exact Bool.and_comm _ _
  rw [e]

end Go.Proofs.Ytfjaohmildkeoaa

