/- Plain words for commitments, and where bases and their makers lie. -/
import Derived.Test.YtdnofcpobpoehaaGrG
import Derived.Test.YtdnofcpobpoehaaElA
import Derived.Test.YtdnofcpobpoehaaTyI
import Derived.Test.YtdnofcpobpoehaaSigA
import Derived.Deep.Slices
import Derived.OpenShut
import Derived.Lib.SmallJoins
import Derived.Test.YtdnofcpobpoehaaG7
import Derived.Deep.RegionHeld3
namespace Go.Proofs.Ytdnofcpobpoehaa
open Go.RowKit
set_option linter.unusedVariables false
set_option linter.unusedSimpArgs false

/-! ### Bases, commitments -/
def baB (P Q x : Int) : Bool := decide (x ≠ 1) && elB P Q x
def basB (P Q : Int) (zs : List Int) : Bool := decide (zs.length ≤ 24) && zs.all fun z => baB P Q z
def bsB (P Q G H : Int) (hs : List Int) : Bool := goodB P Q G && (baB P Q H && basB P Q hs)
theorem bs_true {P Q G H : Int} {hs : List Int} : bsB P Q G H hs = true ↔ goodB P Q G = true ∧ (H ≠ 1 ∧ elB P Q H = true) ∧ hs.length ≤ 24 ∧ ∀ z ∈ hs, z ≠ 1 ∧ elB P Q z = true := by
  simp [bsB, baB, basB]
theorem bs_good {P Q G H : Int} {hs : List Int} (h : bsB P Q G H hs = true) : goodB P Q G = true := (bs_true.1 h).1
theorem bs_H {P Q G H : Int} {hs : List Int} (h : bsB P Q G H hs = true) : elB P Q H = true := (bs_true.1 h).2.1.2
theorem bs_all {P Q G H : Int} {hs : List Int} (h : bsB P Q G H hs = true) : allEl P Q hs = true := by
  unfold allEl; rw [List.all_eq_true]; exact fun z hz => ((bs_true.1 h).2.2.2 z hz).2
def mpB (P Q G H : Int) (hs us xs : List Int) : Bool := bsB P Q G H hs && powsOk P Q us xs
def mpV (P Q G H : Int) (hs us xs : List Int) : Int := if mpB P Q G H hs us xs then powsFrom P 1 us xs else 0
def cmW (P G H m r : Int) : Int := Num.pow G m P * Num.pow H r P % P
def cmB (P Q G H : Int) (hs : List Int) (m r : Int) : Bool := bsB P Q G H hs && allIn [m, r] 0 (Q - 1)
def cmV (P Q G H : Int) (hs : List Int) (m r : Int) : Int := if cmB P Q G H hs m r then cmW P G H m r else 0
theorem pows_two {P a b x y : Int} (hP : 2 ≤ P) : powsFrom P 1 [a, b] [x, y] = Num.pow a x P * Num.pow b y P % P := by
  have h := pow_lt a x P hP
  show 1 * Num.pow a x P % P * Num.pow b y P % P = _
  rw [Int.one_mul, Int.emod_eq_of_lt h.1 h.2]
theorem mp_two (P Q G H m r : Int) (hs : List Int) : mpV P Q G H hs [G, H] [m, r] = cmV P Q G H hs m r ∧ mpB P Q G H hs [G, H] [m, r] = cmB P Q G H hs m r := by
  have e : mpB P Q G H hs [G, H] [m, r] = cmB P Q G H hs m r := by
    unfold mpB cmB
    cases h : bsB P Q G H hs
    · rfl
    · rw [powsOk_all P Q [G, H] [m, r] rfl, show allEl P Q [G, H] = true by simp [allEl, good_el (bs_good h), bs_H h]]; rfl
  refine ⟨?_, e⟩
  unfold mpV cmV
  rw [e]
  cases h : cmB P Q G H hs m r
  · rfl
  · have hb : bsB P Q G H hs = true := by unfold cmB at h; rw [Bool.and_eq_true] at h; exact h.1
    simp only [if_true]
    exact pows_two (good_mo (bs_good hb)).1.1

theorem cm_bs {P Q G H : Int} {hs : List Int} {m r : Int} (h : cmB P Q G H hs m r = true) : bsB P Q G H hs = true := by
  unfold cmB at h; rw [Bool.and_eq_true] at h; exact h.1
/-- Commitments to lists. -/
def cvB (P Q G H : Int) (hs l : List Int) (r : Int) : Bool := bsB P Q G H hs && (decide (l.length ≤ hs.length) && allIn (r :: l) 0 (Q - 1))
def cvW (P H : Int) (hs l : List Int) (r : Int) : Int := powsFrom P 1 (H :: hs.take l.length) (r :: l)
def cvV (P Q G H : Int) (hs l : List Int) (r : Int) : Int := if cvB P Q G H hs l r then cvW P H hs l r else 0
theorem cv_bs {P Q G H : Int} {hs l : List Int} {r : Int} (h : cvB P Q G H hs l r = true) : bsB P Q G H hs = true := by
  unfold cvB at h; rw [Bool.and_eq_true] at h; exact h.1
theorem all_take {P Q : Int} {zs : List Int} (h : allEl P Q zs = true) (k : Nat) : allEl P Q (zs.take k) = true := by
  unfold allEl at *
  rw [List.all_eq_true] at *
  exact fun z hz => h z (List.mem_of_mem_take hz)
theorem mp_vec (P Q G H : Int) (hs l : List Int) (r : Int) (hl : l.length ≤ hs.length) : mpV P Q G H hs ([H] ++ hs.take l.length) ([r] ++ l) = cvV P Q G H hs l r ∧ mpB P Q G H hs ([H] ++ hs.take l.length) ([r] ++ l) = cvB P Q G H hs l r := by
  have e : mpB P Q G H hs ([H] ++ hs.take l.length) ([r] ++ l) = cvB P Q G H hs l r := by
    unfold mpB cvB
    cases h : bsB P Q G H hs
    · rfl
    · have ha : allEl P Q (H :: hs.take l.length) = true := by
        have h1 := all_take (bs_all h) l.length
        unfold allEl at h1 ⊢
        rw [List.all_cons, bs_H h, h1]; rfl
      rw [List.singleton_append, List.singleton_append, powsOk_all P Q (H :: hs.take l.length) (r :: l) (by simp; omega), ha, decide_eq_true hl]
  refine ⟨?_, e⟩
  unfold mpV cvV
  rw [e]
  rfl
/-- Whether an element is the commitment. -/
def coB (P Q c : Int) (b : Bool) : Bool := b && elB P Q c
def coV (P Q c : Int) (b : Bool) (v : Int) : Bool := coB P Q c b && decide (c = v)
theorem InI.cap {B : Nat} {w : World} {ad : Option Addr} {n cap : Nat} {zs : List Int} (h : InI B w (.slice ad n cap) zs) : zs.length ≤ cap := by
  obtain ⟨h0, ad', cap', h1, h2, h3, h4⟩ := h
  simp only [Value.slice.injEq] at h1
  obtain ⟨_, _, rfl⟩ := h1
  exact h4

/-! ### Where they lie -/
def D2 (w : World) (b : Nat) (x y : Value) : Prop := w.cell? ⟨b, 0, none⟩ = some x ∧ w.cell? ⟨b, 1, none⟩ = some y
theorem d2_at (w : World) (b : Nat) (hb : w.heap.size = b) (x y : Value) (t : TypeId) : D2 (w.alloc (.cells #[x, y] t)) b x y := by
  subst hb; exact ⟨World.cell?_alloc_at _ _ _ _ rfl, World.cell?_alloc_at _ _ _ _ rfl⟩
theorem D2.lt {w : World} {b : Nat} {x y : Value} (h : D2 w b x y) : b < w.heap.size := World.block_lt_of_cell? w _ h.1
theorem D2.below {w w' : World} {b : Nat} {x y : Value} (h : D2 w b x y) (hb : Below w.heap.size w w') : D2 w' b x y := by
  have hl := h.lt
  exact ⟨by rw [hb.cell (p := ⟨b, 0, none⟩) hl]; exact h.1, by rw [hb.cell (p := ⟨b, 1, none⟩) hl]; exact h.2⟩
theorem D2.drew {w : World} {b : Nat} {x y : Value} (h : D2 w b x y) : D2 w.drew b x y := h
def D5 (w : World) (b : Nat) (P Q G H : Int) (y : Value) : Prop := GR w b P Q G ∧ w.cell? ⟨b, 3, none⟩ = some (.int .i64 H) ∧ w.cell? ⟨b, 4, none⟩ = some y
theorem d5_at (w : World) (b : Nat) (hb : w.heap.size = b) (P Q G H : Int) (y : Value) (t : TypeId) : D5 (w.alloc (.cells #[.int .i64 P, .int .i64 Q, .int .i64 G, .int .i64 H, y] t)) b P Q G H y := by
  subst hb
  exact ⟨⟨World.cell?_alloc_at _ _ _ _ rfl, World.cell?_alloc_at _ _ _ _ rfl, World.cell?_alloc_at _ _ _ _ rfl⟩, World.cell?_alloc_at _ _ _ _ rfl, World.cell?_alloc_at _ _ _ _ rfl⟩
theorem D5.below {w w' : World} {b : Nat} {P Q G H : Int} {y : Value} (h : D5 w b P Q G H y) (hb : Below w.heap.size w w') : D5 w' b P Q G H y := by
  have hl := h.1.lt
  exact ⟨h.1.below hb, by rw [hb.cell (p := ⟨b, 3, none⟩) hl]; exact h.2.1, by rw [hb.cell (p := ⟨b, 4, none⟩) hl]; exact h.2.2⟩
theorem D5.drew {w : World} {b : Nat} {P Q G H : Int} {y : Value} (h : D5 w b P Q G H y) : D5 w.drew b P Q G H y := h
theorem inI_at (w : World) (b : Nat) (hb : w.heap.size = b) (zs : List Int) (t : TypeId) : InI (w.alloc (.cells (zs.map (Value.int .i64)).toArray t)).heap.size (w.alloc (.cells (zs.map (Value.int .i64)).toArray t)) (.slice (some ⟨b, 0, none⟩) zs.length zs.length) zs := by
  subst hb
  exact InI.of (ints_spot w _ rfl zs t) (fun h => by cases h) (Nat.le_refl _)

end Go.Proofs.Ytdnofcpobpoehaa

/- Chapter 9, the program: bases, commitments, checks of openings. -/
namespace Go.Proofs.Ytdnofcpobpoehaa
open Go.RowKit
set_option linter.unusedVariables false
set_option linter.unusedSimpArgs false

theorem hasBase_any (P Q G x : Int) (hm : Mo P Q) (w : World) :
    Calls Try.prog 68 #[gv P Q G, .int .i64 x] w fun e w' => e = .returned (.bool (baB P Q x)) ∧ Below w.heap.size w w' := by
  have H0 := Lib.hid (gr_new w P Q G 29)
  obtain ⟨c0, c1, c2⟩ := H0.out
  by_cases h : x = 1
  · subst h
    have e1 : baB P Q 1 = false := by simp [baB]
    rw [e1]
    clear e1
    go_enter Try.func68, Try.ntmps68
    go_wp2
    go_ret
    exact ⟨rfl, ba _ _⟩
  · have e1 : baB P Q x = elB P Q x := by simp [baB, h]
    have hx : (x != 1) = true := by simpa using h
    rw [e1]
    clear e1 h
    go_enter Try.func68, Try.ntmps68
    go_wp2_with fail
    refine (hasElement_any P Q G x hm _).mono ?_
    rintro e w2 ⟨rfl, hb2⟩
    have HB2 := Lib.hid (bt (ba _ _) hb2)
    clear hb2
    go_wp2
    go_ret
    exact ⟨rfl, HB2.out⟩

set_option maxHeartbeats 1600000 in
theorem allBas_any (P Q G : Int) (hm : Mo P Q) (ad : Option Addr) (n cap : Nat) (zs : List Int) (hn : zs.length = n) (hl : n ≤ 1152921504606846976) (w : World) (hz : IsInts w ad zs) :
    Calls Try.prog 116 #[.slice ad n cap, .func (.func 68) #[gv P Q G] #[]] w fun e w' => e = .returned (.bool (zs.all fun z => baB P Q z)) ∧ Below w.heap.size w w' := by
  go_enter Try.func116, Try.ntmps116
  go_wp2
  go_loopw [6, 9] (fun _ K wr => ∃ k : Nat, k ≤ n ∧ K = .int .i64 k ∧ (zs.all fun z => baB P Q z) = ((zs.drop k).all fun z => baB P Q z) ∧ Below w.heap.size w wr) (fun _ K _ => n - (intOf K).toNat)
  case atStart => exact ⟨0, Nat.zero_le _, rfl, rfl, Below.refl _ _⟩
  case round =>
    obtain ⟨k, hk, rfl, he, hbel⟩ := hrel
    by_cases hkn : k < n
    · obtain ⟨b, off, z, rfl, hb, hc, hd⟩ := (hz.below hbel (Nat.le_refl _)).at (k := k) (by omega)
      have HS := Lib.hid (all_step hd he)
      have HB := Lib.hid hbel
      clear he hd hbel
      cases hi' : baB P Q z
      · have HI := Lib.hid hi'
        clear hi'
        go_wp2_with fail
        refine (hasBase_any P Q G z hm _).mono ?_
        rintro e w1 ⟨rfl, hb1⟩
        rw [HI.out]
        have HB1 := Lib.hid (bt HB.out hb1)
        clear hb1
        go_wp2
        go_ret
        exact ⟨by rw [HS.out.2 HI.out]; rfl, HB1.out⟩
      · have HI := Lib.hid hi'
        clear hi'
        go_wp2_with fail
        refine (hasBase_any P Q G z hm _).mono ?_
        rintro e w1 ⟨rfl, hb1⟩
        rw [HI.out]
        have HB1 := Lib.hid (bt HB.out hb1)
        clear hb1
        go_wp2
        go_roundw
        case rel => exact ⟨k + 1, by omega, by go_num, HS.out.1 HI.out, HB1.out⟩
        case measure => simp only [intOf]; omega
    · have HE := Lib.hid he
      have HB := Lib.hid hbel
      clear he hbel
      go_wp2
      go_ret
      refine ⟨?_, HB.out⟩
      rw [HE.out, List.drop_of_length_le (by omega)]; rfl

set_option maxHeartbeats 1600000 in
theorem listOfBas_any (P Q G : Int) (hm : Mo P Q) (ad : Option Addr) (n cap : Nat) (zs : List Int) (hn : zs.length = n) (hl : n ≤ 1152921504606846976) (w : World) (hz : IsInts w ad zs) :
    Calls Try.prog 69 #[.slice ad n cap, .func (.func 68) #[gv P Q G] #[]] w fun e w' => e = .returned (.bool (basB P Q zs)) ∧ Below w.heap.size w w' := by
  by_cases h24 : n ≤ 24
  · have h2i : (n : Int) ≤ 24 := by omega
    have hr : basB P Q zs = zs.all fun z => baB P Q z := by simp [basB, hn, h24]
    rw [hr]
    have HN := Lib.hid hn
    clear hr hn
    go_enter Try.func69, Try.ntmps69
    go_wp2_with fail
    refine (allBas_any P Q G hm ad n cap zs HN.out hl _ hz).mono ?_
    rintro e w1 ⟨rfl, hb1⟩
    have HB1 := Lib.hid hb1
    clear hb1
    go_wp2
    go_ret
    exact ⟨rfl, HB1.out⟩
  · have h2i : (24 : Int) < (n : Int) := by omega
    have hr : basB P Q zs = false := by simp [basB, hn]; omega
    rw [hr]
    clear hr
    go_enter Try.func69, Try.ntmps69
    go_wp2
    go_ret
    exact ⟨rfl, Below.refl _ _⟩


set_option maxRecDepth 100000 in
set_option maxHeartbeats 3200000 in
theorem isValidBases_any (P Q G H : Int) {B : Nat} {y : Value} {hs : List Int} (hl : hs.length ≤ 1152921504606846976) {w : World} (hy : InI B w y hs) :
    Calls Try.prog 19 #[gv P Q G, .agg #[.int .i64 H, y]] w fun e w' => e = .returned (.bool (bsB P Q G H hs)) ∧ Below w.heap.size w w' := by
  obtain ⟨ya, yc, rfl⟩ := hy.shape
  have G_0 := Lib.hid ((gr_at w (w.heap.size) (by simp) P Q G 29).below (ba (w.alloc (.cells #[.int .i64 P, .int .i64 Q, .int .i64 G] 29)) (.cells #[.int .i64 H, .slice ya hs.length yc] 31)))
  have V_0 := Lib.hid (d2_at (w.alloc (.cells #[.int .i64 P, .int .i64 Q, .int .i64 G] 29)) (w.heap.size + 1) (by simp) (.int .i64 H) (.slice ya hs.length yc) 31)
  have HB_0 := Lib.hid (show Below w.heap.size w ((w.alloc (.cells #[.int .i64 P, .int .i64 Q, .int .i64 G] 29)).alloc (.cells #[.int .i64 H, .slice ya hs.length yc] 31)) from bt (ba _ _) (ba _ _))
  have Y_0 := Lib.hid (hy.below HB_0.out)
  clear hy
  cases h0 : goodB P Q G
  · have K0 := Lib.hid (show goodB P Q G = false from h0)
    have E1 := Lib.hid (show bsB P Q G H hs = false by simp [bsB, h0])
    rw [E1.out]
    clear h0
    obtain ⟨gG0, gG1, gG2⟩ := G_0.out
    obtain ⟨cV0, cV1⟩ := V_0.out
    go_enter Try.func19, Try.ntmps19
    go_wp2_with fail
    refine (isValidGroup_any P Q G _).mono ?_
    rw [K0.out]
    rintro e v1 ⟨rfl, hb⟩
    have HB_1 := Lib.hid (bt HB_0.out hb)
    have G_1 := Lib.hid (G_0.out.below hb)
    have V_1 := Lib.hid (V_0.out.below hb)
    have Y_1 := Lib.hid (Y_0.out.below hb)
    clear hb gG0 gG1 gG2 cV0 cV1
    obtain ⟨gG0, gG1, gG2⟩ := G_1.out
    obtain ⟨cV0, cV1⟩ := V_1.out
    go_wp2
    go_ret
    exact ⟨rfl, HB_1.out⟩
  have K0 := Lib.hid (show goodB P Q G = true from h0)
  have hmo := good_mo h0
  cases h1 : baB P Q H
  · have K1 := Lib.hid (show baB P Q H = false from h1)
    have E1 := Lib.hid (show bsB P Q G H hs = false by simp [bsB, h0, h1])
    rw [E1.out]
    clear h0 h1
    obtain ⟨gG0, gG1, gG2⟩ := G_0.out
    obtain ⟨cV0, cV1⟩ := V_0.out
    go_enter Try.func19, Try.ntmps19
    go_wp2_with fail
    refine (isValidGroup_any P Q G _).mono ?_
    rw [K0.out]
    rintro e v1 ⟨rfl, hb⟩
    have HB_1 := Lib.hid (bt HB_0.out hb)
    have G_1 := Lib.hid (G_0.out.below hb)
    have V_1 := Lib.hid (V_0.out.below hb)
    have Y_1 := Lib.hid (Y_0.out.below hb)
    clear hb gG0 gG1 gG2 cV0 cV1
    obtain ⟨gG0, gG1, gG2⟩ := G_1.out
    obtain ⟨cV0, cV1⟩ := V_1.out
    go_wp2_with fail
    refine (hasBase_any P Q G H hmo _).mono ?_
    rw [K1.out]
    rintro e v2 ⟨rfl, hb⟩
    have HB_2 := Lib.hid (bt HB_1.out hb)
    have G_2 := Lib.hid (G_1.out.below hb)
    have V_2 := Lib.hid (V_1.out.below hb)
    have Y_2 := Lib.hid (Y_1.out.below hb)
    clear hb gG0 gG1 gG2 cV0 cV1
    obtain ⟨gG0, gG1, gG2⟩ := G_2.out
    obtain ⟨cV0, cV1⟩ := V_2.out
    go_wp2
    go_ret
    exact ⟨rfl, HB_2.out⟩
  have K1 := Lib.hid (show baB P Q H = true from h1)
  cases h2 : basB P Q hs
  · have K2 := Lib.hid (show basB P Q hs = false from h2)
    have E1 := Lib.hid (show bsB P Q G H hs = false by simp [bsB, h0, h1, h2])
    rw [E1.out]
    clear h0 h1 h2
    obtain ⟨gG0, gG1, gG2⟩ := G_0.out
    obtain ⟨cV0, cV1⟩ := V_0.out
    go_enter Try.func19, Try.ntmps19
    go_wp2_with fail
    refine (isValidGroup_any P Q G _).mono ?_
    rw [K0.out]
    rintro e v1 ⟨rfl, hb⟩
    have HB_1 := Lib.hid (bt HB_0.out hb)
    have G_1 := Lib.hid (G_0.out.below hb)
    have V_1 := Lib.hid (V_0.out.below hb)
    have Y_1 := Lib.hid (Y_0.out.below hb)
    clear hb gG0 gG1 gG2 cV0 cV1
    obtain ⟨gG0, gG1, gG2⟩ := G_1.out
    obtain ⟨cV0, cV1⟩ := V_1.out
    go_wp2_with fail
    refine (hasBase_any P Q G H hmo _).mono ?_
    rw [K1.out]
    rintro e v2 ⟨rfl, hb⟩
    have HB_2 := Lib.hid (bt HB_1.out hb)
    have G_2 := Lib.hid (G_1.out.below hb)
    have V_2 := Lib.hid (V_1.out.below hb)
    have Y_2 := Lib.hid (Y_1.out.below hb)
    clear hb gG0 gG1 gG2 cV0 cV1
    obtain ⟨gG0, gG1, gG2⟩ := G_2.out
    obtain ⟨cV0, cV1⟩ := V_2.out
    go_wp2_with fail
    refine (listOfBas_any P Q G hmo ya hs.length yc hs rfl hl _ (Y_2.out.ints).1).mono ?_
    rw [K2.out]
    rintro e v3 ⟨rfl, hb⟩
    have HB_3 := Lib.hid (bt HB_2.out hb)
    have G_3 := Lib.hid (G_2.out.below hb)
    have V_3 := Lib.hid (V_2.out.below hb)
    have Y_3 := Lib.hid (Y_2.out.below hb)
    clear hb gG0 gG1 gG2 cV0 cV1
    obtain ⟨gG0, gG1, gG2⟩ := G_3.out
    obtain ⟨cV0, cV1⟩ := V_3.out
    go_wp2
    go_ret
    exact ⟨rfl, HB_3.out⟩
  have K2 := Lib.hid (show basB P Q hs = true from h2)
  have E1 := Lib.hid (show bsB P Q G H hs = true by simp [bsB, h0, h1, h2])
  rw [E1.out]
  clear h0 h1 h2
  obtain ⟨gG0, gG1, gG2⟩ := G_0.out
  obtain ⟨cV0, cV1⟩ := V_0.out
  go_enter Try.func19, Try.ntmps19
  go_wp2_with fail
  refine (isValidGroup_any P Q G _).mono ?_
  rw [K0.out]
  rintro e v1 ⟨rfl, hb⟩
  have HB_1 := Lib.hid (bt HB_0.out hb)
  have G_1 := Lib.hid (G_0.out.below hb)
  have V_1 := Lib.hid (V_0.out.below hb)
  have Y_1 := Lib.hid (Y_0.out.below hb)
  clear hb gG0 gG1 gG2 cV0 cV1
  obtain ⟨gG0, gG1, gG2⟩ := G_1.out
  obtain ⟨cV0, cV1⟩ := V_1.out
  go_wp2_with fail
  refine (hasBase_any P Q G H hmo _).mono ?_
  rw [K1.out]
  rintro e v2 ⟨rfl, hb⟩
  have HB_2 := Lib.hid (bt HB_1.out hb)
  have G_2 := Lib.hid (G_1.out.below hb)
  have V_2 := Lib.hid (V_1.out.below hb)
  have Y_2 := Lib.hid (Y_1.out.below hb)
  clear hb gG0 gG1 gG2 cV0 cV1
  obtain ⟨gG0, gG1, gG2⟩ := G_2.out
  obtain ⟨cV0, cV1⟩ := V_2.out
  go_wp2_with fail
  refine (listOfBas_any P Q G hmo ya hs.length yc hs rfl hl _ (Y_2.out.ints).1).mono ?_
  rw [K2.out]
  rintro e v3 ⟨rfl, hb⟩
  have HB_3 := Lib.hid (bt HB_2.out hb)
  have G_3 := Lib.hid (G_2.out.below hb)
  have V_3 := Lib.hid (V_2.out.below hb)
  have Y_3 := Lib.hid (Y_2.out.below hb)
  clear hb gG0 gG1 gG2 cV0 cV1
  obtain ⟨gG0, gG1, gG2⟩ := G_3.out
  obtain ⟨cV0, cV1⟩ := V_3.out
  go_wp2
  go_ret
  exact ⟨rfl, HB_3.out⟩

set_option maxRecDepth 100000 in
set_option maxHeartbeats 3200000 in
theorem multiply_any (P Q G H : Int) {B : Nat} {y : Value} {hs : List Int} (hl : hs.length ≤ 1152921504606846976) {B1 B2 : Nat} {us xs : List Int} {u1 u2 : Value} (hul : bsB P Q G H hs = true → us.length ≤ 100) (hxl : xs.length = us.length) {w : World} (hy : InI B w y hs) (hu : InI B1 w u1 us) (hx : InI B2 w u2 xs) :
    Calls Try.prog 120 #[.agg #[.int .i64 P, .int .i64 Q, .int .i64 G, .int .i64 H, y], u1, u2] w fun e w' => e = .returned (.tuple #[.int .i64 (mpV P Q G H hs us xs), .bool (mpB P Q G H hs us xs)]) ∧ Below w.heap.size w w' := by
  obtain ⟨ya, yc, rfl⟩ := hy.shape
  obtain ⟨ua, uc, rfl⟩ := hu.shape
  obtain ⟨xa, xc, rfl⟩ := hx.shape
  rw [hxl]
  have K_0 := Lib.hid (d5_at w (w.heap.size) (by simp) P Q G H (.slice ya hs.length yc) 102)
  have HB_0 := Lib.hid (show Below w.heap.size w (w.alloc (.cells #[.int .i64 P, .int .i64 Q, .int .i64 G, .int .i64 H, .slice ya hs.length yc] 102)) from ba _ _)
  have Y_0 := Lib.hid (hy.below HB_0.out)
  have U_0 := Lib.hid (hu.below HB_0.out)
  have X_0 := Lib.hid (hx.below HB_0.out)
  rw [hxl] at X_0
  have HXL := Lib.hid hxl
  clear hy hu hx hxl
  cases h0 : bsB P Q G H hs
  · have K0 := Lib.hid (show bsB P Q G H hs = false from h0)
    have E1 := Lib.hid (show mpB P Q G H hs us xs = false by simp [mpB, h0])
    have E2 := Lib.hid (show mpV P Q G H hs us xs = 0 by simp [mpV, E1.out])
    rw [E1.out, E2.out]
    clear h0
    obtain ⟨⟨cK0, cK1, cK2⟩, cK3, cK4⟩ := K_0.out
    go_enter Try.func120, Try.ntmps120
    go_wp2_with fail
    refine (isValidBases_any P Q G H hl Y_0.out).mono ?_
    rw [K0.out]
    rintro e v1 ⟨rfl, hb⟩
    have HB_1 := Lib.hid (bt HB_0.out hb)
    have K_1 := Lib.hid (K_0.out.below hb)
    have Y_1 := Lib.hid (Y_0.out.below hb)
    have U_1 := Lib.hid (U_0.out.below hb)
    have X_1 := Lib.hid (X_0.out.below hb)
    clear hb cK0 cK1 cK2 cK3 cK4
    obtain ⟨⟨cK0, cK1, cK2⟩, cK3, cK4⟩ := K_1.out
    go_wp2
    go_ret2
    exact ⟨rfl, HB_1.out⟩
  have K0 := Lib.hid (show bsB P Q G H hs = true from h0)
  have hgd := bs_good h0
  have hmo := good_mo hgd
  have E1 := Lib.hid (show mpB P Q G H hs us xs = powsOk P Q us xs by simp [mpB, h0])
  have E2 := Lib.hid (show mpV P Q G H hs us xs = powsVal P Q us xs by simp [mpV, mpB, powsVal, h0])
  have HUL := Lib.hid (hul h0)
  rw [E1.out, E2.out]
  clear h0 hgd
  obtain ⟨⟨cK0, cK1, cK2⟩, cK3, cK4⟩ := K_0.out
  go_enter Try.func120, Try.ntmps120
  go_wp2_with fail
  refine (isValidBases_any P Q G H hl Y_0.out).mono ?_
  rw [K0.out]
  rintro e v1 ⟨rfl, hb⟩
  have HB_1 := Lib.hid (bt HB_0.out hb)
  have K_1 := Lib.hid (K_0.out.below hb)
  have Y_1 := Lib.hid (Y_0.out.below hb)
  have U_1 := Lib.hid (U_0.out.below hb)
  have X_1 := Lib.hid (X_0.out.below hb)
  clear hb cK0 cK1 cK2 cK3 cK4
  obtain ⟨⟨cK0, cK1, cK2⟩, cK3, cK4⟩ := K_1.out
  go_wp2_with fail
  refine (multiplyPowers_most P Q G hmo _ _ us.length _ _ us xs rfl HXL.out (HUL.out) _ (U_1.out.ints).1 (X_1.out.ints).1).mono ?_
  rintro e' v9 ⟨rfl, hb9⟩
  have HB_9 := Lib.hid (bt HB_1.out hb9)
  clear hb9
  go_wp2
  go_ret2
  exact ⟨rfl, HB_9.out⟩

set_option maxRecDepth 100000 in
set_option maxHeartbeats 3200000 in
theorem kcommit_any (P Q G H : Int) {B : Nat} {y : Value} {hs : List Int} (hl : hs.length ≤ 1152921504606846976) (m r : Int) {w : World} (hy : InI B w y hs) :
    Calls Try.prog 72 #[.agg #[.int .i64 P, .int .i64 Q, .int .i64 G, .int .i64 H, y], .int .i64 m, .int .i64 r] w fun e w' => e = .returned (.tuple #[.int .i64 (cmV P Q G H hs m r), .bool (cmB P Q G H hs m r)]) ∧ Below w.heap.size w w' := by
  obtain ⟨ya, yc, rfl⟩ := hy.shape
  have E1 := Lib.hid (mp_two P Q G H m r hs)
  rw [← E1.out.1, ← E1.out.2]
  clear E1
  have K_0 := Lib.hid (d5_at w (w.heap.size) (by simp) P Q G H (.slice ya hs.length yc) 102)
  have HB_0 := Lib.hid (show Below w.heap.size w (w.alloc (.cells #[.int .i64 P, .int .i64 Q, .int .i64 G, .int .i64 H, .slice ya hs.length yc] 102)) from ba _ _)
  have Y_0 := Lib.hid (hy.below HB_0.out)
  clear hy
  obtain ⟨cK0, cK1, cK2⟩ := K_0.out.1
  obtain ⟨cK3, cK4⟩ := K_0.out.2
  go_enter Try.func72, Try.ntmps72
  go_wp2_with fail
  refine (multiply_any P Q G H hl (us := [G, H]) (xs := [m, r]) (fun _ => by simp) rfl ((Y_0.out.below (ba _ _)).below (ba _ _)) ((inI_at _ (w.heap.size + 1) (by simp) [G, H] 3).below (ba _ _)) (inI_at _ (w.heap.size + 1 + 1) (by simp) [m, r] 3)).mono ?_
  rintro e' v9 ⟨rfl, hb9⟩
  have HB_9 := Lib.hid (bt (bt (bt HB_0.out (ba _ _)) (ba _ _)) hb9)
  clear hb9
  go_wp2
  go_ret2
  exact ⟨rfl, HB_9.out⟩

set_option maxRecDepth 100000 in
set_option maxHeartbeats 3200000 in
theorem commit_any (P Q G H : Int) {B : Nat} {y : Value} {hs : List Int} (hl : hs.length ≤ 1152921504606846976) (m r : Int) {w : World} (hy : InI B w y hs) :
    Calls Try.prog 22 #[gv P Q G, .agg #[.int .i64 H, y], .int .i64 m, .int .i64 r] w fun e w' => e = .returned (.tuple #[.int .i64 (cmV P Q G H hs m r), .bool (cmB P Q G H hs m r)]) ∧ Below w.heap.size w w' := by
  obtain ⟨ya, yc, rfl⟩ := hy.shape
  have G_0 := Lib.hid ((gr_at w (w.heap.size) (by simp) P Q G 29).below (ba (w.alloc (.cells #[.int .i64 P, .int .i64 Q, .int .i64 G] 29)) (.cells #[.int .i64 H, .slice ya hs.length yc] 31)))
  have V_0 := Lib.hid (d2_at (w.alloc (.cells #[.int .i64 P, .int .i64 Q, .int .i64 G] 29)) (w.heap.size + 1) (by simp) (.int .i64 H) (.slice ya hs.length yc) 31)
  have HB_0 := Lib.hid (show Below w.heap.size w ((w.alloc (.cells #[.int .i64 P, .int .i64 Q, .int .i64 G] 29)).alloc (.cells #[.int .i64 H, .slice ya hs.length yc] 31)) from bt (ba _ _) (ba _ _))
  have Y_0 := Lib.hid (hy.below HB_0.out)
  clear hy
  obtain ⟨gG0, gG1, gG2⟩ := G_0.out
  obtain ⟨cV0, cV1⟩ := V_0.out
  go_enter Try.func22, Try.ntmps22
  go_wp2_with fail
  refine (kcommit_any P Q G H hl m r Y_0.out).mono ?_
  rintro e' v9 ⟨rfl, hb9⟩
  have HB_9 := Lib.hid (bt HB_0.out hb9)
  clear hb9
  go_wp2
  go_ret2
  exact ⟨rfl, HB_9.out⟩

theorem inI_take {B : Nat} {w : World} {ad : Option Addr} {n cap : Nat} {zs : List Int} (h : InI B w (.slice ad n cap) zs) {k : Nat} (hk : k ≤ zs.length) : InI B w (.slice ad k cap) (zs.take k) := by
  obtain ⟨h0, ad', cap', h1, h2, h3, h4⟩ := h
  simp only [Value.slice.injEq] at h1
  obtain ⟨rfl, _, rfl⟩ := h1
  refine ⟨h0, ad, cap, by rw [List.length_take, Nat.min_eq_left hk], ?_, h3, by rw [List.length_take]; omega⟩
  rcases h2 with h2 | ⟨b, off, h5, h6, h7, h8⟩
  · subst h2; exact .inl (by simp)
  · refine .inr ⟨b, off, h5, h6, h7, fun i hi => ?_⟩
    rw [List.length_take] at hi
    rw [h8 i (by omega)]
    simp only [List.getD_eq_getElem?_getD, List.getElem?_take]
    rw [if_pos (by omega)]

set_option maxRecDepth 100000 in
set_option maxHeartbeats 3200000 in
theorem kvector_any (P Q G H : Int) {B : Nat} {y : Value} {hs : List Int} (hl : hs.length ≤ 1048576) {C : Nat} {u : Value} {l : List Int} (ll : l.length ≤ 1048576) (r : Int) {w : World} (hy : InI B w y hs) (hu : InI C w u l) :
    Calls Try.prog 76 #[.agg #[.int .i64 P, .int .i64 Q, .int .i64 G, .int .i64 H, y], u, .int .i64 r] w fun e w' => e = .returned (.tuple #[.int .i64 (cvV P Q G H hs l r), .bool (cvB P Q G H hs l r)]) ∧ Below w.heap.size w w' := by
  obtain ⟨ya, yc, rfl⟩ := hy.shape
  obtain ⟨la, lc, rfl⟩ := hu.shape
  have K_0 := Lib.hid (d5_at w (w.heap.size) (by simp) P Q G H (.slice ya hs.length yc) 102)
  have HB_0 := Lib.hid (show Below w.heap.size w (w.alloc (.cells #[.int .i64 P, .int .i64 Q, .int .i64 G, .int .i64 H, .slice ya hs.length yc] 102)) from ba _ _)
  have Y_0 := Lib.hid (hy.below HB_0.out)
  have L_0 := Lib.hid (hu.below HB_0.out)
  obtain ⟨cK0, cK1, cK2⟩ := K_0.out.1
  obtain ⟨cK3, cK4⟩ := K_0.out.2
  have hcap := hy.cap
  by_cases hlh : ¬ l.length ≤ hs.length
  · have E1 := Lib.hid (show cvB P Q G H hs l r = false by simp [cvB, hlh])
    have E2 := Lib.hid (show cvV P Q G H hs l r = 0 by simp [cvV, E1.out])
    rw [E1.out, E2.out]
    have hgt : (hs.length : Int) < (l.length : Int) := by omega
    clear hlh hy hu
    go_enter Try.func76, Try.ntmps76
    go_wp2
    go_ret2
    exact ⟨rfl, HB_0.out⟩
  have hlh := Decidable.not_not.1 hlh
  have e1 := mp_vec P Q G H hs l r hlh
  have HLL := Lib.hid (show l.length ≤ 1048576 ∧ (hs.take l.length).length ≤ 1048576 from ⟨ll, by rw [List.length_take]; omega⟩)
  have HL9 := Lib.hid (show hs.length ≤ 1152921504606846976 by omega)
  have hu9 : bsB P Q G H hs = true → ([H] ++ hs.take l.length).length ≤ 100 := fun h => by have := (bs_true.1 h).2.2.1; simp; omega
  have hxu : ([r] ++ l).length = ([H] ++ hs.take l.length).length := by simp; omega
  obtain ⟨us, hus⟩ : ∃ us, [H] ++ hs.take l.length = us := ⟨_, rfl⟩
  obtain ⟨xs, hxs⟩ : ∃ xs, [r] ++ l = xs := ⟨_, rfl⟩
  rw [hus] at e1 hu9 hxu
  rw [hxs] at e1 hxu
  have E1 := Lib.hid e1
  have HU9 := Lib.hid hu9
  have HXU := Lib.hid hxu
  have HUS := Lib.hid hus
  have HXS := Lib.hid hxs
  clear e1 hu9 hxu hus hxs
  have HLH := Lib.hid hlh
  have U_0 := Lib.hid (inI_take Y_0.out hlh)
  have hle : ¬ (hs.length : Int) < (l.length : Int) := by omega
  have hn0 : (0 : Int) ≤ (l.length : Int) := by omega
  have hlc : (l.length : Int) ≤ (yc : Int) := by omega
  clear hy hu
  obtain ⟨W, hW⟩ : ∃ W, w.alloc (.cells #[.int .i64 P, .int .i64 Q, .int .i64 G, .int .i64 H, .slice ya hs.length yc] 102) = W := ⟨_, rfl⟩
  rw [hW] at HB_0 K_0 Y_0 L_0 U_0 cK0 cK1 cK2 cK3 cK4
  go_enter Try.func76, Try.ntmps76
  go_wp2_with fail
  clear hW
  have hbd : Below W.heap.size W W.drew := (Below.refl _ W).drew
  have HB_s := Lib.hid (bt HB_0.out hbd)
  have K_s := Lib.hid (K_0.out.below hbd)
  have Y_s := Lib.hid (Y_0.out.below hbd)
  have U_s := Lib.hid (U_0.out.below hbd)
  have L_s := Lib.hid (L_0.out.below hbd)
  clear hbd
  refine wp_region_held_drew (S := (fun w' => (w'.cell? ⟨w.heap.size, 0, none⟩ = some (.int .i64 P) ∧ w'.cell? ⟨w.heap.size, 1, none⟩ = some (.int .i64 Q) ∧ w'.cell? ⟨w.heap.size, 2, none⟩ = some (.int .i64 G)) ∧ w'.cell? ⟨w.heap.size, 3, none⟩ = some (.int .i64 H) ∧ w'.cell? ⟨w.heap.size, 4, none⟩ = some (.slice ya hs.length yc))) (by kernel_rfl) (show _ from ⟨⟨K_0.out.1.1, K_0.out.1.2.1, K_0.out.1.2.2⟩, K_0.out.2.1, K_0.out.2.2⟩) (fun hHeld => ?_)
  generalize hW0 : W.drew = Ws at *
  clear hW0
  refine wpAnyH_take (i := 0) (v := ?_) rfl (by kernel_rfl) (by kernel_rfl) (by kernel_rfl) (fun _ _ _ h => h) (Or.inl ⟨by kernel_rfl, ?_⟩) (by assumption) ?_
  rotate_left 1
  · intro w9 hSw
    try dsimp only at hSw
    go_simp
    try with_reducible rfl
  try simp only [Act.put, List.getElem_toArray, List.getElem_cons_succ, List.getElem_cons_zero, List.setIfInBounds_toArray, List.set_cons_zero, List.set_cons_succ]
  refine wpAnyH_take (i := 1) (v := ?_) rfl (by kernel_rfl) (by kernel_rfl) (by kernel_rfl) (fun _ _ _ h => h) (Or.inl ⟨by kernel_rfl, ?_⟩) (by assumption) ?_
  rotate_left 1
  · intro w9 hSw
    try dsimp only at hSw
    go_simp
    try with_reducible rfl
  try simp only [Act.put, List.getElem_toArray, List.getElem_cons_succ, List.getElem_cons_zero, List.setIfInBounds_toArray, List.set_cons_zero, List.set_cons_succ]
  refine wpAnyH_take (i := 2) (v := ?_) rfl (by kernel_rfl) (by kernel_rfl) (by kernel_rfl) (fun _ _ _ h => h) (Or.inl ⟨by kernel_rfl, ?_⟩) (by assumption) ?_
  rotate_left 1
  · intro w9 hSw
    try dsimp only at hSw
    go_simp
    try with_reducible rfl
  try simp only [Act.put, List.getElem_toArray, List.getElem_cons_succ, List.getElem_cons_zero, List.setIfInBounds_toArray, List.set_cons_zero, List.set_cons_succ]
  refine wpAnyH_take (i := 3) (v := ?_) rfl (by kernel_rfl) (by kernel_rfl) (by kernel_rfl) (fun _ _ _ h => h) (Or.inl ⟨by kernel_rfl, ?_⟩) (by assumption) ?_
  rotate_left 1
  · intro w9 hSw
    try dsimp only at hSw
    go_simp
    try with_reducible rfl
  try simp only [Act.put, List.getElem_toArray, List.getElem_cons_succ, List.getElem_cons_zero, List.setIfInBounds_toArray, List.set_cons_zero, List.set_cons_succ]
  refine wpAnyH_take (i := 5) (v := ?_) rfl (by kernel_rfl) (by kernel_rfl) (by kernel_rfl) (fun _ _ _ h => h) (Or.inl ⟨by kernel_rfl, ?_⟩) (by assumption) ?_
  rotate_left 1
  · intro w9 hSw
    try dsimp only at hSw
    go_simp
    try with_reducible rfl
  try simp only [Act.put, List.getElem_toArray, List.getElem_cons_succ, List.getElem_cons_zero, List.setIfInBounds_toArray, List.set_cons_zero, List.set_cons_succ]
  refine wpAnyH_take (i := 8) (v := ?_) rfl (by kernel_rfl) (by kernel_rfl) (by kernel_rfl) (fun _ _ _ h => h) (Or.inl ⟨by kernel_rfl, ?_⟩) (by assumption) ?_
  rotate_left 1
  · intro w9 hSw
    try dsimp only at hSw
    go_simp
    try with_reducible rfl
  try simp only [Act.put, List.getElem_toArray, List.getElem_cons_succ, List.getElem_cons_zero, List.setIfInBounds_toArray, List.set_cons_zero, List.set_cons_succ]
  refine wpAnyH_take (i := 10) (v := ?_) rfl (by kernel_rfl) (by kernel_rfl) (by kernel_rfl) (fun _ _ _ h => h) (Or.inl ⟨by kernel_rfl, ?_⟩) (by assumption) ?_
  rotate_left 1
  · intro w9 hSw
    try dsimp only at hSw
    go_simp
    try with_reducible rfl
  try simp only [Act.put, List.getElem_toArray, List.getElem_cons_succ, List.getElem_cons_zero, List.setIfInBounds_toArray, List.set_cons_zero, List.set_cons_succ]
  refine wpAnyH_ready (rs := [4, 9]) (by kernel_rfl) (by simp) ?_
  refine AllReadyH.cons rfl (fun K hK => ?_) (AllReadyH.cons rfl (fun K hK => ?_) (AllReadyH.nil))
  · go_simp
    have hb := ba Ws (.cells #[.int .i64 H] 3)
    have HB_se := Lib.hid (bt HB_s.out hb)
    have K_se := Lib.hid (K_s.out.below hb)
    have Y_se := Lib.hid (Y_s.out.below hb)
    have U_se := Lib.hid (U_s.out.below hb)
    have L_se := Lib.hid (L_s.out.below hb)
    have A_se := Lib.hid (show InI (Ws.alloc (.cells #[.int .i64 H] 3)).heap.size (Ws.alloc (.cells #[.int .i64 H] 3)) (.slice (some ⟨Ws.heap.size, 0, none⟩) 1 1) [H] from inI_at Ws _ rfl [H] 3)
    clear hb
    refine hK.out _ _ (show _ from ⟨⟨K_se.out.1.1, K_se.out.1.2.1, K_se.out.1.2.2⟩, K_se.out.2.1, K_se.out.2.2⟩) (fun hHeld => ?_)
    clear hK K
    try simp only [Act.put, List.getElem_toArray, List.getElem_cons_succ, List.getElem_cons_zero, List.setIfInBounds_toArray, List.set_cons_zero, List.set_cons_succ]
    generalize hW9 : Ws.alloc (.cells #[.int .i64 H] 3) = Wse at *
    clear hW9
    refine wpAnyH_ready (rs := [6, 9]) (by kernel_rfl) (by simp) ?_
    refine AllReadyH.cons rfl (fun K hK => ?_) (AllReadyH.cons rfl (fun K hK => ?_) (AllReadyH.nil))
    · go_simp
      have hb := ba Wse (.cells #[.slice (some ⟨Ws.heap.size, 0, none⟩) 1 1, .slice ya l.length yc] 24)
      have HB_seg := Lib.hid (bt HB_se.out hb)
      have K_seg := Lib.hid (K_se.out.below hb)
      have Y_seg := Lib.hid (Y_se.out.below hb)
      have U_seg := Lib.hid (U_se.out.below hb)
      have L_seg := Lib.hid (L_se.out.below hb)
      have A_seg := Lib.hid (A_se.out.below hb)
      have AA_seg := Lib.hid (rows_pair A_se.out U_se.out 24)
      clear hb
      refine hK.out _ _ (show _ from ⟨⟨K_seg.out.1.1, K_seg.out.1.2.1, K_seg.out.1.2.2⟩, K_seg.out.2.1, K_seg.out.2.2⟩) (fun hHeld => ?_)
      clear hK K
      try simp only [Act.put, List.getElem_toArray, List.getElem_cons_succ, List.getElem_cons_zero, List.setIfInBounds_toArray, List.set_cons_zero, List.set_cons_succ]
      generalize hW9 : Wse.alloc (.cells #[.slice (some ⟨Ws.heap.size, 0, none⟩) 1 1, .slice ya l.length yc] 24) = Wseg at *
      clear hW9
      refine wpAnyH_ready (rs := [7, 9]) (by kernel_rfl) (by simp) ?_
      refine AllReadyH.cons rfl (fun K hK => ?_) (AllReadyH.cons rfl (fun K hK => ?_) (AllReadyH.nil))
      · go_simp
        go_at_call 123
        refine (concatRows_any (by have := HLL.out; simp; omega) (by simp) AA_seg.out).mono ?_
        rw [HUS.out]
        rintro e' Wsegh ⟨rc, rfl, ho, hb⟩
        obtain ⟨oa, oc, rfl⟩ := ho.toIn.shape
        have HB_segh := Lib.hid (bt HB_seg.out hb)
        have K_segh := Lib.hid (K_seg.out.below hb)
        have Y_segh := Lib.hid (Y_seg.out.below hb)
        have U_segh := Lib.hid (U_seg.out.below hb)
        have L_segh := Lib.hid (L_seg.out.below hb)
        have A_segh := Lib.hid (A_seg.out.below hb)
        have AA_segh := Lib.hid (AA_seg.out.below hb)
        have CA_segh := Lib.hid ho.toIn
        clear ho
        clear hb
        go_wp2_with fail
        refine hK.out _ _ (show _ from ⟨⟨K_segh.out.1.1, K_segh.out.1.2.1, K_segh.out.1.2.2⟩, K_segh.out.2.1, K_segh.out.2.2⟩) (fun hHeld => ?_)
        clear hK K
        try simp only [Act.put, List.getElem_toArray, List.getElem_cons_succ, List.getElem_cons_zero, List.setIfInBounds_toArray, List.set_cons_zero, List.set_cons_succ]
        refine wpAnyH_ready (rs := [9]) (by kernel_rfl) (by simp) ?_
        refine AllReadyH.cons rfl (fun K hK => ?_) (AllReadyH.nil)
        go_simp
        have hb := ba Wsegh (.cells #[.int .i64 r] 3)
        have HB_seghj := Lib.hid (bt HB_segh.out hb)
        have K_seghj := Lib.hid (K_segh.out.below hb)
        have Y_seghj := Lib.hid (Y_segh.out.below hb)
        have U_seghj := Lib.hid (U_segh.out.below hb)
        have L_seghj := Lib.hid (L_segh.out.below hb)
        have A_seghj := Lib.hid (A_segh.out.below hb)
        have AA_seghj := Lib.hid (AA_segh.out.below hb)
        have CA_seghj := Lib.hid (CA_segh.out.below hb)
        have R_seghj := Lib.hid (show InI (Wsegh.alloc (.cells #[.int .i64 r] 3)).heap.size (Wsegh.alloc (.cells #[.int .i64 r] 3)) (.slice (some ⟨Wsegh.heap.size, 0, none⟩) 1 1) [r] from inI_at Wsegh _ rfl [r] 3)
        clear hb
        refine hK.out _ _ (show _ from ⟨⟨K_seghj.out.1.1, K_seghj.out.1.2.1, K_seghj.out.1.2.2⟩, K_seghj.out.2.1, K_seghj.out.2.2⟩) (fun hHeld => ?_)
        clear hK K
        try simp only [Act.put, List.getElem_toArray, List.getElem_cons_succ, List.getElem_cons_zero, List.setIfInBounds_toArray, List.set_cons_zero, List.set_cons_succ]
        generalize hW9 : Wsegh.alloc (.cells #[.int .i64 r] 3) = Wseghj at *
        clear hW9
        refine wpAnyH_ready (rs := [11]) (by kernel_rfl) (by simp) ?_
        refine AllReadyH.cons rfl (fun K hK => ?_) (AllReadyH.nil)
        go_simp
        have hb := ba Wseghj (.cells #[.slice (some ⟨Wsegh.heap.size, 0, none⟩) 1 1, .slice la l.length lc] 24)
        have HB_seghjl := Lib.hid (bt HB_seghj.out hb)
        have K_seghjl := Lib.hid (K_seghj.out.below hb)
        have Y_seghjl := Lib.hid (Y_seghj.out.below hb)
        have U_seghjl := Lib.hid (U_seghj.out.below hb)
        have L_seghjl := Lib.hid (L_seghj.out.below hb)
        have A_seghjl := Lib.hid (A_seghj.out.below hb)
        have AA_seghjl := Lib.hid (AA_seghj.out.below hb)
        have CA_seghjl := Lib.hid (CA_seghj.out.below hb)
        have R_seghjl := Lib.hid (R_seghj.out.below hb)
        have RR_seghjl := Lib.hid (rows_pair R_seghj.out L_seghj.out 24)
        clear hb
        refine hK.out _ _ (show _ from ⟨⟨K_seghjl.out.1.1, K_seghjl.out.1.2.1, K_seghjl.out.1.2.2⟩, K_seghjl.out.2.1, K_seghjl.out.2.2⟩) (fun hHeld => ?_)
        clear hK K
        try simp only [Act.put, List.getElem_toArray, List.getElem_cons_succ, List.getElem_cons_zero, List.setIfInBounds_toArray, List.set_cons_zero, List.set_cons_succ]
        generalize hW9 : Wseghj.alloc (.cells #[.slice (some ⟨Wsegh.heap.size, 0, none⟩) 1 1, .slice la l.length lc] 24) = Wseghjl at *
        clear hW9
        refine wpAnyH_ready (rs := [12]) (by kernel_rfl) (by simp) ?_
        refine AllReadyH.cons rfl (fun K hK => ?_) (AllReadyH.nil)
        go_simp
        go_at_call 123
        refine (concatRows_any (by have := HLL.out; simp; omega) (by simp) RR_seghjl.out).mono ?_
        rw [HXS.out]
        rintro e' Wseghjlm ⟨rc, rfl, ho, hb⟩
        obtain ⟨oa2, oc2, rfl⟩ := ho.toIn.shape
        have HB_seghjlm := Lib.hid (bt HB_seghjl.out hb)
        have K_seghjlm := Lib.hid (K_seghjl.out.below hb)
        have Y_seghjlm := Lib.hid (Y_seghjl.out.below hb)
        have U_seghjlm := Lib.hid (U_seghjl.out.below hb)
        have L_seghjlm := Lib.hid (L_seghjl.out.below hb)
        have A_seghjlm := Lib.hid (A_seghjl.out.below hb)
        have AA_seghjlm := Lib.hid (AA_seghjl.out.below hb)
        have CA_seghjlm := Lib.hid (CA_seghjl.out.below hb)
        have R_seghjlm := Lib.hid (R_seghjl.out.below hb)
        have RR_seghjlm := Lib.hid (RR_seghjl.out.below hb)
        have CR_seghjlm := Lib.hid ho.toIn
        clear ho
        clear hb
        go_wp2_with fail
        refine hK.out _ _ (show _ from ⟨⟨K_seghjlm.out.1.1, K_seghjlm.out.1.2.1, K_seghjlm.out.1.2.2⟩, K_seghjlm.out.2.1, K_seghjlm.out.2.2⟩) (fun hHeld => ?_)
        clear hK K
        try simp only [Act.put, List.getElem_toArray, List.getElem_cons_succ, List.getElem_cons_zero, List.setIfInBounds_toArray, List.set_cons_zero, List.set_cons_succ]
        refine wpAnyH_ready (rs := [13]) (by kernel_rfl) (by simp) ?_
        refine AllReadyH.cons rfl (fun K hK => ?_) (AllReadyH.nil)
        go_simp
        go_at_call 120
        refine (multiply_any P Q G H HL9.out (us := us) (xs := xs) HU9.out HXU.out Y_seghjlm.out CA_seghjlm.out CR_seghjlm.out).mono ?_
        rw [E1.out.1, E1.out.2]
        rintro e' Wseghjlmn ⟨rfl, hb⟩
        have HB_seghjlmn := Lib.hid (bt HB_seghjlm.out hb)
        have K_seghjlmn := Lib.hid (K_seghjlm.out.below hb)
        have Y_seghjlmn := Lib.hid (Y_seghjlm.out.below hb)
        have U_seghjlmn := Lib.hid (U_seghjlm.out.below hb)
        have L_seghjlmn := Lib.hid (L_seghjlm.out.below hb)
        have A_seghjlmn := Lib.hid (A_seghjlm.out.below hb)
        have AA_seghjlmn := Lib.hid (AA_seghjlm.out.below hb)
        have CA_seghjlmn := Lib.hid (CA_seghjlm.out.below hb)
        have R_seghjlmn := Lib.hid (R_seghjlm.out.below hb)
        have RR_seghjlmn := Lib.hid (RR_seghjlm.out.below hb)
        have CR_seghjlmn := Lib.hid (CR_seghjlm.out.below hb)
        clear hb
        go_wp2_with fail
        refine hK.out _ _ (show _ from ⟨⟨K_seghjlmn.out.1.1, K_seghjlmn.out.1.2.1, K_seghjlmn.out.1.2.2⟩, K_seghjlmn.out.2.1, K_seghjlmn.out.2.2⟩) (fun hHeld => ?_)
        clear hK K
        try simp only [Act.put, List.getElem_toArray, List.getElem_cons_succ, List.getElem_cons_zero, List.setIfInBounds_toArray, List.set_cons_zero, List.set_cons_succ]
        refine wpAnyH_take (i := 14) (v := ?_) rfl (by kernel_rfl) (by kernel_rfl) (by kernel_rfl) (fun _ _ _ h => h) (Or.inl ⟨by kernel_rfl, ?_⟩) (by assumption) ?_
        rotate_left 1
        · intro w9 hSw
          try dsimp only at hSw
          go_simp
          try with_reducible rfl
        try simp only [Act.put, List.getElem_toArray, List.getElem_cons_succ, List.getElem_cons_zero, List.setIfInBounds_toArray, List.set_cons_zero, List.set_cons_succ]
        refine wpAnyH_take (i := 15) (v := ?_) rfl (by kernel_rfl) (by kernel_rfl) (by kernel_rfl) (fun _ _ _ h => h) (Or.inl ⟨by kernel_rfl, ?_⟩) (by assumption) ?_
        rotate_left 1
        · intro w9 hSw
          try dsimp only at hSw
          go_simp
          try with_reducible rfl
        try simp only [Act.put, List.getElem_toArray, List.getElem_cons_succ, List.getElem_cons_zero, List.setIfInBounds_toArray, List.set_cons_zero, List.set_cons_succ]
        refine wpAnyH_take (i := 16) (v := ?_) rfl (by kernel_rfl) (by kernel_rfl) (by kernel_rfl) (fun _ _ _ h => h) (Or.inl ⟨by kernel_rfl, ?_⟩) (by assumption) ?_
        rotate_left 1
        · intro w9 hSw
          try dsimp only at hSw
          go_simp
          try with_reducible rfl
        try simp only [Act.put, List.getElem_toArray, List.getElem_cons_succ, List.getElem_cons_zero, List.setIfInBounds_toArray, List.set_cons_zero, List.set_cons_succ]
        refine wpAnyH_take (i := 17) (v := ?_) rfl (by kernel_rfl) (by kernel_rfl) (by kernel_rfl) (fun _ _ _ h => h) (Or.inl ⟨by kernel_rfl, ?_⟩) (by assumption) ?_
        rotate_left 1
        · intro w9 hSw
          try dsimp only at hSw
          go_simp
          try with_reducible rfl
        try simp only [Act.put, List.getElem_toArray, List.getElem_cons_succ, List.getElem_cons_zero, List.setIfInBounds_toArray, List.set_cons_zero, List.set_cons_succ]
        refine wpAnyH_done (by kernel_rfl) ?_ _
        go_wp2
        go_ret2
        exact ⟨rfl, HB_seghjlmn.out⟩
      · go_simp
        have hb := ba Wseg (.cells #[.int .i64 r] 3)
        have HB_segj := Lib.hid (bt HB_seg.out hb)
        have K_segj := Lib.hid (K_seg.out.below hb)
        have Y_segj := Lib.hid (Y_seg.out.below hb)
        have U_segj := Lib.hid (U_seg.out.below hb)
        have L_segj := Lib.hid (L_seg.out.below hb)
        have A_segj := Lib.hid (A_seg.out.below hb)
        have AA_segj := Lib.hid (AA_seg.out.below hb)
        have R_segj := Lib.hid (show InI (Wseg.alloc (.cells #[.int .i64 r] 3)).heap.size (Wseg.alloc (.cells #[.int .i64 r] 3)) (.slice (some ⟨Wseg.heap.size, 0, none⟩) 1 1) [r] from inI_at Wseg _ rfl [r] 3)
        clear hb
        refine hK.out _ _ (show _ from ⟨⟨K_segj.out.1.1, K_segj.out.1.2.1, K_segj.out.1.2.2⟩, K_segj.out.2.1, K_segj.out.2.2⟩) (fun hHeld => ?_)
        clear hK K
        try simp only [Act.put, List.getElem_toArray, List.getElem_cons_succ, List.getElem_cons_zero, List.setIfInBounds_toArray, List.set_cons_zero, List.set_cons_succ]
        generalize hW9 : Wseg.alloc (.cells #[.int .i64 r] 3) = Wsegj at *
        clear hW9
        refine wpAnyH_ready (rs := [7, 11]) (by kernel_rfl) (by simp) ?_
        refine AllReadyH.cons rfl (fun K hK => ?_) (AllReadyH.cons rfl (fun K hK => ?_) (AllReadyH.nil))
        · go_simp
          go_at_call 123
          refine (concatRows_any (by have := HLL.out; simp; omega) (by simp) AA_segj.out).mono ?_
          rw [HUS.out]
          rintro e' Wsegjh ⟨rc, rfl, ho, hb⟩
          obtain ⟨oa, oc, rfl⟩ := ho.toIn.shape
          have HB_segjh := Lib.hid (bt HB_segj.out hb)
          have K_segjh := Lib.hid (K_segj.out.below hb)
          have Y_segjh := Lib.hid (Y_segj.out.below hb)
          have U_segjh := Lib.hid (U_segj.out.below hb)
          have L_segjh := Lib.hid (L_segj.out.below hb)
          have A_segjh := Lib.hid (A_segj.out.below hb)
          have AA_segjh := Lib.hid (AA_segj.out.below hb)
          have R_segjh := Lib.hid (R_segj.out.below hb)
          have CA_segjh := Lib.hid ho.toIn
          clear ho
          clear hb
          go_wp2_with fail
          refine hK.out _ _ (show _ from ⟨⟨K_segjh.out.1.1, K_segjh.out.1.2.1, K_segjh.out.1.2.2⟩, K_segjh.out.2.1, K_segjh.out.2.2⟩) (fun hHeld => ?_)
          clear hK K
          try simp only [Act.put, List.getElem_toArray, List.getElem_cons_succ, List.getElem_cons_zero, List.setIfInBounds_toArray, List.set_cons_zero, List.set_cons_succ]
          refine wpAnyH_ready (rs := [11]) (by kernel_rfl) (by simp) ?_
          refine AllReadyH.cons rfl (fun K hK => ?_) (AllReadyH.nil)
          go_simp
          have hb := ba Wsegjh (.cells #[.slice (some ⟨Wseg.heap.size, 0, none⟩) 1 1, .slice la l.length lc] 24)
          have HB_segjhl := Lib.hid (bt HB_segjh.out hb)
          have K_segjhl := Lib.hid (K_segjh.out.below hb)
          have Y_segjhl := Lib.hid (Y_segjh.out.below hb)
          have U_segjhl := Lib.hid (U_segjh.out.below hb)
          have L_segjhl := Lib.hid (L_segjh.out.below hb)
          have A_segjhl := Lib.hid (A_segjh.out.below hb)
          have AA_segjhl := Lib.hid (AA_segjh.out.below hb)
          have R_segjhl := Lib.hid (R_segjh.out.below hb)
          have CA_segjhl := Lib.hid (CA_segjh.out.below hb)
          have RR_segjhl := Lib.hid (rows_pair R_segjh.out L_segjh.out 24)
          clear hb
          refine hK.out _ _ (show _ from ⟨⟨K_segjhl.out.1.1, K_segjhl.out.1.2.1, K_segjhl.out.1.2.2⟩, K_segjhl.out.2.1, K_segjhl.out.2.2⟩) (fun hHeld => ?_)
          clear hK K
          try simp only [Act.put, List.getElem_toArray, List.getElem_cons_succ, List.getElem_cons_zero, List.setIfInBounds_toArray, List.set_cons_zero, List.set_cons_succ]
          generalize hW9 : Wsegjh.alloc (.cells #[.slice (some ⟨Wseg.heap.size, 0, none⟩) 1 1, .slice la l.length lc] 24) = Wsegjhl at *
          clear hW9
          refine wpAnyH_ready (rs := [12]) (by kernel_rfl) (by simp) ?_
          refine AllReadyH.cons rfl (fun K hK => ?_) (AllReadyH.nil)
          go_simp
          go_at_call 123
          refine (concatRows_any (by have := HLL.out; simp; omega) (by simp) RR_segjhl.out).mono ?_
          rw [HXS.out]
          rintro e' Wsegjhlm ⟨rc, rfl, ho, hb⟩
          obtain ⟨oa2, oc2, rfl⟩ := ho.toIn.shape
          have HB_segjhlm := Lib.hid (bt HB_segjhl.out hb)
          have K_segjhlm := Lib.hid (K_segjhl.out.below hb)
          have Y_segjhlm := Lib.hid (Y_segjhl.out.below hb)
          have U_segjhlm := Lib.hid (U_segjhl.out.below hb)
          have L_segjhlm := Lib.hid (L_segjhl.out.below hb)
          have A_segjhlm := Lib.hid (A_segjhl.out.below hb)
          have AA_segjhlm := Lib.hid (AA_segjhl.out.below hb)
          have R_segjhlm := Lib.hid (R_segjhl.out.below hb)
          have CA_segjhlm := Lib.hid (CA_segjhl.out.below hb)
          have RR_segjhlm := Lib.hid (RR_segjhl.out.below hb)
          have CR_segjhlm := Lib.hid ho.toIn
          clear ho
          clear hb
          go_wp2_with fail
          refine hK.out _ _ (show _ from ⟨⟨K_segjhlm.out.1.1, K_segjhlm.out.1.2.1, K_segjhlm.out.1.2.2⟩, K_segjhlm.out.2.1, K_segjhlm.out.2.2⟩) (fun hHeld => ?_)
          clear hK K
          try simp only [Act.put, List.getElem_toArray, List.getElem_cons_succ, List.getElem_cons_zero, List.setIfInBounds_toArray, List.set_cons_zero, List.set_cons_succ]
          refine wpAnyH_ready (rs := [13]) (by kernel_rfl) (by simp) ?_
          refine AllReadyH.cons rfl (fun K hK => ?_) (AllReadyH.nil)
          go_simp
          go_at_call 120
          refine (multiply_any P Q G H HL9.out (us := us) (xs := xs) HU9.out HXU.out Y_segjhlm.out CA_segjhlm.out CR_segjhlm.out).mono ?_
          rw [E1.out.1, E1.out.2]
          rintro e' Wsegjhlmn ⟨rfl, hb⟩
          have HB_segjhlmn := Lib.hid (bt HB_segjhlm.out hb)
          have K_segjhlmn := Lib.hid (K_segjhlm.out.below hb)
          have Y_segjhlmn := Lib.hid (Y_segjhlm.out.below hb)
          have U_segjhlmn := Lib.hid (U_segjhlm.out.below hb)
          have L_segjhlmn := Lib.hid (L_segjhlm.out.below hb)
          have A_segjhlmn := Lib.hid (A_segjhlm.out.below hb)
          have AA_segjhlmn := Lib.hid (AA_segjhlm.out.below hb)
          have R_segjhlmn := Lib.hid (R_segjhlm.out.below hb)
          have CA_segjhlmn := Lib.hid (CA_segjhlm.out.below hb)
          have RR_segjhlmn := Lib.hid (RR_segjhlm.out.below hb)
          have CR_segjhlmn := Lib.hid (CR_segjhlm.out.below hb)
          clear hb
          go_wp2_with fail
          refine hK.out _ _ (show _ from ⟨⟨K_segjhlmn.out.1.1, K_segjhlmn.out.1.2.1, K_segjhlmn.out.1.2.2⟩, K_segjhlmn.out.2.1, K_segjhlmn.out.2.2⟩) (fun hHeld => ?_)
          clear hK K
          try simp only [Act.put, List.getElem_toArray, List.getElem_cons_succ, List.getElem_cons_zero, List.setIfInBounds_toArray, List.set_cons_zero, List.set_cons_succ]
          refine wpAnyH_take (i := 14) (v := ?_) rfl (by kernel_rfl) (by kernel_rfl) (by kernel_rfl) (fun _ _ _ h => h) (Or.inl ⟨by kernel_rfl, ?_⟩) (by assumption) ?_
          rotate_left 1
          · intro w9 hSw
            try dsimp only at hSw
            go_simp
            try with_reducible rfl
          try simp only [Act.put, List.getElem_toArray, List.getElem_cons_succ, List.getElem_cons_zero, List.setIfInBounds_toArray, List.set_cons_zero, List.set_cons_succ]
          refine wpAnyH_take (i := 15) (v := ?_) rfl (by kernel_rfl) (by kernel_rfl) (by kernel_rfl) (fun _ _ _ h => h) (Or.inl ⟨by kernel_rfl, ?_⟩) (by assumption) ?_
          rotate_left 1
          · intro w9 hSw
            try dsimp only at hSw
            go_simp
            try with_reducible rfl
          try simp only [Act.put, List.getElem_toArray, List.getElem_cons_succ, List.getElem_cons_zero, List.setIfInBounds_toArray, List.set_cons_zero, List.set_cons_succ]
          refine wpAnyH_take (i := 16) (v := ?_) rfl (by kernel_rfl) (by kernel_rfl) (by kernel_rfl) (fun _ _ _ h => h) (Or.inl ⟨by kernel_rfl, ?_⟩) (by assumption) ?_
          rotate_left 1
          · intro w9 hSw
            try dsimp only at hSw
            go_simp
            try with_reducible rfl
          try simp only [Act.put, List.getElem_toArray, List.getElem_cons_succ, List.getElem_cons_zero, List.setIfInBounds_toArray, List.set_cons_zero, List.set_cons_succ]
          refine wpAnyH_take (i := 17) (v := ?_) rfl (by kernel_rfl) (by kernel_rfl) (by kernel_rfl) (fun _ _ _ h => h) (Or.inl ⟨by kernel_rfl, ?_⟩) (by assumption) ?_
          rotate_left 1
          · intro w9 hSw
            try dsimp only at hSw
            go_simp
            try with_reducible rfl
          try simp only [Act.put, List.getElem_toArray, List.getElem_cons_succ, List.getElem_cons_zero, List.setIfInBounds_toArray, List.set_cons_zero, List.set_cons_succ]
          refine wpAnyH_done (by kernel_rfl) ?_ _
          go_wp2
          go_ret2
          exact ⟨rfl, HB_segjhlmn.out⟩
        · go_simp
          have hb := ba Wsegj (.cells #[.slice (some ⟨Wseg.heap.size, 0, none⟩) 1 1, .slice la l.length lc] 24)
          have HB_segjl := Lib.hid (bt HB_segj.out hb)
          have K_segjl := Lib.hid (K_segj.out.below hb)
          have Y_segjl := Lib.hid (Y_segj.out.below hb)
          have U_segjl := Lib.hid (U_segj.out.below hb)
          have L_segjl := Lib.hid (L_segj.out.below hb)
          have A_segjl := Lib.hid (A_segj.out.below hb)
          have AA_segjl := Lib.hid (AA_segj.out.below hb)
          have R_segjl := Lib.hid (R_segj.out.below hb)
          have RR_segjl := Lib.hid (rows_pair R_segj.out L_segj.out 24)
          clear hb
          refine hK.out _ _ (show _ from ⟨⟨K_segjl.out.1.1, K_segjl.out.1.2.1, K_segjl.out.1.2.2⟩, K_segjl.out.2.1, K_segjl.out.2.2⟩) (fun hHeld => ?_)
          clear hK K
          try simp only [Act.put, List.getElem_toArray, List.getElem_cons_succ, List.getElem_cons_zero, List.setIfInBounds_toArray, List.set_cons_zero, List.set_cons_succ]
          generalize hW9 : Wsegj.alloc (.cells #[.slice (some ⟨Wseg.heap.size, 0, none⟩) 1 1, .slice la l.length lc] 24) = Wsegjl at *
          clear hW9
          refine wpAnyH_ready (rs := [7]) (by kernel_rfl) (by simp) ?_
          refine AllReadyH.cons rfl (fun K hK => ?_) (AllReadyH.nil)
          go_simp
          go_at_call 123
          refine (concatRows_any (by have := HLL.out; simp; omega) (by simp) AA_segjl.out).mono ?_
          rw [HUS.out]
          rintro e' Wsegjlh ⟨rc, rfl, ho, hb⟩
          obtain ⟨oa, oc, rfl⟩ := ho.toIn.shape
          have HB_segjlh := Lib.hid (bt HB_segjl.out hb)
          have K_segjlh := Lib.hid (K_segjl.out.below hb)
          have Y_segjlh := Lib.hid (Y_segjl.out.below hb)
          have U_segjlh := Lib.hid (U_segjl.out.below hb)
          have L_segjlh := Lib.hid (L_segjl.out.below hb)
          have A_segjlh := Lib.hid (A_segjl.out.below hb)
          have AA_segjlh := Lib.hid (AA_segjl.out.below hb)
          have R_segjlh := Lib.hid (R_segjl.out.below hb)
          have RR_segjlh := Lib.hid (RR_segjl.out.below hb)
          have CA_segjlh := Lib.hid ho.toIn
          clear ho
          clear hb
          go_wp2_with fail
          refine hK.out _ _ (show _ from ⟨⟨K_segjlh.out.1.1, K_segjlh.out.1.2.1, K_segjlh.out.1.2.2⟩, K_segjlh.out.2.1, K_segjlh.out.2.2⟩) (fun hHeld => ?_)
          clear hK K
          try simp only [Act.put, List.getElem_toArray, List.getElem_cons_succ, List.getElem_cons_zero, List.setIfInBounds_toArray, List.set_cons_zero, List.set_cons_succ]
          refine wpAnyH_ready (rs := [12]) (by kernel_rfl) (by simp) ?_
          refine AllReadyH.cons rfl (fun K hK => ?_) (AllReadyH.nil)
          go_simp
          go_at_call 123
          refine (concatRows_any (by have := HLL.out; simp; omega) (by simp) RR_segjlh.out).mono ?_
          rw [HXS.out]
          rintro e' Wsegjlhm ⟨rc, rfl, ho, hb⟩
          obtain ⟨oa2, oc2, rfl⟩ := ho.toIn.shape
          have HB_segjlhm := Lib.hid (bt HB_segjlh.out hb)
          have K_segjlhm := Lib.hid (K_segjlh.out.below hb)
          have Y_segjlhm := Lib.hid (Y_segjlh.out.below hb)
          have U_segjlhm := Lib.hid (U_segjlh.out.below hb)
          have L_segjlhm := Lib.hid (L_segjlh.out.below hb)
          have A_segjlhm := Lib.hid (A_segjlh.out.below hb)
          have AA_segjlhm := Lib.hid (AA_segjlh.out.below hb)
          have R_segjlhm := Lib.hid (R_segjlh.out.below hb)
          have RR_segjlhm := Lib.hid (RR_segjlh.out.below hb)
          have CA_segjlhm := Lib.hid (CA_segjlh.out.below hb)
          have CR_segjlhm := Lib.hid ho.toIn
          clear ho
          clear hb
          go_wp2_with fail
          refine hK.out _ _ (show _ from ⟨⟨K_segjlhm.out.1.1, K_segjlhm.out.1.2.1, K_segjlhm.out.1.2.2⟩, K_segjlhm.out.2.1, K_segjlhm.out.2.2⟩) (fun hHeld => ?_)
          clear hK K
          try simp only [Act.put, List.getElem_toArray, List.getElem_cons_succ, List.getElem_cons_zero, List.setIfInBounds_toArray, List.set_cons_zero, List.set_cons_succ]
          refine wpAnyH_ready (rs := [13]) (by kernel_rfl) (by simp) ?_
          refine AllReadyH.cons rfl (fun K hK => ?_) (AllReadyH.nil)
          go_simp
          go_at_call 120
          refine (multiply_any P Q G H HL9.out (us := us) (xs := xs) HU9.out HXU.out Y_segjlhm.out CA_segjlhm.out CR_segjlhm.out).mono ?_
          rw [E1.out.1, E1.out.2]
          rintro e' Wsegjlhmn ⟨rfl, hb⟩
          have HB_segjlhmn := Lib.hid (bt HB_segjlhm.out hb)
          have K_segjlhmn := Lib.hid (K_segjlhm.out.below hb)
          have Y_segjlhmn := Lib.hid (Y_segjlhm.out.below hb)
          have U_segjlhmn := Lib.hid (U_segjlhm.out.below hb)
          have L_segjlhmn := Lib.hid (L_segjlhm.out.below hb)
          have A_segjlhmn := Lib.hid (A_segjlhm.out.below hb)
          have AA_segjlhmn := Lib.hid (AA_segjlhm.out.below hb)
          have R_segjlhmn := Lib.hid (R_segjlhm.out.below hb)
          have RR_segjlhmn := Lib.hid (RR_segjlhm.out.below hb)
          have CA_segjlhmn := Lib.hid (CA_segjlhm.out.below hb)
          have CR_segjlhmn := Lib.hid (CR_segjlhm.out.below hb)
          clear hb
          go_wp2_with fail
          refine hK.out _ _ (show _ from ⟨⟨K_segjlhmn.out.1.1, K_segjlhmn.out.1.2.1, K_segjlhmn.out.1.2.2⟩, K_segjlhmn.out.2.1, K_segjlhmn.out.2.2⟩) (fun hHeld => ?_)
          clear hK K
          try simp only [Act.put, List.getElem_toArray, List.getElem_cons_succ, List.getElem_cons_zero, List.setIfInBounds_toArray, List.set_cons_zero, List.set_cons_succ]
          refine wpAnyH_take (i := 14) (v := ?_) rfl (by kernel_rfl) (by kernel_rfl) (by kernel_rfl) (fun _ _ _ h => h) (Or.inl ⟨by kernel_rfl, ?_⟩) (by assumption) ?_
          rotate_left 1
          · intro w9 hSw
            try dsimp only at hSw
            go_simp
            try with_reducible rfl
          try simp only [Act.put, List.getElem_toArray, List.getElem_cons_succ, List.getElem_cons_zero, List.setIfInBounds_toArray, List.set_cons_zero, List.set_cons_succ]
          refine wpAnyH_take (i := 15) (v := ?_) rfl (by kernel_rfl) (by kernel_rfl) (by kernel_rfl) (fun _ _ _ h => h) (Or.inl ⟨by kernel_rfl, ?_⟩) (by assumption) ?_
          rotate_left 1
          · intro w9 hSw
            try dsimp only at hSw
            go_simp
            try with_reducible rfl
          try simp only [Act.put, List.getElem_toArray, List.getElem_cons_succ, List.getElem_cons_zero, List.setIfInBounds_toArray, List.set_cons_zero, List.set_cons_succ]
          refine wpAnyH_take (i := 16) (v := ?_) rfl (by kernel_rfl) (by kernel_rfl) (by kernel_rfl) (fun _ _ _ h => h) (Or.inl ⟨by kernel_rfl, ?_⟩) (by assumption) ?_
          rotate_left 1
          · intro w9 hSw
            try dsimp only at hSw
            go_simp
            try with_reducible rfl
          try simp only [Act.put, List.getElem_toArray, List.getElem_cons_succ, List.getElem_cons_zero, List.setIfInBounds_toArray, List.set_cons_zero, List.set_cons_succ]
          refine wpAnyH_take (i := 17) (v := ?_) rfl (by kernel_rfl) (by kernel_rfl) (by kernel_rfl) (fun _ _ _ h => h) (Or.inl ⟨by kernel_rfl, ?_⟩) (by assumption) ?_
          rotate_left 1
          · intro w9 hSw
            try dsimp only at hSw
            go_simp
            try with_reducible rfl
          try simp only [Act.put, List.getElem_toArray, List.getElem_cons_succ, List.getElem_cons_zero, List.setIfInBounds_toArray, List.set_cons_zero, List.set_cons_succ]
          refine wpAnyH_done (by kernel_rfl) ?_ _
          go_wp2
          go_ret2
          exact ⟨rfl, HB_segjlhmn.out⟩
    · go_simp
      have hb := ba Wse (.cells #[.int .i64 r] 3)
      have HB_sej := Lib.hid (bt HB_se.out hb)
      have K_sej := Lib.hid (K_se.out.below hb)
      have Y_sej := Lib.hid (Y_se.out.below hb)
      have U_sej := Lib.hid (U_se.out.below hb)
      have L_sej := Lib.hid (L_se.out.below hb)
      have A_sej := Lib.hid (A_se.out.below hb)
      have R_sej := Lib.hid (show InI (Wse.alloc (.cells #[.int .i64 r] 3)).heap.size (Wse.alloc (.cells #[.int .i64 r] 3)) (.slice (some ⟨Wse.heap.size, 0, none⟩) 1 1) [r] from inI_at Wse _ rfl [r] 3)
      clear hb
      refine hK.out _ _ (show _ from ⟨⟨K_sej.out.1.1, K_sej.out.1.2.1, K_sej.out.1.2.2⟩, K_sej.out.2.1, K_sej.out.2.2⟩) (fun hHeld => ?_)
      clear hK K
      try simp only [Act.put, List.getElem_toArray, List.getElem_cons_succ, List.getElem_cons_zero, List.setIfInBounds_toArray, List.set_cons_zero, List.set_cons_succ]
      generalize hW9 : Wse.alloc (.cells #[.int .i64 r] 3) = Wsej at *
      clear hW9
      refine wpAnyH_ready (rs := [6, 11]) (by kernel_rfl) (by simp) ?_
      refine AllReadyH.cons rfl (fun K hK => ?_) (AllReadyH.cons rfl (fun K hK => ?_) (AllReadyH.nil))
      · go_simp
        have hb := ba Wsej (.cells #[.slice (some ⟨Ws.heap.size, 0, none⟩) 1 1, .slice ya l.length yc] 24)
        have HB_sejg := Lib.hid (bt HB_sej.out hb)
        have K_sejg := Lib.hid (K_sej.out.below hb)
        have Y_sejg := Lib.hid (Y_sej.out.below hb)
        have U_sejg := Lib.hid (U_sej.out.below hb)
        have L_sejg := Lib.hid (L_sej.out.below hb)
        have A_sejg := Lib.hid (A_sej.out.below hb)
        have R_sejg := Lib.hid (R_sej.out.below hb)
        have AA_sejg := Lib.hid (rows_pair A_sej.out U_sej.out 24)
        clear hb
        refine hK.out _ _ (show _ from ⟨⟨K_sejg.out.1.1, K_sejg.out.1.2.1, K_sejg.out.1.2.2⟩, K_sejg.out.2.1, K_sejg.out.2.2⟩) (fun hHeld => ?_)
        clear hK K
        try simp only [Act.put, List.getElem_toArray, List.getElem_cons_succ, List.getElem_cons_zero, List.setIfInBounds_toArray, List.set_cons_zero, List.set_cons_succ]
        generalize hW9 : Wsej.alloc (.cells #[.slice (some ⟨Ws.heap.size, 0, none⟩) 1 1, .slice ya l.length yc] 24) = Wsejg at *
        clear hW9
        refine wpAnyH_ready (rs := [7, 11]) (by kernel_rfl) (by simp) ?_
        refine AllReadyH.cons rfl (fun K hK => ?_) (AllReadyH.cons rfl (fun K hK => ?_) (AllReadyH.nil))
        · go_simp
          go_at_call 123
          refine (concatRows_any (by have := HLL.out; simp; omega) (by simp) AA_sejg.out).mono ?_
          rw [HUS.out]
          rintro e' Wsejgh ⟨rc, rfl, ho, hb⟩
          obtain ⟨oa, oc, rfl⟩ := ho.toIn.shape
          have HB_sejgh := Lib.hid (bt HB_sejg.out hb)
          have K_sejgh := Lib.hid (K_sejg.out.below hb)
          have Y_sejgh := Lib.hid (Y_sejg.out.below hb)
          have U_sejgh := Lib.hid (U_sejg.out.below hb)
          have L_sejgh := Lib.hid (L_sejg.out.below hb)
          have A_sejgh := Lib.hid (A_sejg.out.below hb)
          have R_sejgh := Lib.hid (R_sejg.out.below hb)
          have AA_sejgh := Lib.hid (AA_sejg.out.below hb)
          have CA_sejgh := Lib.hid ho.toIn
          clear ho
          clear hb
          go_wp2_with fail
          refine hK.out _ _ (show _ from ⟨⟨K_sejgh.out.1.1, K_sejgh.out.1.2.1, K_sejgh.out.1.2.2⟩, K_sejgh.out.2.1, K_sejgh.out.2.2⟩) (fun hHeld => ?_)
          clear hK K
          try simp only [Act.put, List.getElem_toArray, List.getElem_cons_succ, List.getElem_cons_zero, List.setIfInBounds_toArray, List.set_cons_zero, List.set_cons_succ]
          refine wpAnyH_ready (rs := [11]) (by kernel_rfl) (by simp) ?_
          refine AllReadyH.cons rfl (fun K hK => ?_) (AllReadyH.nil)
          go_simp
          have hb := ba Wsejgh (.cells #[.slice (some ⟨Wse.heap.size, 0, none⟩) 1 1, .slice la l.length lc] 24)
          have HB_sejghl := Lib.hid (bt HB_sejgh.out hb)
          have K_sejghl := Lib.hid (K_sejgh.out.below hb)
          have Y_sejghl := Lib.hid (Y_sejgh.out.below hb)
          have U_sejghl := Lib.hid (U_sejgh.out.below hb)
          have L_sejghl := Lib.hid (L_sejgh.out.below hb)
          have A_sejghl := Lib.hid (A_sejgh.out.below hb)
          have R_sejghl := Lib.hid (R_sejgh.out.below hb)
          have AA_sejghl := Lib.hid (AA_sejgh.out.below hb)
          have CA_sejghl := Lib.hid (CA_sejgh.out.below hb)
          have RR_sejghl := Lib.hid (rows_pair R_sejgh.out L_sejgh.out 24)
          clear hb
          refine hK.out _ _ (show _ from ⟨⟨K_sejghl.out.1.1, K_sejghl.out.1.2.1, K_sejghl.out.1.2.2⟩, K_sejghl.out.2.1, K_sejghl.out.2.2⟩) (fun hHeld => ?_)
          clear hK K
          try simp only [Act.put, List.getElem_toArray, List.getElem_cons_succ, List.getElem_cons_zero, List.setIfInBounds_toArray, List.set_cons_zero, List.set_cons_succ]
          generalize hW9 : Wsejgh.alloc (.cells #[.slice (some ⟨Wse.heap.size, 0, none⟩) 1 1, .slice la l.length lc] 24) = Wsejghl at *
          clear hW9
          refine wpAnyH_ready (rs := [12]) (by kernel_rfl) (by simp) ?_
          refine AllReadyH.cons rfl (fun K hK => ?_) (AllReadyH.nil)
          go_simp
          go_at_call 123
          refine (concatRows_any (by have := HLL.out; simp; omega) (by simp) RR_sejghl.out).mono ?_
          rw [HXS.out]
          rintro e' Wsejghlm ⟨rc, rfl, ho, hb⟩
          obtain ⟨oa2, oc2, rfl⟩ := ho.toIn.shape
          have HB_sejghlm := Lib.hid (bt HB_sejghl.out hb)
          have K_sejghlm := Lib.hid (K_sejghl.out.below hb)
          have Y_sejghlm := Lib.hid (Y_sejghl.out.below hb)
          have U_sejghlm := Lib.hid (U_sejghl.out.below hb)
          have L_sejghlm := Lib.hid (L_sejghl.out.below hb)
          have A_sejghlm := Lib.hid (A_sejghl.out.below hb)
          have R_sejghlm := Lib.hid (R_sejghl.out.below hb)
          have AA_sejghlm := Lib.hid (AA_sejghl.out.below hb)
          have CA_sejghlm := Lib.hid (CA_sejghl.out.below hb)
          have RR_sejghlm := Lib.hid (RR_sejghl.out.below hb)
          have CR_sejghlm := Lib.hid ho.toIn
          clear ho
          clear hb
          go_wp2_with fail
          refine hK.out _ _ (show _ from ⟨⟨K_sejghlm.out.1.1, K_sejghlm.out.1.2.1, K_sejghlm.out.1.2.2⟩, K_sejghlm.out.2.1, K_sejghlm.out.2.2⟩) (fun hHeld => ?_)
          clear hK K
          try simp only [Act.put, List.getElem_toArray, List.getElem_cons_succ, List.getElem_cons_zero, List.setIfInBounds_toArray, List.set_cons_zero, List.set_cons_succ]
          refine wpAnyH_ready (rs := [13]) (by kernel_rfl) (by simp) ?_
          refine AllReadyH.cons rfl (fun K hK => ?_) (AllReadyH.nil)
          go_simp
          go_at_call 120
          refine (multiply_any P Q G H HL9.out (us := us) (xs := xs) HU9.out HXU.out Y_sejghlm.out CA_sejghlm.out CR_sejghlm.out).mono ?_
          rw [E1.out.1, E1.out.2]
          rintro e' Wsejghlmn ⟨rfl, hb⟩
          have HB_sejghlmn := Lib.hid (bt HB_sejghlm.out hb)
          have K_sejghlmn := Lib.hid (K_sejghlm.out.below hb)
          have Y_sejghlmn := Lib.hid (Y_sejghlm.out.below hb)
          have U_sejghlmn := Lib.hid (U_sejghlm.out.below hb)
          have L_sejghlmn := Lib.hid (L_sejghlm.out.below hb)
          have A_sejghlmn := Lib.hid (A_sejghlm.out.below hb)
          have R_sejghlmn := Lib.hid (R_sejghlm.out.below hb)
          have AA_sejghlmn := Lib.hid (AA_sejghlm.out.below hb)
          have CA_sejghlmn := Lib.hid (CA_sejghlm.out.below hb)
          have RR_sejghlmn := Lib.hid (RR_sejghlm.out.below hb)
          have CR_sejghlmn := Lib.hid (CR_sejghlm.out.below hb)
          clear hb
          go_wp2_with fail
          refine hK.out _ _ (show _ from ⟨⟨K_sejghlmn.out.1.1, K_sejghlmn.out.1.2.1, K_sejghlmn.out.1.2.2⟩, K_sejghlmn.out.2.1, K_sejghlmn.out.2.2⟩) (fun hHeld => ?_)
          clear hK K
          try simp only [Act.put, List.getElem_toArray, List.getElem_cons_succ, List.getElem_cons_zero, List.setIfInBounds_toArray, List.set_cons_zero, List.set_cons_succ]
          refine wpAnyH_take (i := 14) (v := ?_) rfl (by kernel_rfl) (by kernel_rfl) (by kernel_rfl) (fun _ _ _ h => h) (Or.inl ⟨by kernel_rfl, ?_⟩) (by assumption) ?_
          rotate_left 1
          · intro w9 hSw
            try dsimp only at hSw
            go_simp
            try with_reducible rfl
          try simp only [Act.put, List.getElem_toArray, List.getElem_cons_succ, List.getElem_cons_zero, List.setIfInBounds_toArray, List.set_cons_zero, List.set_cons_succ]
          refine wpAnyH_take (i := 15) (v := ?_) rfl (by kernel_rfl) (by kernel_rfl) (by kernel_rfl) (fun _ _ _ h => h) (Or.inl ⟨by kernel_rfl, ?_⟩) (by assumption) ?_
          rotate_left 1
          · intro w9 hSw
            try dsimp only at hSw
            go_simp
            try with_reducible rfl
          try simp only [Act.put, List.getElem_toArray, List.getElem_cons_succ, List.getElem_cons_zero, List.setIfInBounds_toArray, List.set_cons_zero, List.set_cons_succ]
          refine wpAnyH_take (i := 16) (v := ?_) rfl (by kernel_rfl) (by kernel_rfl) (by kernel_rfl) (fun _ _ _ h => h) (Or.inl ⟨by kernel_rfl, ?_⟩) (by assumption) ?_
          rotate_left 1
          · intro w9 hSw
            try dsimp only at hSw
            go_simp
            try with_reducible rfl
          try simp only [Act.put, List.getElem_toArray, List.getElem_cons_succ, List.getElem_cons_zero, List.setIfInBounds_toArray, List.set_cons_zero, List.set_cons_succ]
          refine wpAnyH_take (i := 17) (v := ?_) rfl (by kernel_rfl) (by kernel_rfl) (by kernel_rfl) (fun _ _ _ h => h) (Or.inl ⟨by kernel_rfl, ?_⟩) (by assumption) ?_
          rotate_left 1
          · intro w9 hSw
            try dsimp only at hSw
            go_simp
            try with_reducible rfl
          try simp only [Act.put, List.getElem_toArray, List.getElem_cons_succ, List.getElem_cons_zero, List.setIfInBounds_toArray, List.set_cons_zero, List.set_cons_succ]
          refine wpAnyH_done (by kernel_rfl) ?_ _
          go_wp2
          go_ret2
          exact ⟨rfl, HB_sejghlmn.out⟩
        · go_simp
          have hb := ba Wsejg (.cells #[.slice (some ⟨Wse.heap.size, 0, none⟩) 1 1, .slice la l.length lc] 24)
          have HB_sejgl := Lib.hid (bt HB_sejg.out hb)
          have K_sejgl := Lib.hid (K_sejg.out.below hb)
          have Y_sejgl := Lib.hid (Y_sejg.out.below hb)
          have U_sejgl := Lib.hid (U_sejg.out.below hb)
          have L_sejgl := Lib.hid (L_sejg.out.below hb)
          have A_sejgl := Lib.hid (A_sejg.out.below hb)
          have R_sejgl := Lib.hid (R_sejg.out.below hb)
          have AA_sejgl := Lib.hid (AA_sejg.out.below hb)
          have RR_sejgl := Lib.hid (rows_pair R_sejg.out L_sejg.out 24)
          clear hb
          refine hK.out _ _ (show _ from ⟨⟨K_sejgl.out.1.1, K_sejgl.out.1.2.1, K_sejgl.out.1.2.2⟩, K_sejgl.out.2.1, K_sejgl.out.2.2⟩) (fun hHeld => ?_)
          clear hK K
          try simp only [Act.put, List.getElem_toArray, List.getElem_cons_succ, List.getElem_cons_zero, List.setIfInBounds_toArray, List.set_cons_zero, List.set_cons_succ]
          generalize hW9 : Wsejg.alloc (.cells #[.slice (some ⟨Wse.heap.size, 0, none⟩) 1 1, .slice la l.length lc] 24) = Wsejgl at *
          clear hW9
          refine wpAnyH_ready (rs := [7]) (by kernel_rfl) (by simp) ?_
          refine AllReadyH.cons rfl (fun K hK => ?_) (AllReadyH.nil)
          go_simp
          go_at_call 123
          refine (concatRows_any (by have := HLL.out; simp; omega) (by simp) AA_sejgl.out).mono ?_
          rw [HUS.out]
          rintro e' Wsejglh ⟨rc, rfl, ho, hb⟩
          obtain ⟨oa, oc, rfl⟩ := ho.toIn.shape
          have HB_sejglh := Lib.hid (bt HB_sejgl.out hb)
          have K_sejglh := Lib.hid (K_sejgl.out.below hb)
          have Y_sejglh := Lib.hid (Y_sejgl.out.below hb)
          have U_sejglh := Lib.hid (U_sejgl.out.below hb)
          have L_sejglh := Lib.hid (L_sejgl.out.below hb)
          have A_sejglh := Lib.hid (A_sejgl.out.below hb)
          have R_sejglh := Lib.hid (R_sejgl.out.below hb)
          have AA_sejglh := Lib.hid (AA_sejgl.out.below hb)
          have RR_sejglh := Lib.hid (RR_sejgl.out.below hb)
          have CA_sejglh := Lib.hid ho.toIn
          clear ho
          clear hb
          go_wp2_with fail
          refine hK.out _ _ (show _ from ⟨⟨K_sejglh.out.1.1, K_sejglh.out.1.2.1, K_sejglh.out.1.2.2⟩, K_sejglh.out.2.1, K_sejglh.out.2.2⟩) (fun hHeld => ?_)
          clear hK K
          try simp only [Act.put, List.getElem_toArray, List.getElem_cons_succ, List.getElem_cons_zero, List.setIfInBounds_toArray, List.set_cons_zero, List.set_cons_succ]
          refine wpAnyH_ready (rs := [12]) (by kernel_rfl) (by simp) ?_
          refine AllReadyH.cons rfl (fun K hK => ?_) (AllReadyH.nil)
          go_simp
          go_at_call 123
          refine (concatRows_any (by have := HLL.out; simp; omega) (by simp) RR_sejglh.out).mono ?_
          rw [HXS.out]
          rintro e' Wsejglhm ⟨rc, rfl, ho, hb⟩
          obtain ⟨oa2, oc2, rfl⟩ := ho.toIn.shape
          have HB_sejglhm := Lib.hid (bt HB_sejglh.out hb)
          have K_sejglhm := Lib.hid (K_sejglh.out.below hb)
          have Y_sejglhm := Lib.hid (Y_sejglh.out.below hb)
          have U_sejglhm := Lib.hid (U_sejglh.out.below hb)
          have L_sejglhm := Lib.hid (L_sejglh.out.below hb)
          have A_sejglhm := Lib.hid (A_sejglh.out.below hb)
          have R_sejglhm := Lib.hid (R_sejglh.out.below hb)
          have AA_sejglhm := Lib.hid (AA_sejglh.out.below hb)
          have RR_sejglhm := Lib.hid (RR_sejglh.out.below hb)
          have CA_sejglhm := Lib.hid (CA_sejglh.out.below hb)
          have CR_sejglhm := Lib.hid ho.toIn
          clear ho
          clear hb
          go_wp2_with fail
          refine hK.out _ _ (show _ from ⟨⟨K_sejglhm.out.1.1, K_sejglhm.out.1.2.1, K_sejglhm.out.1.2.2⟩, K_sejglhm.out.2.1, K_sejglhm.out.2.2⟩) (fun hHeld => ?_)
          clear hK K
          try simp only [Act.put, List.getElem_toArray, List.getElem_cons_succ, List.getElem_cons_zero, List.setIfInBounds_toArray, List.set_cons_zero, List.set_cons_succ]
          refine wpAnyH_ready (rs := [13]) (by kernel_rfl) (by simp) ?_
          refine AllReadyH.cons rfl (fun K hK => ?_) (AllReadyH.nil)
          go_simp
          go_at_call 120
          refine (multiply_any P Q G H HL9.out (us := us) (xs := xs) HU9.out HXU.out Y_sejglhm.out CA_sejglhm.out CR_sejglhm.out).mono ?_
          rw [E1.out.1, E1.out.2]
          rintro e' Wsejglhmn ⟨rfl, hb⟩
          have HB_sejglhmn := Lib.hid (bt HB_sejglhm.out hb)
          have K_sejglhmn := Lib.hid (K_sejglhm.out.below hb)
          have Y_sejglhmn := Lib.hid (Y_sejglhm.out.below hb)
          have U_sejglhmn := Lib.hid (U_sejglhm.out.below hb)
          have L_sejglhmn := Lib.hid (L_sejglhm.out.below hb)
          have A_sejglhmn := Lib.hid (A_sejglhm.out.below hb)
          have R_sejglhmn := Lib.hid (R_sejglhm.out.below hb)
          have AA_sejglhmn := Lib.hid (AA_sejglhm.out.below hb)
          have RR_sejglhmn := Lib.hid (RR_sejglhm.out.below hb)
          have CA_sejglhmn := Lib.hid (CA_sejglhm.out.below hb)
          have CR_sejglhmn := Lib.hid (CR_sejglhm.out.below hb)
          clear hb
          go_wp2_with fail
          refine hK.out _ _ (show _ from ⟨⟨K_sejglhmn.out.1.1, K_sejglhmn.out.1.2.1, K_sejglhmn.out.1.2.2⟩, K_sejglhmn.out.2.1, K_sejglhmn.out.2.2⟩) (fun hHeld => ?_)
          clear hK K
          try simp only [Act.put, List.getElem_toArray, List.getElem_cons_succ, List.getElem_cons_zero, List.setIfInBounds_toArray, List.set_cons_zero, List.set_cons_succ]
          refine wpAnyH_take (i := 14) (v := ?_) rfl (by kernel_rfl) (by kernel_rfl) (by kernel_rfl) (fun _ _ _ h => h) (Or.inl ⟨by kernel_rfl, ?_⟩) (by assumption) ?_
          rotate_left 1
          · intro w9 hSw
            try dsimp only at hSw
            go_simp
            try with_reducible rfl
          try simp only [Act.put, List.getElem_toArray, List.getElem_cons_succ, List.getElem_cons_zero, List.setIfInBounds_toArray, List.set_cons_zero, List.set_cons_succ]
          refine wpAnyH_take (i := 15) (v := ?_) rfl (by kernel_rfl) (by kernel_rfl) (by kernel_rfl) (fun _ _ _ h => h) (Or.inl ⟨by kernel_rfl, ?_⟩) (by assumption) ?_
          rotate_left 1
          · intro w9 hSw
            try dsimp only at hSw
            go_simp
            try with_reducible rfl
          try simp only [Act.put, List.getElem_toArray, List.getElem_cons_succ, List.getElem_cons_zero, List.setIfInBounds_toArray, List.set_cons_zero, List.set_cons_succ]
          refine wpAnyH_take (i := 16) (v := ?_) rfl (by kernel_rfl) (by kernel_rfl) (by kernel_rfl) (fun _ _ _ h => h) (Or.inl ⟨by kernel_rfl, ?_⟩) (by assumption) ?_
          rotate_left 1
          · intro w9 hSw
            try dsimp only at hSw
            go_simp
            try with_reducible rfl
          try simp only [Act.put, List.getElem_toArray, List.getElem_cons_succ, List.getElem_cons_zero, List.setIfInBounds_toArray, List.set_cons_zero, List.set_cons_succ]
          refine wpAnyH_take (i := 17) (v := ?_) rfl (by kernel_rfl) (by kernel_rfl) (by kernel_rfl) (fun _ _ _ h => h) (Or.inl ⟨by kernel_rfl, ?_⟩) (by assumption) ?_
          rotate_left 1
          · intro w9 hSw
            try dsimp only at hSw
            go_simp
            try with_reducible rfl
          try simp only [Act.put, List.getElem_toArray, List.getElem_cons_succ, List.getElem_cons_zero, List.setIfInBounds_toArray, List.set_cons_zero, List.set_cons_succ]
          refine wpAnyH_done (by kernel_rfl) ?_ _
          go_wp2
          go_ret2
          exact ⟨rfl, HB_sejglhmn.out⟩
      · go_simp
        have hb := ba Wsej (.cells #[.slice (some ⟨Wse.heap.size, 0, none⟩) 1 1, .slice la l.length lc] 24)
        have HB_sejl := Lib.hid (bt HB_sej.out hb)
        have K_sejl := Lib.hid (K_sej.out.below hb)
        have Y_sejl := Lib.hid (Y_sej.out.below hb)
        have U_sejl := Lib.hid (U_sej.out.below hb)
        have L_sejl := Lib.hid (L_sej.out.below hb)
        have A_sejl := Lib.hid (A_sej.out.below hb)
        have R_sejl := Lib.hid (R_sej.out.below hb)
        have RR_sejl := Lib.hid (rows_pair R_sej.out L_sej.out 24)
        clear hb
        refine hK.out _ _ (show _ from ⟨⟨K_sejl.out.1.1, K_sejl.out.1.2.1, K_sejl.out.1.2.2⟩, K_sejl.out.2.1, K_sejl.out.2.2⟩) (fun hHeld => ?_)
        clear hK K
        try simp only [Act.put, List.getElem_toArray, List.getElem_cons_succ, List.getElem_cons_zero, List.setIfInBounds_toArray, List.set_cons_zero, List.set_cons_succ]
        generalize hW9 : Wsej.alloc (.cells #[.slice (some ⟨Wse.heap.size, 0, none⟩) 1 1, .slice la l.length lc] 24) = Wsejl at *
        clear hW9
        refine wpAnyH_ready (rs := [6]) (by kernel_rfl) (by simp) ?_
        refine AllReadyH.cons rfl (fun K hK => ?_) (AllReadyH.nil)
        go_simp
        have hb := ba Wsejl (.cells #[.slice (some ⟨Ws.heap.size, 0, none⟩) 1 1, .slice ya l.length yc] 24)
        have HB_sejlg := Lib.hid (bt HB_sejl.out hb)
        have K_sejlg := Lib.hid (K_sejl.out.below hb)
        have Y_sejlg := Lib.hid (Y_sejl.out.below hb)
        have U_sejlg := Lib.hid (U_sejl.out.below hb)
        have L_sejlg := Lib.hid (L_sejl.out.below hb)
        have A_sejlg := Lib.hid (A_sejl.out.below hb)
        have R_sejlg := Lib.hid (R_sejl.out.below hb)
        have RR_sejlg := Lib.hid (RR_sejl.out.below hb)
        have AA_sejlg := Lib.hid (rows_pair A_sejl.out U_sejl.out 24)
        clear hb
        refine hK.out _ _ (show _ from ⟨⟨K_sejlg.out.1.1, K_sejlg.out.1.2.1, K_sejlg.out.1.2.2⟩, K_sejlg.out.2.1, K_sejlg.out.2.2⟩) (fun hHeld => ?_)
        clear hK K
        try simp only [Act.put, List.getElem_toArray, List.getElem_cons_succ, List.getElem_cons_zero, List.setIfInBounds_toArray, List.set_cons_zero, List.set_cons_succ]
        generalize hW9 : Wsejl.alloc (.cells #[.slice (some ⟨Ws.heap.size, 0, none⟩) 1 1, .slice ya l.length yc] 24) = Wsejlg at *
        clear hW9
        refine wpAnyH_ready (rs := [7]) (by kernel_rfl) (by simp) ?_
        refine AllReadyH.cons rfl (fun K hK => ?_) (AllReadyH.nil)
        go_simp
        go_at_call 123
        refine (concatRows_any (by have := HLL.out; simp; omega) (by simp) AA_sejlg.out).mono ?_
        rw [HUS.out]
        rintro e' Wsejlgh ⟨rc, rfl, ho, hb⟩
        obtain ⟨oa, oc, rfl⟩ := ho.toIn.shape
        have HB_sejlgh := Lib.hid (bt HB_sejlg.out hb)
        have K_sejlgh := Lib.hid (K_sejlg.out.below hb)
        have Y_sejlgh := Lib.hid (Y_sejlg.out.below hb)
        have U_sejlgh := Lib.hid (U_sejlg.out.below hb)
        have L_sejlgh := Lib.hid (L_sejlg.out.below hb)
        have A_sejlgh := Lib.hid (A_sejlg.out.below hb)
        have R_sejlgh := Lib.hid (R_sejlg.out.below hb)
        have RR_sejlgh := Lib.hid (RR_sejlg.out.below hb)
        have AA_sejlgh := Lib.hid (AA_sejlg.out.below hb)
        have CA_sejlgh := Lib.hid ho.toIn
        clear ho
        clear hb
        go_wp2_with fail
        refine hK.out _ _ (show _ from ⟨⟨K_sejlgh.out.1.1, K_sejlgh.out.1.2.1, K_sejlgh.out.1.2.2⟩, K_sejlgh.out.2.1, K_sejlgh.out.2.2⟩) (fun hHeld => ?_)
        clear hK K
        try simp only [Act.put, List.getElem_toArray, List.getElem_cons_succ, List.getElem_cons_zero, List.setIfInBounds_toArray, List.set_cons_zero, List.set_cons_succ]
        refine wpAnyH_ready (rs := [12]) (by kernel_rfl) (by simp) ?_
        refine AllReadyH.cons rfl (fun K hK => ?_) (AllReadyH.nil)
        go_simp
        go_at_call 123
        refine (concatRows_any (by have := HLL.out; simp; omega) (by simp) RR_sejlgh.out).mono ?_
        rw [HXS.out]
        rintro e' Wsejlghm ⟨rc, rfl, ho, hb⟩
        obtain ⟨oa2, oc2, rfl⟩ := ho.toIn.shape
        have HB_sejlghm := Lib.hid (bt HB_sejlgh.out hb)
        have K_sejlghm := Lib.hid (K_sejlgh.out.below hb)
        have Y_sejlghm := Lib.hid (Y_sejlgh.out.below hb)
        have U_sejlghm := Lib.hid (U_sejlgh.out.below hb)
        have L_sejlghm := Lib.hid (L_sejlgh.out.below hb)
        have A_sejlghm := Lib.hid (A_sejlgh.out.below hb)
        have R_sejlghm := Lib.hid (R_sejlgh.out.below hb)
        have RR_sejlghm := Lib.hid (RR_sejlgh.out.below hb)
        have AA_sejlghm := Lib.hid (AA_sejlgh.out.below hb)
        have CA_sejlghm := Lib.hid (CA_sejlgh.out.below hb)
        have CR_sejlghm := Lib.hid ho.toIn
        clear ho
        clear hb
        go_wp2_with fail
        refine hK.out _ _ (show _ from ⟨⟨K_sejlghm.out.1.1, K_sejlghm.out.1.2.1, K_sejlghm.out.1.2.2⟩, K_sejlghm.out.2.1, K_sejlghm.out.2.2⟩) (fun hHeld => ?_)
        clear hK K
        try simp only [Act.put, List.getElem_toArray, List.getElem_cons_succ, List.getElem_cons_zero, List.setIfInBounds_toArray, List.set_cons_zero, List.set_cons_succ]
        refine wpAnyH_ready (rs := [13]) (by kernel_rfl) (by simp) ?_
        refine AllReadyH.cons rfl (fun K hK => ?_) (AllReadyH.nil)
        go_simp
        go_at_call 120
        refine (multiply_any P Q G H HL9.out (us := us) (xs := xs) HU9.out HXU.out Y_sejlghm.out CA_sejlghm.out CR_sejlghm.out).mono ?_
        rw [E1.out.1, E1.out.2]
        rintro e' Wsejlghmn ⟨rfl, hb⟩
        have HB_sejlghmn := Lib.hid (bt HB_sejlghm.out hb)
        have K_sejlghmn := Lib.hid (K_sejlghm.out.below hb)
        have Y_sejlghmn := Lib.hid (Y_sejlghm.out.below hb)
        have U_sejlghmn := Lib.hid (U_sejlghm.out.below hb)
        have L_sejlghmn := Lib.hid (L_sejlghm.out.below hb)
        have A_sejlghmn := Lib.hid (A_sejlghm.out.below hb)
        have R_sejlghmn := Lib.hid (R_sejlghm.out.below hb)
        have RR_sejlghmn := Lib.hid (RR_sejlghm.out.below hb)
        have AA_sejlghmn := Lib.hid (AA_sejlghm.out.below hb)
        have CA_sejlghmn := Lib.hid (CA_sejlghm.out.below hb)
        have CR_sejlghmn := Lib.hid (CR_sejlghm.out.below hb)
        clear hb
        go_wp2_with fail
        refine hK.out _ _ (show _ from ⟨⟨K_sejlghmn.out.1.1, K_sejlghmn.out.1.2.1, K_sejlghmn.out.1.2.2⟩, K_sejlghmn.out.2.1, K_sejlghmn.out.2.2⟩) (fun hHeld => ?_)
        clear hK K
        try simp only [Act.put, List.getElem_toArray, List.getElem_cons_succ, List.getElem_cons_zero, List.setIfInBounds_toArray, List.set_cons_zero, List.set_cons_succ]
        refine wpAnyH_take (i := 14) (v := ?_) rfl (by kernel_rfl) (by kernel_rfl) (by kernel_rfl) (fun _ _ _ h => h) (Or.inl ⟨by kernel_rfl, ?_⟩) (by assumption) ?_
        rotate_left 1
        · intro w9 hSw
          try dsimp only at hSw
          go_simp
          try with_reducible rfl
        try simp only [Act.put, List.getElem_toArray, List.getElem_cons_succ, List.getElem_cons_zero, List.setIfInBounds_toArray, List.set_cons_zero, List.set_cons_succ]
        refine wpAnyH_take (i := 15) (v := ?_) rfl (by kernel_rfl) (by kernel_rfl) (by kernel_rfl) (fun _ _ _ h => h) (Or.inl ⟨by kernel_rfl, ?_⟩) (by assumption) ?_
        rotate_left 1
        · intro w9 hSw
          try dsimp only at hSw
          go_simp
          try with_reducible rfl
        try simp only [Act.put, List.getElem_toArray, List.getElem_cons_succ, List.getElem_cons_zero, List.setIfInBounds_toArray, List.set_cons_zero, List.set_cons_succ]
        refine wpAnyH_take (i := 16) (v := ?_) rfl (by kernel_rfl) (by kernel_rfl) (by kernel_rfl) (fun _ _ _ h => h) (Or.inl ⟨by kernel_rfl, ?_⟩) (by assumption) ?_
        rotate_left 1
        · intro w9 hSw
          try dsimp only at hSw
          go_simp
          try with_reducible rfl
        try simp only [Act.put, List.getElem_toArray, List.getElem_cons_succ, List.getElem_cons_zero, List.setIfInBounds_toArray, List.set_cons_zero, List.set_cons_succ]
        refine wpAnyH_take (i := 17) (v := ?_) rfl (by kernel_rfl) (by kernel_rfl) (by kernel_rfl) (fun _ _ _ h => h) (Or.inl ⟨by kernel_rfl, ?_⟩) (by assumption) ?_
        rotate_left 1
        · intro w9 hSw
          try dsimp only at hSw
          go_simp
          try with_reducible rfl
        try simp only [Act.put, List.getElem_toArray, List.getElem_cons_succ, List.getElem_cons_zero, List.setIfInBounds_toArray, List.set_cons_zero, List.set_cons_succ]
        refine wpAnyH_done (by kernel_rfl) ?_ _
        go_wp2
        go_ret2
        exact ⟨rfl, HB_sejlghmn.out⟩
  · go_simp
    have hb := ba Ws (.cells #[.int .i64 r] 3)
    have HB_sj := Lib.hid (bt HB_s.out hb)
    have K_sj := Lib.hid (K_s.out.below hb)
    have Y_sj := Lib.hid (Y_s.out.below hb)
    have U_sj := Lib.hid (U_s.out.below hb)
    have L_sj := Lib.hid (L_s.out.below hb)
    have R_sj := Lib.hid (show InI (Ws.alloc (.cells #[.int .i64 r] 3)).heap.size (Ws.alloc (.cells #[.int .i64 r] 3)) (.slice (some ⟨Ws.heap.size, 0, none⟩) 1 1) [r] from inI_at Ws _ rfl [r] 3)
    clear hb
    refine hK.out _ _ (show _ from ⟨⟨K_sj.out.1.1, K_sj.out.1.2.1, K_sj.out.1.2.2⟩, K_sj.out.2.1, K_sj.out.2.2⟩) (fun hHeld => ?_)
    clear hK K
    try simp only [Act.put, List.getElem_toArray, List.getElem_cons_succ, List.getElem_cons_zero, List.setIfInBounds_toArray, List.set_cons_zero, List.set_cons_succ]
    generalize hW9 : Ws.alloc (.cells #[.int .i64 r] 3) = Wsj at *
    clear hW9
    refine wpAnyH_ready (rs := [4, 11]) (by kernel_rfl) (by simp) ?_
    refine AllReadyH.cons rfl (fun K hK => ?_) (AllReadyH.cons rfl (fun K hK => ?_) (AllReadyH.nil))
    · go_simp
      have hb := ba Wsj (.cells #[.int .i64 H] 3)
      have HB_sje := Lib.hid (bt HB_sj.out hb)
      have K_sje := Lib.hid (K_sj.out.below hb)
      have Y_sje := Lib.hid (Y_sj.out.below hb)
      have U_sje := Lib.hid (U_sj.out.below hb)
      have L_sje := Lib.hid (L_sj.out.below hb)
      have R_sje := Lib.hid (R_sj.out.below hb)
      have A_sje := Lib.hid (show InI (Wsj.alloc (.cells #[.int .i64 H] 3)).heap.size (Wsj.alloc (.cells #[.int .i64 H] 3)) (.slice (some ⟨Wsj.heap.size, 0, none⟩) 1 1) [H] from inI_at Wsj _ rfl [H] 3)
      clear hb
      refine hK.out _ _ (show _ from ⟨⟨K_sje.out.1.1, K_sje.out.1.2.1, K_sje.out.1.2.2⟩, K_sje.out.2.1, K_sje.out.2.2⟩) (fun hHeld => ?_)
      clear hK K
      try simp only [Act.put, List.getElem_toArray, List.getElem_cons_succ, List.getElem_cons_zero, List.setIfInBounds_toArray, List.set_cons_zero, List.set_cons_succ]
      generalize hW9 : Wsj.alloc (.cells #[.int .i64 H] 3) = Wsje at *
      clear hW9
      refine wpAnyH_ready (rs := [6, 11]) (by kernel_rfl) (by simp) ?_
      refine AllReadyH.cons rfl (fun K hK => ?_) (AllReadyH.cons rfl (fun K hK => ?_) (AllReadyH.nil))
      · go_simp
        have hb := ba Wsje (.cells #[.slice (some ⟨Wsj.heap.size, 0, none⟩) 1 1, .slice ya l.length yc] 24)
        have HB_sjeg := Lib.hid (bt HB_sje.out hb)
        have K_sjeg := Lib.hid (K_sje.out.below hb)
        have Y_sjeg := Lib.hid (Y_sje.out.below hb)
        have U_sjeg := Lib.hid (U_sje.out.below hb)
        have L_sjeg := Lib.hid (L_sje.out.below hb)
        have R_sjeg := Lib.hid (R_sje.out.below hb)
        have A_sjeg := Lib.hid (A_sje.out.below hb)
        have AA_sjeg := Lib.hid (rows_pair A_sje.out U_sje.out 24)
        clear hb
        refine hK.out _ _ (show _ from ⟨⟨K_sjeg.out.1.1, K_sjeg.out.1.2.1, K_sjeg.out.1.2.2⟩, K_sjeg.out.2.1, K_sjeg.out.2.2⟩) (fun hHeld => ?_)
        clear hK K
        try simp only [Act.put, List.getElem_toArray, List.getElem_cons_succ, List.getElem_cons_zero, List.setIfInBounds_toArray, List.set_cons_zero, List.set_cons_succ]
        generalize hW9 : Wsje.alloc (.cells #[.slice (some ⟨Wsj.heap.size, 0, none⟩) 1 1, .slice ya l.length yc] 24) = Wsjeg at *
        clear hW9
        refine wpAnyH_ready (rs := [7, 11]) (by kernel_rfl) (by simp) ?_
        refine AllReadyH.cons rfl (fun K hK => ?_) (AllReadyH.cons rfl (fun K hK => ?_) (AllReadyH.nil))
        · go_simp
          go_at_call 123
          refine (concatRows_any (by have := HLL.out; simp; omega) (by simp) AA_sjeg.out).mono ?_
          rw [HUS.out]
          rintro e' Wsjegh ⟨rc, rfl, ho, hb⟩
          obtain ⟨oa, oc, rfl⟩ := ho.toIn.shape
          have HB_sjegh := Lib.hid (bt HB_sjeg.out hb)
          have K_sjegh := Lib.hid (K_sjeg.out.below hb)
          have Y_sjegh := Lib.hid (Y_sjeg.out.below hb)
          have U_sjegh := Lib.hid (U_sjeg.out.below hb)
          have L_sjegh := Lib.hid (L_sjeg.out.below hb)
          have R_sjegh := Lib.hid (R_sjeg.out.below hb)
          have A_sjegh := Lib.hid (A_sjeg.out.below hb)
          have AA_sjegh := Lib.hid (AA_sjeg.out.below hb)
          have CA_sjegh := Lib.hid ho.toIn
          clear ho
          clear hb
          go_wp2_with fail
          refine hK.out _ _ (show _ from ⟨⟨K_sjegh.out.1.1, K_sjegh.out.1.2.1, K_sjegh.out.1.2.2⟩, K_sjegh.out.2.1, K_sjegh.out.2.2⟩) (fun hHeld => ?_)
          clear hK K
          try simp only [Act.put, List.getElem_toArray, List.getElem_cons_succ, List.getElem_cons_zero, List.setIfInBounds_toArray, List.set_cons_zero, List.set_cons_succ]
          refine wpAnyH_ready (rs := [11]) (by kernel_rfl) (by simp) ?_
          refine AllReadyH.cons rfl (fun K hK => ?_) (AllReadyH.nil)
          go_simp
          have hb := ba Wsjegh (.cells #[.slice (some ⟨Ws.heap.size, 0, none⟩) 1 1, .slice la l.length lc] 24)
          have HB_sjeghl := Lib.hid (bt HB_sjegh.out hb)
          have K_sjeghl := Lib.hid (K_sjegh.out.below hb)
          have Y_sjeghl := Lib.hid (Y_sjegh.out.below hb)
          have U_sjeghl := Lib.hid (U_sjegh.out.below hb)
          have L_sjeghl := Lib.hid (L_sjegh.out.below hb)
          have R_sjeghl := Lib.hid (R_sjegh.out.below hb)
          have A_sjeghl := Lib.hid (A_sjegh.out.below hb)
          have AA_sjeghl := Lib.hid (AA_sjegh.out.below hb)
          have CA_sjeghl := Lib.hid (CA_sjegh.out.below hb)
          have RR_sjeghl := Lib.hid (rows_pair R_sjegh.out L_sjegh.out 24)
          clear hb
          refine hK.out _ _ (show _ from ⟨⟨K_sjeghl.out.1.1, K_sjeghl.out.1.2.1, K_sjeghl.out.1.2.2⟩, K_sjeghl.out.2.1, K_sjeghl.out.2.2⟩) (fun hHeld => ?_)
          clear hK K
          try simp only [Act.put, List.getElem_toArray, List.getElem_cons_succ, List.getElem_cons_zero, List.setIfInBounds_toArray, List.set_cons_zero, List.set_cons_succ]
          generalize hW9 : Wsjegh.alloc (.cells #[.slice (some ⟨Ws.heap.size, 0, none⟩) 1 1, .slice la l.length lc] 24) = Wsjeghl at *
          clear hW9
          refine wpAnyH_ready (rs := [12]) (by kernel_rfl) (by simp) ?_
          refine AllReadyH.cons rfl (fun K hK => ?_) (AllReadyH.nil)
          go_simp
          go_at_call 123
          refine (concatRows_any (by have := HLL.out; simp; omega) (by simp) RR_sjeghl.out).mono ?_
          rw [HXS.out]
          rintro e' Wsjeghlm ⟨rc, rfl, ho, hb⟩
          obtain ⟨oa2, oc2, rfl⟩ := ho.toIn.shape
          have HB_sjeghlm := Lib.hid (bt HB_sjeghl.out hb)
          have K_sjeghlm := Lib.hid (K_sjeghl.out.below hb)
          have Y_sjeghlm := Lib.hid (Y_sjeghl.out.below hb)
          have U_sjeghlm := Lib.hid (U_sjeghl.out.below hb)
          have L_sjeghlm := Lib.hid (L_sjeghl.out.below hb)
          have R_sjeghlm := Lib.hid (R_sjeghl.out.below hb)
          have A_sjeghlm := Lib.hid (A_sjeghl.out.below hb)
          have AA_sjeghlm := Lib.hid (AA_sjeghl.out.below hb)
          have CA_sjeghlm := Lib.hid (CA_sjeghl.out.below hb)
          have RR_sjeghlm := Lib.hid (RR_sjeghl.out.below hb)
          have CR_sjeghlm := Lib.hid ho.toIn
          clear ho
          clear hb
          go_wp2_with fail
          refine hK.out _ _ (show _ from ⟨⟨K_sjeghlm.out.1.1, K_sjeghlm.out.1.2.1, K_sjeghlm.out.1.2.2⟩, K_sjeghlm.out.2.1, K_sjeghlm.out.2.2⟩) (fun hHeld => ?_)
          clear hK K
          try simp only [Act.put, List.getElem_toArray, List.getElem_cons_succ, List.getElem_cons_zero, List.setIfInBounds_toArray, List.set_cons_zero, List.set_cons_succ]
          refine wpAnyH_ready (rs := [13]) (by kernel_rfl) (by simp) ?_
          refine AllReadyH.cons rfl (fun K hK => ?_) (AllReadyH.nil)
          go_simp
          go_at_call 120
          refine (multiply_any P Q G H HL9.out (us := us) (xs := xs) HU9.out HXU.out Y_sjeghlm.out CA_sjeghlm.out CR_sjeghlm.out).mono ?_
          rw [E1.out.1, E1.out.2]
          rintro e' Wsjeghlmn ⟨rfl, hb⟩
          have HB_sjeghlmn := Lib.hid (bt HB_sjeghlm.out hb)
          have K_sjeghlmn := Lib.hid (K_sjeghlm.out.below hb)
          have Y_sjeghlmn := Lib.hid (Y_sjeghlm.out.below hb)
          have U_sjeghlmn := Lib.hid (U_sjeghlm.out.below hb)
          have L_sjeghlmn := Lib.hid (L_sjeghlm.out.below hb)
          have R_sjeghlmn := Lib.hid (R_sjeghlm.out.below hb)
          have A_sjeghlmn := Lib.hid (A_sjeghlm.out.below hb)
          have AA_sjeghlmn := Lib.hid (AA_sjeghlm.out.below hb)
          have CA_sjeghlmn := Lib.hid (CA_sjeghlm.out.below hb)
          have RR_sjeghlmn := Lib.hid (RR_sjeghlm.out.below hb)
          have CR_sjeghlmn := Lib.hid (CR_sjeghlm.out.below hb)
          clear hb
          go_wp2_with fail
          refine hK.out _ _ (show _ from ⟨⟨K_sjeghlmn.out.1.1, K_sjeghlmn.out.1.2.1, K_sjeghlmn.out.1.2.2⟩, K_sjeghlmn.out.2.1, K_sjeghlmn.out.2.2⟩) (fun hHeld => ?_)
          clear hK K
          try simp only [Act.put, List.getElem_toArray, List.getElem_cons_succ, List.getElem_cons_zero, List.setIfInBounds_toArray, List.set_cons_zero, List.set_cons_succ]
          refine wpAnyH_take (i := 14) (v := ?_) rfl (by kernel_rfl) (by kernel_rfl) (by kernel_rfl) (fun _ _ _ h => h) (Or.inl ⟨by kernel_rfl, ?_⟩) (by assumption) ?_
          rotate_left 1
          · intro w9 hSw
            try dsimp only at hSw
            go_simp
            try with_reducible rfl
          try simp only [Act.put, List.getElem_toArray, List.getElem_cons_succ, List.getElem_cons_zero, List.setIfInBounds_toArray, List.set_cons_zero, List.set_cons_succ]
          refine wpAnyH_take (i := 15) (v := ?_) rfl (by kernel_rfl) (by kernel_rfl) (by kernel_rfl) (fun _ _ _ h => h) (Or.inl ⟨by kernel_rfl, ?_⟩) (by assumption) ?_
          rotate_left 1
          · intro w9 hSw
            try dsimp only at hSw
            go_simp
            try with_reducible rfl
          try simp only [Act.put, List.getElem_toArray, List.getElem_cons_succ, List.getElem_cons_zero, List.setIfInBounds_toArray, List.set_cons_zero, List.set_cons_succ]
          refine wpAnyH_take (i := 16) (v := ?_) rfl (by kernel_rfl) (by kernel_rfl) (by kernel_rfl) (fun _ _ _ h => h) (Or.inl ⟨by kernel_rfl, ?_⟩) (by assumption) ?_
          rotate_left 1
          · intro w9 hSw
            try dsimp only at hSw
            go_simp
            try with_reducible rfl
          try simp only [Act.put, List.getElem_toArray, List.getElem_cons_succ, List.getElem_cons_zero, List.setIfInBounds_toArray, List.set_cons_zero, List.set_cons_succ]
          refine wpAnyH_take (i := 17) (v := ?_) rfl (by kernel_rfl) (by kernel_rfl) (by kernel_rfl) (fun _ _ _ h => h) (Or.inl ⟨by kernel_rfl, ?_⟩) (by assumption) ?_
          rotate_left 1
          · intro w9 hSw
            try dsimp only at hSw
            go_simp
            try with_reducible rfl
          try simp only [Act.put, List.getElem_toArray, List.getElem_cons_succ, List.getElem_cons_zero, List.setIfInBounds_toArray, List.set_cons_zero, List.set_cons_succ]
          refine wpAnyH_done (by kernel_rfl) ?_ _
          go_wp2
          go_ret2
          exact ⟨rfl, HB_sjeghlmn.out⟩
        · go_simp
          have hb := ba Wsjeg (.cells #[.slice (some ⟨Ws.heap.size, 0, none⟩) 1 1, .slice la l.length lc] 24)
          have HB_sjegl := Lib.hid (bt HB_sjeg.out hb)
          have K_sjegl := Lib.hid (K_sjeg.out.below hb)
          have Y_sjegl := Lib.hid (Y_sjeg.out.below hb)
          have U_sjegl := Lib.hid (U_sjeg.out.below hb)
          have L_sjegl := Lib.hid (L_sjeg.out.below hb)
          have R_sjegl := Lib.hid (R_sjeg.out.below hb)
          have A_sjegl := Lib.hid (A_sjeg.out.below hb)
          have AA_sjegl := Lib.hid (AA_sjeg.out.below hb)
          have RR_sjegl := Lib.hid (rows_pair R_sjeg.out L_sjeg.out 24)
          clear hb
          refine hK.out _ _ (show _ from ⟨⟨K_sjegl.out.1.1, K_sjegl.out.1.2.1, K_sjegl.out.1.2.2⟩, K_sjegl.out.2.1, K_sjegl.out.2.2⟩) (fun hHeld => ?_)
          clear hK K
          try simp only [Act.put, List.getElem_toArray, List.getElem_cons_succ, List.getElem_cons_zero, List.setIfInBounds_toArray, List.set_cons_zero, List.set_cons_succ]
          generalize hW9 : Wsjeg.alloc (.cells #[.slice (some ⟨Ws.heap.size, 0, none⟩) 1 1, .slice la l.length lc] 24) = Wsjegl at *
          clear hW9
          refine wpAnyH_ready (rs := [7]) (by kernel_rfl) (by simp) ?_
          refine AllReadyH.cons rfl (fun K hK => ?_) (AllReadyH.nil)
          go_simp
          go_at_call 123
          refine (concatRows_any (by have := HLL.out; simp; omega) (by simp) AA_sjegl.out).mono ?_
          rw [HUS.out]
          rintro e' Wsjeglh ⟨rc, rfl, ho, hb⟩
          obtain ⟨oa, oc, rfl⟩ := ho.toIn.shape
          have HB_sjeglh := Lib.hid (bt HB_sjegl.out hb)
          have K_sjeglh := Lib.hid (K_sjegl.out.below hb)
          have Y_sjeglh := Lib.hid (Y_sjegl.out.below hb)
          have U_sjeglh := Lib.hid (U_sjegl.out.below hb)
          have L_sjeglh := Lib.hid (L_sjegl.out.below hb)
          have R_sjeglh := Lib.hid (R_sjegl.out.below hb)
          have A_sjeglh := Lib.hid (A_sjegl.out.below hb)
          have AA_sjeglh := Lib.hid (AA_sjegl.out.below hb)
          have RR_sjeglh := Lib.hid (RR_sjegl.out.below hb)
          have CA_sjeglh := Lib.hid ho.toIn
          clear ho
          clear hb
          go_wp2_with fail
          refine hK.out _ _ (show _ from ⟨⟨K_sjeglh.out.1.1, K_sjeglh.out.1.2.1, K_sjeglh.out.1.2.2⟩, K_sjeglh.out.2.1, K_sjeglh.out.2.2⟩) (fun hHeld => ?_)
          clear hK K
          try simp only [Act.put, List.getElem_toArray, List.getElem_cons_succ, List.getElem_cons_zero, List.setIfInBounds_toArray, List.set_cons_zero, List.set_cons_succ]
          refine wpAnyH_ready (rs := [12]) (by kernel_rfl) (by simp) ?_
          refine AllReadyH.cons rfl (fun K hK => ?_) (AllReadyH.nil)
          go_simp
          go_at_call 123
          refine (concatRows_any (by have := HLL.out; simp; omega) (by simp) RR_sjeglh.out).mono ?_
          rw [HXS.out]
          rintro e' Wsjeglhm ⟨rc, rfl, ho, hb⟩
          obtain ⟨oa2, oc2, rfl⟩ := ho.toIn.shape
          have HB_sjeglhm := Lib.hid (bt HB_sjeglh.out hb)
          have K_sjeglhm := Lib.hid (K_sjeglh.out.below hb)
          have Y_sjeglhm := Lib.hid (Y_sjeglh.out.below hb)
          have U_sjeglhm := Lib.hid (U_sjeglh.out.below hb)
          have L_sjeglhm := Lib.hid (L_sjeglh.out.below hb)
          have R_sjeglhm := Lib.hid (R_sjeglh.out.below hb)
          have A_sjeglhm := Lib.hid (A_sjeglh.out.below hb)
          have AA_sjeglhm := Lib.hid (AA_sjeglh.out.below hb)
          have RR_sjeglhm := Lib.hid (RR_sjeglh.out.below hb)
          have CA_sjeglhm := Lib.hid (CA_sjeglh.out.below hb)
          have CR_sjeglhm := Lib.hid ho.toIn
          clear ho
          clear hb
          go_wp2_with fail
          refine hK.out _ _ (show _ from ⟨⟨K_sjeglhm.out.1.1, K_sjeglhm.out.1.2.1, K_sjeglhm.out.1.2.2⟩, K_sjeglhm.out.2.1, K_sjeglhm.out.2.2⟩) (fun hHeld => ?_)
          clear hK K
          try simp only [Act.put, List.getElem_toArray, List.getElem_cons_succ, List.getElem_cons_zero, List.setIfInBounds_toArray, List.set_cons_zero, List.set_cons_succ]
          refine wpAnyH_ready (rs := [13]) (by kernel_rfl) (by simp) ?_
          refine AllReadyH.cons rfl (fun K hK => ?_) (AllReadyH.nil)
          go_simp
          go_at_call 120
          refine (multiply_any P Q G H HL9.out (us := us) (xs := xs) HU9.out HXU.out Y_sjeglhm.out CA_sjeglhm.out CR_sjeglhm.out).mono ?_
          rw [E1.out.1, E1.out.2]
          rintro e' Wsjeglhmn ⟨rfl, hb⟩
          have HB_sjeglhmn := Lib.hid (bt HB_sjeglhm.out hb)
          have K_sjeglhmn := Lib.hid (K_sjeglhm.out.below hb)
          have Y_sjeglhmn := Lib.hid (Y_sjeglhm.out.below hb)
          have U_sjeglhmn := Lib.hid (U_sjeglhm.out.below hb)
          have L_sjeglhmn := Lib.hid (L_sjeglhm.out.below hb)
          have R_sjeglhmn := Lib.hid (R_sjeglhm.out.below hb)
          have A_sjeglhmn := Lib.hid (A_sjeglhm.out.below hb)
          have AA_sjeglhmn := Lib.hid (AA_sjeglhm.out.below hb)
          have RR_sjeglhmn := Lib.hid (RR_sjeglhm.out.below hb)
          have CA_sjeglhmn := Lib.hid (CA_sjeglhm.out.below hb)
          have CR_sjeglhmn := Lib.hid (CR_sjeglhm.out.below hb)
          clear hb
          go_wp2_with fail
          refine hK.out _ _ (show _ from ⟨⟨K_sjeglhmn.out.1.1, K_sjeglhmn.out.1.2.1, K_sjeglhmn.out.1.2.2⟩, K_sjeglhmn.out.2.1, K_sjeglhmn.out.2.2⟩) (fun hHeld => ?_)
          clear hK K
          try simp only [Act.put, List.getElem_toArray, List.getElem_cons_succ, List.getElem_cons_zero, List.setIfInBounds_toArray, List.set_cons_zero, List.set_cons_succ]
          refine wpAnyH_take (i := 14) (v := ?_) rfl (by kernel_rfl) (by kernel_rfl) (by kernel_rfl) (fun _ _ _ h => h) (Or.inl ⟨by kernel_rfl, ?_⟩) (by assumption) ?_
          rotate_left 1
          · intro w9 hSw
            try dsimp only at hSw
            go_simp
            try with_reducible rfl
          try simp only [Act.put, List.getElem_toArray, List.getElem_cons_succ, List.getElem_cons_zero, List.setIfInBounds_toArray, List.set_cons_zero, List.set_cons_succ]
          refine wpAnyH_take (i := 15) (v := ?_) rfl (by kernel_rfl) (by kernel_rfl) (by kernel_rfl) (fun _ _ _ h => h) (Or.inl ⟨by kernel_rfl, ?_⟩) (by assumption) ?_
          rotate_left 1
          · intro w9 hSw
            try dsimp only at hSw
            go_simp
            try with_reducible rfl
          try simp only [Act.put, List.getElem_toArray, List.getElem_cons_succ, List.getElem_cons_zero, List.setIfInBounds_toArray, List.set_cons_zero, List.set_cons_succ]
          refine wpAnyH_take (i := 16) (v := ?_) rfl (by kernel_rfl) (by kernel_rfl) (by kernel_rfl) (fun _ _ _ h => h) (Or.inl ⟨by kernel_rfl, ?_⟩) (by assumption) ?_
          rotate_left 1
          · intro w9 hSw
            try dsimp only at hSw
            go_simp
            try with_reducible rfl
          try simp only [Act.put, List.getElem_toArray, List.getElem_cons_succ, List.getElem_cons_zero, List.setIfInBounds_toArray, List.set_cons_zero, List.set_cons_succ]
          refine wpAnyH_take (i := 17) (v := ?_) rfl (by kernel_rfl) (by kernel_rfl) (by kernel_rfl) (fun _ _ _ h => h) (Or.inl ⟨by kernel_rfl, ?_⟩) (by assumption) ?_
          rotate_left 1
          · intro w9 hSw
            try dsimp only at hSw
            go_simp
            try with_reducible rfl
          try simp only [Act.put, List.getElem_toArray, List.getElem_cons_succ, List.getElem_cons_zero, List.setIfInBounds_toArray, List.set_cons_zero, List.set_cons_succ]
          refine wpAnyH_done (by kernel_rfl) ?_ _
          go_wp2
          go_ret2
          exact ⟨rfl, HB_sjeglhmn.out⟩
      · go_simp
        have hb := ba Wsje (.cells #[.slice (some ⟨Ws.heap.size, 0, none⟩) 1 1, .slice la l.length lc] 24)
        have HB_sjel := Lib.hid (bt HB_sje.out hb)
        have K_sjel := Lib.hid (K_sje.out.below hb)
        have Y_sjel := Lib.hid (Y_sje.out.below hb)
        have U_sjel := Lib.hid (U_sje.out.below hb)
        have L_sjel := Lib.hid (L_sje.out.below hb)
        have R_sjel := Lib.hid (R_sje.out.below hb)
        have A_sjel := Lib.hid (A_sje.out.below hb)
        have RR_sjel := Lib.hid (rows_pair R_sje.out L_sje.out 24)
        clear hb
        refine hK.out _ _ (show _ from ⟨⟨K_sjel.out.1.1, K_sjel.out.1.2.1, K_sjel.out.1.2.2⟩, K_sjel.out.2.1, K_sjel.out.2.2⟩) (fun hHeld => ?_)
        clear hK K
        try simp only [Act.put, List.getElem_toArray, List.getElem_cons_succ, List.getElem_cons_zero, List.setIfInBounds_toArray, List.set_cons_zero, List.set_cons_succ]
        generalize hW9 : Wsje.alloc (.cells #[.slice (some ⟨Ws.heap.size, 0, none⟩) 1 1, .slice la l.length lc] 24) = Wsjel at *
        clear hW9
        refine wpAnyH_ready (rs := [6]) (by kernel_rfl) (by simp) ?_
        refine AllReadyH.cons rfl (fun K hK => ?_) (AllReadyH.nil)
        go_simp
        have hb := ba Wsjel (.cells #[.slice (some ⟨Wsj.heap.size, 0, none⟩) 1 1, .slice ya l.length yc] 24)
        have HB_sjelg := Lib.hid (bt HB_sjel.out hb)
        have K_sjelg := Lib.hid (K_sjel.out.below hb)
        have Y_sjelg := Lib.hid (Y_sjel.out.below hb)
        have U_sjelg := Lib.hid (U_sjel.out.below hb)
        have L_sjelg := Lib.hid (L_sjel.out.below hb)
        have R_sjelg := Lib.hid (R_sjel.out.below hb)
        have A_sjelg := Lib.hid (A_sjel.out.below hb)
        have RR_sjelg := Lib.hid (RR_sjel.out.below hb)
        have AA_sjelg := Lib.hid (rows_pair A_sjel.out U_sjel.out 24)
        clear hb
        refine hK.out _ _ (show _ from ⟨⟨K_sjelg.out.1.1, K_sjelg.out.1.2.1, K_sjelg.out.1.2.2⟩, K_sjelg.out.2.1, K_sjelg.out.2.2⟩) (fun hHeld => ?_)
        clear hK K
        try simp only [Act.put, List.getElem_toArray, List.getElem_cons_succ, List.getElem_cons_zero, List.setIfInBounds_toArray, List.set_cons_zero, List.set_cons_succ]
        generalize hW9 : Wsjel.alloc (.cells #[.slice (some ⟨Wsj.heap.size, 0, none⟩) 1 1, .slice ya l.length yc] 24) = Wsjelg at *
        clear hW9
        refine wpAnyH_ready (rs := [7]) (by kernel_rfl) (by simp) ?_
        refine AllReadyH.cons rfl (fun K hK => ?_) (AllReadyH.nil)
        go_simp
        go_at_call 123
        refine (concatRows_any (by have := HLL.out; simp; omega) (by simp) AA_sjelg.out).mono ?_
        rw [HUS.out]
        rintro e' Wsjelgh ⟨rc, rfl, ho, hb⟩
        obtain ⟨oa, oc, rfl⟩ := ho.toIn.shape
        have HB_sjelgh := Lib.hid (bt HB_sjelg.out hb)
        have K_sjelgh := Lib.hid (K_sjelg.out.below hb)
        have Y_sjelgh := Lib.hid (Y_sjelg.out.below hb)
        have U_sjelgh := Lib.hid (U_sjelg.out.below hb)
        have L_sjelgh := Lib.hid (L_sjelg.out.below hb)
        have R_sjelgh := Lib.hid (R_sjelg.out.below hb)
        have A_sjelgh := Lib.hid (A_sjelg.out.below hb)
        have RR_sjelgh := Lib.hid (RR_sjelg.out.below hb)
        have AA_sjelgh := Lib.hid (AA_sjelg.out.below hb)
        have CA_sjelgh := Lib.hid ho.toIn
        clear ho
        clear hb
        go_wp2_with fail
        refine hK.out _ _ (show _ from ⟨⟨K_sjelgh.out.1.1, K_sjelgh.out.1.2.1, K_sjelgh.out.1.2.2⟩, K_sjelgh.out.2.1, K_sjelgh.out.2.2⟩) (fun hHeld => ?_)
        clear hK K
        try simp only [Act.put, List.getElem_toArray, List.getElem_cons_succ, List.getElem_cons_zero, List.setIfInBounds_toArray, List.set_cons_zero, List.set_cons_succ]
        refine wpAnyH_ready (rs := [12]) (by kernel_rfl) (by simp) ?_
        refine AllReadyH.cons rfl (fun K hK => ?_) (AllReadyH.nil)
        go_simp
        go_at_call 123
        refine (concatRows_any (by have := HLL.out; simp; omega) (by simp) RR_sjelgh.out).mono ?_
        rw [HXS.out]
        rintro e' Wsjelghm ⟨rc, rfl, ho, hb⟩
        obtain ⟨oa2, oc2, rfl⟩ := ho.toIn.shape
        have HB_sjelghm := Lib.hid (bt HB_sjelgh.out hb)
        have K_sjelghm := Lib.hid (K_sjelgh.out.below hb)
        have Y_sjelghm := Lib.hid (Y_sjelgh.out.below hb)
        have U_sjelghm := Lib.hid (U_sjelgh.out.below hb)
        have L_sjelghm := Lib.hid (L_sjelgh.out.below hb)
        have R_sjelghm := Lib.hid (R_sjelgh.out.below hb)
        have A_sjelghm := Lib.hid (A_sjelgh.out.below hb)
        have RR_sjelghm := Lib.hid (RR_sjelgh.out.below hb)
        have AA_sjelghm := Lib.hid (AA_sjelgh.out.below hb)
        have CA_sjelghm := Lib.hid (CA_sjelgh.out.below hb)
        have CR_sjelghm := Lib.hid ho.toIn
        clear ho
        clear hb
        go_wp2_with fail
        refine hK.out _ _ (show _ from ⟨⟨K_sjelghm.out.1.1, K_sjelghm.out.1.2.1, K_sjelghm.out.1.2.2⟩, K_sjelghm.out.2.1, K_sjelghm.out.2.2⟩) (fun hHeld => ?_)
        clear hK K
        try simp only [Act.put, List.getElem_toArray, List.getElem_cons_succ, List.getElem_cons_zero, List.setIfInBounds_toArray, List.set_cons_zero, List.set_cons_succ]
        refine wpAnyH_ready (rs := [13]) (by kernel_rfl) (by simp) ?_
        refine AllReadyH.cons rfl (fun K hK => ?_) (AllReadyH.nil)
        go_simp
        go_at_call 120
        refine (multiply_any P Q G H HL9.out (us := us) (xs := xs) HU9.out HXU.out Y_sjelghm.out CA_sjelghm.out CR_sjelghm.out).mono ?_
        rw [E1.out.1, E1.out.2]
        rintro e' Wsjelghmn ⟨rfl, hb⟩
        have HB_sjelghmn := Lib.hid (bt HB_sjelghm.out hb)
        have K_sjelghmn := Lib.hid (K_sjelghm.out.below hb)
        have Y_sjelghmn := Lib.hid (Y_sjelghm.out.below hb)
        have U_sjelghmn := Lib.hid (U_sjelghm.out.below hb)
        have L_sjelghmn := Lib.hid (L_sjelghm.out.below hb)
        have R_sjelghmn := Lib.hid (R_sjelghm.out.below hb)
        have A_sjelghmn := Lib.hid (A_sjelghm.out.below hb)
        have RR_sjelghmn := Lib.hid (RR_sjelghm.out.below hb)
        have AA_sjelghmn := Lib.hid (AA_sjelghm.out.below hb)
        have CA_sjelghmn := Lib.hid (CA_sjelghm.out.below hb)
        have CR_sjelghmn := Lib.hid (CR_sjelghm.out.below hb)
        clear hb
        go_wp2_with fail
        refine hK.out _ _ (show _ from ⟨⟨K_sjelghmn.out.1.1, K_sjelghmn.out.1.2.1, K_sjelghmn.out.1.2.2⟩, K_sjelghmn.out.2.1, K_sjelghmn.out.2.2⟩) (fun hHeld => ?_)
        clear hK K
        try simp only [Act.put, List.getElem_toArray, List.getElem_cons_succ, List.getElem_cons_zero, List.setIfInBounds_toArray, List.set_cons_zero, List.set_cons_succ]
        refine wpAnyH_take (i := 14) (v := ?_) rfl (by kernel_rfl) (by kernel_rfl) (by kernel_rfl) (fun _ _ _ h => h) (Or.inl ⟨by kernel_rfl, ?_⟩) (by assumption) ?_
        rotate_left 1
        · intro w9 hSw
          try dsimp only at hSw
          go_simp
          try with_reducible rfl
        try simp only [Act.put, List.getElem_toArray, List.getElem_cons_succ, List.getElem_cons_zero, List.setIfInBounds_toArray, List.set_cons_zero, List.set_cons_succ]
        refine wpAnyH_take (i := 15) (v := ?_) rfl (by kernel_rfl) (by kernel_rfl) (by kernel_rfl) (fun _ _ _ h => h) (Or.inl ⟨by kernel_rfl, ?_⟩) (by assumption) ?_
        rotate_left 1
        · intro w9 hSw
          try dsimp only at hSw
          go_simp
          try with_reducible rfl
        try simp only [Act.put, List.getElem_toArray, List.getElem_cons_succ, List.getElem_cons_zero, List.setIfInBounds_toArray, List.set_cons_zero, List.set_cons_succ]
        refine wpAnyH_take (i := 16) (v := ?_) rfl (by kernel_rfl) (by kernel_rfl) (by kernel_rfl) (fun _ _ _ h => h) (Or.inl ⟨by kernel_rfl, ?_⟩) (by assumption) ?_
        rotate_left 1
        · intro w9 hSw
          try dsimp only at hSw
          go_simp
          try with_reducible rfl
        try simp only [Act.put, List.getElem_toArray, List.getElem_cons_succ, List.getElem_cons_zero, List.setIfInBounds_toArray, List.set_cons_zero, List.set_cons_succ]
        refine wpAnyH_take (i := 17) (v := ?_) rfl (by kernel_rfl) (by kernel_rfl) (by kernel_rfl) (fun _ _ _ h => h) (Or.inl ⟨by kernel_rfl, ?_⟩) (by assumption) ?_
        rotate_left 1
        · intro w9 hSw
          try dsimp only at hSw
          go_simp
          try with_reducible rfl
        try simp only [Act.put, List.getElem_toArray, List.getElem_cons_succ, List.getElem_cons_zero, List.setIfInBounds_toArray, List.set_cons_zero, List.set_cons_succ]
        refine wpAnyH_done (by kernel_rfl) ?_ _
        go_wp2
        go_ret2
        exact ⟨rfl, HB_sjelghmn.out⟩
    · go_simp
      have hb := ba Wsj (.cells #[.slice (some ⟨Ws.heap.size, 0, none⟩) 1 1, .slice la l.length lc] 24)
      have HB_sjl := Lib.hid (bt HB_sj.out hb)
      have K_sjl := Lib.hid (K_sj.out.below hb)
      have Y_sjl := Lib.hid (Y_sj.out.below hb)
      have U_sjl := Lib.hid (U_sj.out.below hb)
      have L_sjl := Lib.hid (L_sj.out.below hb)
      have R_sjl := Lib.hid (R_sj.out.below hb)
      have RR_sjl := Lib.hid (rows_pair R_sj.out L_sj.out 24)
      clear hb
      refine hK.out _ _ (show _ from ⟨⟨K_sjl.out.1.1, K_sjl.out.1.2.1, K_sjl.out.1.2.2⟩, K_sjl.out.2.1, K_sjl.out.2.2⟩) (fun hHeld => ?_)
      clear hK K
      try simp only [Act.put, List.getElem_toArray, List.getElem_cons_succ, List.getElem_cons_zero, List.setIfInBounds_toArray, List.set_cons_zero, List.set_cons_succ]
      generalize hW9 : Wsj.alloc (.cells #[.slice (some ⟨Ws.heap.size, 0, none⟩) 1 1, .slice la l.length lc] 24) = Wsjl at *
      clear hW9
      refine wpAnyH_ready (rs := [4]) (by kernel_rfl) (by simp) ?_
      refine AllReadyH.cons rfl (fun K hK => ?_) (AllReadyH.nil)
      go_simp
      have hb := ba Wsjl (.cells #[.int .i64 H] 3)
      have HB_sjle := Lib.hid (bt HB_sjl.out hb)
      have K_sjle := Lib.hid (K_sjl.out.below hb)
      have Y_sjle := Lib.hid (Y_sjl.out.below hb)
      have U_sjle := Lib.hid (U_sjl.out.below hb)
      have L_sjle := Lib.hid (L_sjl.out.below hb)
      have R_sjle := Lib.hid (R_sjl.out.below hb)
      have RR_sjle := Lib.hid (RR_sjl.out.below hb)
      have A_sjle := Lib.hid (show InI (Wsjl.alloc (.cells #[.int .i64 H] 3)).heap.size (Wsjl.alloc (.cells #[.int .i64 H] 3)) (.slice (some ⟨Wsjl.heap.size, 0, none⟩) 1 1) [H] from inI_at Wsjl _ rfl [H] 3)
      clear hb
      refine hK.out _ _ (show _ from ⟨⟨K_sjle.out.1.1, K_sjle.out.1.2.1, K_sjle.out.1.2.2⟩, K_sjle.out.2.1, K_sjle.out.2.2⟩) (fun hHeld => ?_)
      clear hK K
      try simp only [Act.put, List.getElem_toArray, List.getElem_cons_succ, List.getElem_cons_zero, List.setIfInBounds_toArray, List.set_cons_zero, List.set_cons_succ]
      generalize hW9 : Wsjl.alloc (.cells #[.int .i64 H] 3) = Wsjle at *
      clear hW9
      refine wpAnyH_ready (rs := [6]) (by kernel_rfl) (by simp) ?_
      refine AllReadyH.cons rfl (fun K hK => ?_) (AllReadyH.nil)
      go_simp
      have hb := ba Wsjle (.cells #[.slice (some ⟨Wsjl.heap.size, 0, none⟩) 1 1, .slice ya l.length yc] 24)
      have HB_sjleg := Lib.hid (bt HB_sjle.out hb)
      have K_sjleg := Lib.hid (K_sjle.out.below hb)
      have Y_sjleg := Lib.hid (Y_sjle.out.below hb)
      have U_sjleg := Lib.hid (U_sjle.out.below hb)
      have L_sjleg := Lib.hid (L_sjle.out.below hb)
      have R_sjleg := Lib.hid (R_sjle.out.below hb)
      have RR_sjleg := Lib.hid (RR_sjle.out.below hb)
      have A_sjleg := Lib.hid (A_sjle.out.below hb)
      have AA_sjleg := Lib.hid (rows_pair A_sjle.out U_sjle.out 24)
      clear hb
      refine hK.out _ _ (show _ from ⟨⟨K_sjleg.out.1.1, K_sjleg.out.1.2.1, K_sjleg.out.1.2.2⟩, K_sjleg.out.2.1, K_sjleg.out.2.2⟩) (fun hHeld => ?_)
      clear hK K
      try simp only [Act.put, List.getElem_toArray, List.getElem_cons_succ, List.getElem_cons_zero, List.setIfInBounds_toArray, List.set_cons_zero, List.set_cons_succ]
      generalize hW9 : Wsjle.alloc (.cells #[.slice (some ⟨Wsjl.heap.size, 0, none⟩) 1 1, .slice ya l.length yc] 24) = Wsjleg at *
      clear hW9
      refine wpAnyH_ready (rs := [7]) (by kernel_rfl) (by simp) ?_
      refine AllReadyH.cons rfl (fun K hK => ?_) (AllReadyH.nil)
      go_simp
      go_at_call 123
      refine (concatRows_any (by have := HLL.out; simp; omega) (by simp) AA_sjleg.out).mono ?_
      rw [HUS.out]
      rintro e' Wsjlegh ⟨rc, rfl, ho, hb⟩
      obtain ⟨oa, oc, rfl⟩ := ho.toIn.shape
      have HB_sjlegh := Lib.hid (bt HB_sjleg.out hb)
      have K_sjlegh := Lib.hid (K_sjleg.out.below hb)
      have Y_sjlegh := Lib.hid (Y_sjleg.out.below hb)
      have U_sjlegh := Lib.hid (U_sjleg.out.below hb)
      have L_sjlegh := Lib.hid (L_sjleg.out.below hb)
      have R_sjlegh := Lib.hid (R_sjleg.out.below hb)
      have RR_sjlegh := Lib.hid (RR_sjleg.out.below hb)
      have A_sjlegh := Lib.hid (A_sjleg.out.below hb)
      have AA_sjlegh := Lib.hid (AA_sjleg.out.below hb)
      have CA_sjlegh := Lib.hid ho.toIn
      clear ho
      clear hb
      go_wp2_with fail
      refine hK.out _ _ (show _ from ⟨⟨K_sjlegh.out.1.1, K_sjlegh.out.1.2.1, K_sjlegh.out.1.2.2⟩, K_sjlegh.out.2.1, K_sjlegh.out.2.2⟩) (fun hHeld => ?_)
      clear hK K
      try simp only [Act.put, List.getElem_toArray, List.getElem_cons_succ, List.getElem_cons_zero, List.setIfInBounds_toArray, List.set_cons_zero, List.set_cons_succ]
      refine wpAnyH_ready (rs := [12]) (by kernel_rfl) (by simp) ?_
      refine AllReadyH.cons rfl (fun K hK => ?_) (AllReadyH.nil)
      go_simp
      go_at_call 123
      refine (concatRows_any (by have := HLL.out; simp; omega) (by simp) RR_sjlegh.out).mono ?_
      rw [HXS.out]
      rintro e' Wsjleghm ⟨rc, rfl, ho, hb⟩
      obtain ⟨oa2, oc2, rfl⟩ := ho.toIn.shape
      have HB_sjleghm := Lib.hid (bt HB_sjlegh.out hb)
      have K_sjleghm := Lib.hid (K_sjlegh.out.below hb)
      have Y_sjleghm := Lib.hid (Y_sjlegh.out.below hb)
      have U_sjleghm := Lib.hid (U_sjlegh.out.below hb)
      have L_sjleghm := Lib.hid (L_sjlegh.out.below hb)
      have R_sjleghm := Lib.hid (R_sjlegh.out.below hb)
      have RR_sjleghm := Lib.hid (RR_sjlegh.out.below hb)
      have A_sjleghm := Lib.hid (A_sjlegh.out.below hb)
      have AA_sjleghm := Lib.hid (AA_sjlegh.out.below hb)
      have CA_sjleghm := Lib.hid (CA_sjlegh.out.below hb)
      have CR_sjleghm := Lib.hid ho.toIn
      clear ho
      clear hb
      go_wp2_with fail
      refine hK.out _ _ (show _ from ⟨⟨K_sjleghm.out.1.1, K_sjleghm.out.1.2.1, K_sjleghm.out.1.2.2⟩, K_sjleghm.out.2.1, K_sjleghm.out.2.2⟩) (fun hHeld => ?_)
      clear hK K
      try simp only [Act.put, List.getElem_toArray, List.getElem_cons_succ, List.getElem_cons_zero, List.setIfInBounds_toArray, List.set_cons_zero, List.set_cons_succ]
      refine wpAnyH_ready (rs := [13]) (by kernel_rfl) (by simp) ?_
      refine AllReadyH.cons rfl (fun K hK => ?_) (AllReadyH.nil)
      go_simp
      go_at_call 120
      refine (multiply_any P Q G H HL9.out (us := us) (xs := xs) HU9.out HXU.out Y_sjleghm.out CA_sjleghm.out CR_sjleghm.out).mono ?_
      rw [E1.out.1, E1.out.2]
      rintro e' Wsjleghmn ⟨rfl, hb⟩
      have HB_sjleghmn := Lib.hid (bt HB_sjleghm.out hb)
      have K_sjleghmn := Lib.hid (K_sjleghm.out.below hb)
      have Y_sjleghmn := Lib.hid (Y_sjleghm.out.below hb)
      have U_sjleghmn := Lib.hid (U_sjleghm.out.below hb)
      have L_sjleghmn := Lib.hid (L_sjleghm.out.below hb)
      have R_sjleghmn := Lib.hid (R_sjleghm.out.below hb)
      have RR_sjleghmn := Lib.hid (RR_sjleghm.out.below hb)
      have A_sjleghmn := Lib.hid (A_sjleghm.out.below hb)
      have AA_sjleghmn := Lib.hid (AA_sjleghm.out.below hb)
      have CA_sjleghmn := Lib.hid (CA_sjleghm.out.below hb)
      have CR_sjleghmn := Lib.hid (CR_sjleghm.out.below hb)
      clear hb
      go_wp2_with fail
      refine hK.out _ _ (show _ from ⟨⟨K_sjleghmn.out.1.1, K_sjleghmn.out.1.2.1, K_sjleghmn.out.1.2.2⟩, K_sjleghmn.out.2.1, K_sjleghmn.out.2.2⟩) (fun hHeld => ?_)
      clear hK K
      try simp only [Act.put, List.getElem_toArray, List.getElem_cons_succ, List.getElem_cons_zero, List.setIfInBounds_toArray, List.set_cons_zero, List.set_cons_succ]
      refine wpAnyH_take (i := 14) (v := ?_) rfl (by kernel_rfl) (by kernel_rfl) (by kernel_rfl) (fun _ _ _ h => h) (Or.inl ⟨by kernel_rfl, ?_⟩) (by assumption) ?_
      rotate_left 1
      · intro w9 hSw
        try dsimp only at hSw
        go_simp
        try with_reducible rfl
      try simp only [Act.put, List.getElem_toArray, List.getElem_cons_succ, List.getElem_cons_zero, List.setIfInBounds_toArray, List.set_cons_zero, List.set_cons_succ]
      refine wpAnyH_take (i := 15) (v := ?_) rfl (by kernel_rfl) (by kernel_rfl) (by kernel_rfl) (fun _ _ _ h => h) (Or.inl ⟨by kernel_rfl, ?_⟩) (by assumption) ?_
      rotate_left 1
      · intro w9 hSw
        try dsimp only at hSw
        go_simp
        try with_reducible rfl
      try simp only [Act.put, List.getElem_toArray, List.getElem_cons_succ, List.getElem_cons_zero, List.setIfInBounds_toArray, List.set_cons_zero, List.set_cons_succ]
      refine wpAnyH_take (i := 16) (v := ?_) rfl (by kernel_rfl) (by kernel_rfl) (by kernel_rfl) (fun _ _ _ h => h) (Or.inl ⟨by kernel_rfl, ?_⟩) (by assumption) ?_
      rotate_left 1
      · intro w9 hSw
        try dsimp only at hSw
        go_simp
        try with_reducible rfl
      try simp only [Act.put, List.getElem_toArray, List.getElem_cons_succ, List.getElem_cons_zero, List.setIfInBounds_toArray, List.set_cons_zero, List.set_cons_succ]
      refine wpAnyH_take (i := 17) (v := ?_) rfl (by kernel_rfl) (by kernel_rfl) (by kernel_rfl) (fun _ _ _ h => h) (Or.inl ⟨by kernel_rfl, ?_⟩) (by assumption) ?_
      rotate_left 1
      · intro w9 hSw
        try dsimp only at hSw
        go_simp
        try with_reducible rfl
      try simp only [Act.put, List.getElem_toArray, List.getElem_cons_succ, List.getElem_cons_zero, List.setIfInBounds_toArray, List.set_cons_zero, List.set_cons_succ]
      refine wpAnyH_done (by kernel_rfl) ?_ _
      go_wp2
      go_ret2
      exact ⟨rfl, HB_sjleghmn.out⟩

set_option maxRecDepth 100000 in
set_option maxHeartbeats 3200000 in
theorem isCommitmentInt_any (P Q G H : Int) {B : Nat} {hs : List Int} (hl : hs.length ≤ 1048576) (c : Int) (m r : Int) {w : World} {ya : Option Addr} {yc : Nat} (hy : InI B w (.slice ya hs.length yc) hs) :
    Calls Try.prog 74 #[gv P Q G, .int .i64 c, .func (.func 72) #[.agg #[.int .i64 P, .int .i64 Q, .int .i64 G, .int .i64 H, .slice ya hs.length yc]] #[], .int .i64 m, .int .i64 r] w fun e w' => e = .returned (.tuple #[.bool (coV P Q c (cmB P Q G H hs m r) (cmV P Q G H hs m r)), .bool (coB P Q c (cmB P Q G H hs m r))]) ∧ Below w.heap.size w w' := by
  have G_0 := Lib.hid (gr_at w (w.heap.size) (by simp) P Q G 29)
  have HB_0 := Lib.hid (show Below w.heap.size w (w.alloc (.cells #[.int .i64 P, .int .i64 Q, .int .i64 G] 29)) from ba _ _)
  have Y_0 := Lib.hid (hy.below HB_0.out)
  have HC := Lib.hid (fun (W : World) (h : InI B W (.slice ya hs.length yc) hs) => kcommit_any P Q G H (by omega) m r h)
  obtain ⟨v, hv⟩ : ∃ v, cmV P Q G H hs m r = v := ⟨_, rfl⟩
  obtain ⟨b, hb0⟩ : ∃ b, cmB P Q G H hs m r = b := ⟨_, rfl⟩
  rw [hv, hb0] at HC ⊢
  have HBB := Lib.hid hb0
  clear hv hb0 hy
  cases h0 : b
  · have K0 := Lib.hid (show b = false from h0)
    have E1 := Lib.hid (show coB P Q c false = false by simp [coB])
    have E2 := Lib.hid (show coV P Q c false v = false by simp [coV, coB])
    rw [E1.out, E2.out]
    clear h0
    obtain ⟨gG0, gG1, gG2⟩ := G_0.out
    go_enter Try.func74, Try.ntmps74
    go_wp2_with fail
    refine (HC.out _ Y_0.out).mono ?_
    rw [K0.out]
    rintro e v1 ⟨rfl, hb⟩
    have HB_1 := Lib.hid (bt HB_0.out hb)
    have G_1 := Lib.hid (G_0.out.below hb)
    have Y_1 := Lib.hid (Y_0.out.below hb)
    clear hb gG0 gG1 gG2
    obtain ⟨gG0, gG1, gG2⟩ := G_1.out
    go_wp2
    go_ret2
    exact ⟨rfl, HB_1.out⟩
  have K0 := Lib.hid (show b = true from h0)
  have hmo := good_mo (bs_good (cm_bs (HBB.out.trans h0)))
  cases h1 : elB P Q c
  · have K1 := Lib.hid (show elB P Q c = false from h1)
    have E1 := Lib.hid (show coB P Q c true = false by simp [coB, h1])
    have E2 := Lib.hid (show coV P Q c true v = false by simp [coV, coB, h1])
    rw [E1.out, E2.out]
    clear h0 h1
    obtain ⟨gG0, gG1, gG2⟩ := G_0.out
    go_enter Try.func74, Try.ntmps74
    go_wp2_with fail
    refine (HC.out _ Y_0.out).mono ?_
    rw [K0.out]
    rintro e v1 ⟨rfl, hb⟩
    have HB_1 := Lib.hid (bt HB_0.out hb)
    have G_1 := Lib.hid (G_0.out.below hb)
    have Y_1 := Lib.hid (Y_0.out.below hb)
    clear hb gG0 gG1 gG2
    obtain ⟨gG0, gG1, gG2⟩ := G_1.out
    go_wp2_with fail
    refine (hasElement_any P Q G c hmo _).mono ?_
    rw [K1.out]
    rintro e v2 ⟨rfl, hb⟩
    have HB_2 := Lib.hid (bt HB_1.out hb)
    have G_2 := Lib.hid (G_1.out.below hb)
    have Y_2 := Lib.hid (Y_1.out.below hb)
    clear hb gG0 gG1 gG2
    obtain ⟨gG0, gG1, gG2⟩ := G_2.out
    go_wp2
    go_ret2
    exact ⟨rfl, HB_2.out⟩
  have K1 := Lib.hid (show elB P Q c = true from h1)
  have E1 := Lib.hid (show coB P Q c true = true by simp [coB, h1])
  have E2 := Lib.hid (show coV P Q c true v = decide (c = v) by simp [coV, coB, h1])
  rw [E1.out, E2.out]
  clear h0 h1
  obtain ⟨gG0, gG1, gG2⟩ := G_0.out
  go_enter Try.func74, Try.ntmps74
  go_wp2_with fail
  refine (HC.out _ Y_0.out).mono ?_
  rw [K0.out]
  rintro e v1 ⟨rfl, hb⟩
  have HB_1 := Lib.hid (bt HB_0.out hb)
  have G_1 := Lib.hid (G_0.out.below hb)
  have Y_1 := Lib.hid (Y_0.out.below hb)
  clear hb gG0 gG1 gG2
  obtain ⟨gG0, gG1, gG2⟩ := G_1.out
  go_wp2_with fail
  refine (hasElement_any P Q G c hmo _).mono ?_
  rw [K1.out]
  rintro e v2 ⟨rfl, hb⟩
  have HB_2 := Lib.hid (bt HB_1.out hb)
  have G_2 := Lib.hid (G_1.out.below hb)
  have Y_2 := Lib.hid (Y_1.out.below hb)
  clear hb gG0 gG1 gG2
  obtain ⟨gG0, gG1, gG2⟩ := G_2.out
  go_wp2
  go_ret2
  exact ⟨by simp [Bool.beq_eq_decide_eq], HB_2.out⟩

set_option maxRecDepth 100000 in
set_option maxHeartbeats 3200000 in
theorem isCommitmentVec_any (P Q G H : Int) {B : Nat} {hs : List Int} (hl : hs.length ≤ 1048576) (c : Int) {C : Nat} {la : Option Addr} {lc : Nat} {l : List Int} (ll : l.length ≤ 1048576) (r : Int) {w : World} {ya : Option Addr} {yc : Nat} (hy : InI B w (.slice ya hs.length yc) hs) (hu : InI C w (.slice la l.length lc) l) :
    Calls Try.prog 77 #[gv P Q G, .int .i64 c, .func (.func 76) #[.agg #[.int .i64 P, .int .i64 Q, .int .i64 G, .int .i64 H, .slice ya hs.length yc]] #[], .slice la l.length lc, .int .i64 r] w fun e w' => e = .returned (.tuple #[.bool (coV P Q c (cvB P Q G H hs l r) (cvV P Q G H hs l r)), .bool (coB P Q c (cvB P Q G H hs l r))]) ∧ Below w.heap.size w w' := by
  have G_0 := Lib.hid (gr_at w (w.heap.size) (by simp) P Q G 29)
  have HB_0 := Lib.hid (show Below w.heap.size w (w.alloc (.cells #[.int .i64 P, .int .i64 Q, .int .i64 G] 29)) from ba _ _)
  have Y_0 := Lib.hid (hy.below HB_0.out)
  have L_0 := Lib.hid (hu.below HB_0.out)
  have HC := Lib.hid (fun (W : World) (h : InI B W (.slice ya hs.length yc) hs) (h2 : InI C W (.slice la l.length lc) l) => kvector_any P Q G H hl ll r h h2)
  obtain ⟨v, hv⟩ : ∃ v, cvV P Q G H hs l r = v := ⟨_, rfl⟩
  obtain ⟨b, hb0⟩ : ∃ b, cvB P Q G H hs l r = b := ⟨_, rfl⟩
  rw [hv, hb0] at HC ⊢
  have HBB := Lib.hid hb0
  clear hv hb0 hy hu
  cases h0 : b
  · have K0 := Lib.hid (show b = false from h0)
    have E1 := Lib.hid (show coB P Q c false = false by simp [coB])
    have E2 := Lib.hid (show coV P Q c false v = false by simp [coV, coB])
    rw [E1.out, E2.out]
    clear h0
    obtain ⟨gG0, gG1, gG2⟩ := G_0.out
    go_enter Try.func77, Try.ntmps77
    go_wp2_with fail
    refine (HC.out _ Y_0.out L_0.out).mono ?_
    rw [K0.out]
    rintro e v1 ⟨rfl, hb⟩
    have HB_1 := Lib.hid (bt HB_0.out hb)
    have G_1 := Lib.hid (G_0.out.below hb)
    have Y_1 := Lib.hid (Y_0.out.below hb)
    have L_1 := Lib.hid (L_0.out.below hb)
    clear hb gG0 gG1 gG2
    obtain ⟨gG0, gG1, gG2⟩ := G_1.out
    go_wp2
    go_ret2
    exact ⟨rfl, HB_1.out⟩
  have K0 := Lib.hid (show b = true from h0)
  have hmo := good_mo (bs_good (cv_bs (HBB.out.trans h0)))
  cases h1 : elB P Q c
  · have K1 := Lib.hid (show elB P Q c = false from h1)
    have E1 := Lib.hid (show coB P Q c true = false by simp [coB, h1])
    have E2 := Lib.hid (show coV P Q c true v = false by simp [coV, coB, h1])
    rw [E1.out, E2.out]
    clear h0 h1
    obtain ⟨gG0, gG1, gG2⟩ := G_0.out
    go_enter Try.func77, Try.ntmps77
    go_wp2_with fail
    refine (HC.out _ Y_0.out L_0.out).mono ?_
    rw [K0.out]
    rintro e v1 ⟨rfl, hb⟩
    have HB_1 := Lib.hid (bt HB_0.out hb)
    have G_1 := Lib.hid (G_0.out.below hb)
    have Y_1 := Lib.hid (Y_0.out.below hb)
    have L_1 := Lib.hid (L_0.out.below hb)
    clear hb gG0 gG1 gG2
    obtain ⟨gG0, gG1, gG2⟩ := G_1.out
    go_wp2_with fail
    refine (hasElement_any P Q G c hmo _).mono ?_
    rw [K1.out]
    rintro e v2 ⟨rfl, hb⟩
    have HB_2 := Lib.hid (bt HB_1.out hb)
    have G_2 := Lib.hid (G_1.out.below hb)
    have Y_2 := Lib.hid (Y_1.out.below hb)
    have L_2 := Lib.hid (L_1.out.below hb)
    clear hb gG0 gG1 gG2
    obtain ⟨gG0, gG1, gG2⟩ := G_2.out
    go_wp2
    go_ret2
    exact ⟨rfl, HB_2.out⟩
  have K1 := Lib.hid (show elB P Q c = true from h1)
  have E1 := Lib.hid (show coB P Q c true = true by simp [coB, h1])
  have E2 := Lib.hid (show coV P Q c true v = decide (c = v) by simp [coV, coB, h1])
  rw [E1.out, E2.out]
  clear h0 h1
  obtain ⟨gG0, gG1, gG2⟩ := G_0.out
  go_enter Try.func77, Try.ntmps77
  go_wp2_with fail
  refine (HC.out _ Y_0.out L_0.out).mono ?_
  rw [K0.out]
  rintro e v1 ⟨rfl, hb⟩
  have HB_1 := Lib.hid (bt HB_0.out hb)
  have G_1 := Lib.hid (G_0.out.below hb)
  have Y_1 := Lib.hid (Y_0.out.below hb)
  have L_1 := Lib.hid (L_0.out.below hb)
  clear hb gG0 gG1 gG2
  obtain ⟨gG0, gG1, gG2⟩ := G_1.out
  go_wp2_with fail
  refine (hasElement_any P Q G c hmo _).mono ?_
  rw [K1.out]
  rintro e v2 ⟨rfl, hb⟩
  have HB_2 := Lib.hid (bt HB_1.out hb)
  have G_2 := Lib.hid (G_1.out.below hb)
  have Y_2 := Lib.hid (Y_1.out.below hb)
  have L_2 := Lib.hid (L_1.out.below hb)
  clear hb gG0 gG1 gG2
  obtain ⟨gG0, gG1, gG2⟩ := G_2.out
  go_wp2
  go_ret2
  exact ⟨by simp [Bool.beq_eq_decide_eq], HB_2.out⟩

set_option maxRecDepth 100000 in
set_option maxHeartbeats 3200000 in
theorem checkOpening_any (P Q G H : Int) {B : Nat} {y : Value} {hs : List Int} (hl : hs.length ≤ 1048576) (c m r : Int) {w : World} (hy : InI B w y hs) :
    Calls Try.prog 24 #[gv P Q G, .agg #[.int .i64 H, y], .int .i64 c, .int .i64 m, .int .i64 r] w fun e w' => e = .returned (.tuple #[.bool (coV P Q c (cmB P Q G H hs m r) (cmV P Q G H hs m r)), .bool (coB P Q c (cmB P Q G H hs m r))]) ∧ Below w.heap.size w w' := by
  obtain ⟨ya, yc, rfl⟩ := hy.shape
  have G_0 := Lib.hid ((gr_at w (w.heap.size) (by simp) P Q G 29).below (ba (w.alloc (.cells #[.int .i64 P, .int .i64 Q, .int .i64 G] 29)) (.cells #[.int .i64 H, .slice ya hs.length yc] 31)))
  have V_0 := Lib.hid (d2_at (w.alloc (.cells #[.int .i64 P, .int .i64 Q, .int .i64 G] 29)) (w.heap.size + 1) (by simp) (.int .i64 H) (.slice ya hs.length yc) 31)
  have HB_0 := Lib.hid (show Below w.heap.size w ((w.alloc (.cells #[.int .i64 P, .int .i64 Q, .int .i64 G] 29)).alloc (.cells #[.int .i64 H, .slice ya hs.length yc] 31)) from bt (ba _ _) (ba _ _))
  have Y_0 := Lib.hid (hy.below HB_0.out)
  clear hy
  have hmf : ∀ (f : Fn) (first cap : Array Value) (w : World), (Instr.makeFunc f first cap).run Try.prog w = .ok (.func f first cap) w := fun _ _ _ _ => rfl
  obtain ⟨gG0, gG1, gG2⟩ := G_0.out
  obtain ⟨cV0, cV1⟩ := V_0.out
  go_enter Try.func24, Try.ntmps24
  go_wp2_with fail
  refine (isCommitmentInt_any P Q G H hl c m r Y_0.out).mono ?_
  rintro e' v9 ⟨rfl, hb9⟩
  have HB_9 := Lib.hid (bt HB_0.out hb9)
  clear hb9
  go_wp2
  go_ret2
  exact ⟨rfl, HB_9.out⟩

set_option maxRecDepth 100000 in
set_option maxHeartbeats 3200000 in
theorem commitVector_any (P Q G H : Int) {B : Nat} {y : Value} {hs : List Int} (hl : hs.length ≤ 1048576) {C : Nat} {u : Value} {l : List Int} (ll : l.length ≤ 1048576) (r : Int) {w : World} (hy : InI B w y hs) (hu : InI C w u l) :
    Calls Try.prog 27 #[gv P Q G, .agg #[.int .i64 H, y], u, .int .i64 r] w fun e w' => e = .returned (.tuple #[.int .i64 (cvV P Q G H hs l r), .bool (cvB P Q G H hs l r)]) ∧ Below w.heap.size w w' := by
  obtain ⟨ya, yc, rfl⟩ := hy.shape
  obtain ⟨la, lc, rfl⟩ := hu.shape
  have G_0 := Lib.hid ((gr_at w (w.heap.size) (by simp) P Q G 29).below (ba (w.alloc (.cells #[.int .i64 P, .int .i64 Q, .int .i64 G] 29)) (.cells #[.int .i64 H, .slice ya hs.length yc] 31)))
  have V_0 := Lib.hid (d2_at (w.alloc (.cells #[.int .i64 P, .int .i64 Q, .int .i64 G] 29)) (w.heap.size + 1) (by simp) (.int .i64 H) (.slice ya hs.length yc) 31)
  have HB_0 := Lib.hid (show Below w.heap.size w ((w.alloc (.cells #[.int .i64 P, .int .i64 Q, .int .i64 G] 29)).alloc (.cells #[.int .i64 H, .slice ya hs.length yc] 31)) from bt (ba _ _) (ba _ _))
  have Y_0 := Lib.hid (hy.below HB_0.out)
  have L_0 := Lib.hid (hu.below HB_0.out)
  clear hy hu
  obtain ⟨gG0, gG1, gG2⟩ := G_0.out
  obtain ⟨cV0, cV1⟩ := V_0.out
  go_enter Try.func27, Try.ntmps27
  go_wp2_with fail
  refine (kvector_any P Q G H hl ll r Y_0.out L_0.out).mono ?_
  rintro e' v9 ⟨rfl, hb9⟩
  have HB_9 := Lib.hid (bt HB_0.out hb9)
  clear hb9
  go_wp2
  go_ret2
  exact ⟨rfl, HB_9.out⟩

set_option maxRecDepth 100000 in
set_option maxHeartbeats 3200000 in
theorem checkVector_any (P Q G H : Int) {B : Nat} {y : Value} {hs : List Int} (hl : hs.length ≤ 1048576) (c : Int) {C : Nat} {u : Value} {l : List Int} (ll : l.length ≤ 1048576) (r : Int) {w : World} (hy : InI B w y hs) (hu : InI C w u l) :
    Calls Try.prog 30 #[gv P Q G, .agg #[.int .i64 H, y], .int .i64 c, u, .int .i64 r] w fun e w' => e = .returned (.tuple #[.bool (coV P Q c (cvB P Q G H hs l r) (cvV P Q G H hs l r)), .bool (coB P Q c (cvB P Q G H hs l r))]) ∧ Below w.heap.size w w' := by
  obtain ⟨ya, yc, rfl⟩ := hy.shape
  obtain ⟨la, lc, rfl⟩ := hu.shape
  have G_0 := Lib.hid ((gr_at w (w.heap.size) (by simp) P Q G 29).below (ba (w.alloc (.cells #[.int .i64 P, .int .i64 Q, .int .i64 G] 29)) (.cells #[.int .i64 H, .slice ya hs.length yc] 31)))
  have V_0 := Lib.hid (d2_at (w.alloc (.cells #[.int .i64 P, .int .i64 Q, .int .i64 G] 29)) (w.heap.size + 1) (by simp) (.int .i64 H) (.slice ya hs.length yc) 31)
  have HB_0 := Lib.hid (show Below w.heap.size w ((w.alloc (.cells #[.int .i64 P, .int .i64 Q, .int .i64 G] 29)).alloc (.cells #[.int .i64 H, .slice ya hs.length yc] 31)) from bt (ba _ _) (ba _ _))
  have Y_0 := Lib.hid (hy.below HB_0.out)
  have L_0 := Lib.hid (hu.below HB_0.out)
  clear hy hu
  have hmf : ∀ (f : Fn) (first cap : Array Value) (w : World), (Instr.makeFunc f first cap).run Try.prog w = .ok (.func f first cap) w := fun _ _ _ _ => rfl
  obtain ⟨gG0, gG1, gG2⟩ := G_0.out
  obtain ⟨cV0, cV1⟩ := V_0.out
  go_enter Try.func30, Try.ntmps30
  go_wp2_with fail
  refine (isCommitmentVec_any P Q G H hl c ll r Y_0.out L_0.out).mono ?_
  rintro e' v9 ⟨rfl, hb9⟩
  have HB_9 := Lib.hid (bt HB_0.out hb9)
  clear hb9
  go_wp2
  go_ret2
  exact ⟨rfl, HB_9.out⟩

end Go.Proofs.Ytdnofcpobpoehaa

/- How the laws copy, compare, measure, mark and hold bases; bases that come into a law. -/
namespace Go.Proofs.Ytdnofcpobpoehaa
open Go.RowKit Go.ChangeShapes Go.WideShapes Go.ChangeAt Go.Joins Go.Deep
set_option linter.unusedVariables false
set_option linter.unusedSimpArgs false

/-! ### Two values in a block that may be written -/
def B2 (w : World) (b : Nat) (x y : Value) : Prop := w.cell? ⟨b, 0, none⟩ = some x ∧ w.cell? ⟨b, 1, none⟩ = some y ∧ ∀ i, w.frozen? ⟨b, i, none⟩ = false
theorem b2_at (w : World) (b : Nat) (hb : w.heap.size = b) (x y : Value) (t : TypeId) : B2 (w.alloc (.cells #[x, y] t)) b x y := by
  subst hb
  refine ⟨?_, ?_, fun _ => World.frozen?_alloc_at _ _ _ _ rfl⟩ <;> (rw [World.cell?_alloc_at _ _ _ _ rfl]; rfl)
theorem B2.lt {w : World} {b : Nat} {x y : Value} (h : B2 w b x y) : b < w.heap.size := World.block_lt_of_cell? w _ h.1
theorem B2.below {w w' : World} {b : Nat} {x y : Value} (h : B2 w b x y) (hb : Below w.heap.size w w') : B2 w' b x y := by
  have hl := h.lt
  refine ⟨?_, ?_, fun i => ?_⟩
  · rw [hb.cell (p := ⟨b, 0, none⟩) hl]; exact h.1
  · rw [hb.cell (p := ⟨b, 1, none⟩) hl]; exact h.2.1
  · rw [hb.frozen (p := ⟨b, i, none⟩) hl]; exact h.2.2 i
theorem B2.mid {w w' : World} {b Q P : Nat} {x y : Value} (h : B2 w b x y) (hm : Mid Q P w w') (ho : b < Q ∨ P ≤ b) : B2 w' b x y := by
  have hl := h.lt
  have he := hm.block b hl ho
  refine ⟨?_, ?_, fun i => ?_⟩
  · rw [World.cell?_of_block (a := ⟨b, 0, none⟩) he]; exact h.1
  · rw [World.cell?_of_block (a := ⟨b, 1, none⟩) he]; exact h.2.1
  · have := h.2.2 i
    unfold World.frozen? at this ⊢
    simp only [he]
    exact this
theorem B2.d2 {w : World} {b : Nat} {x y : Value} (h : B2 w b x y) : D2 w b x y := ⟨h.1, h.2.1⟩

/-! ### A copy -/
def MadeB (w : World) (H : Int) (hs : List Int) (e : Ending) (w' : World) : Prop := ∃ y, e = .returned (.agg #[.int .i64 H, y]) ∧ OwI w.heap.size w'.heap.size w' y hs ∧ Below w.heap.size w w'
set_option maxRecDepth 100000 in
set_option maxHeartbeats 1600000 in
theorem toBas_any {P : Nat} {w : World} {H : Int} {y : Value} {hs : List Int} (h : InI P w y hs) (hl : hs.length ≤ 17592186044416) :
    Calls Try.prog 18 #[.agg #[.int .i64 H, y]] w (MadeB w H hs) := by
  obtain ⟨ya, yc, rfl⟩ := h.shape
  have hb2 := bt (bt (ba w (.cells #[.int .i64 H, .slice ya hs.length yc] 26)) (ba _ (.cells #[.int .i64 0, .slice none 0 0] 31))) (ba _ (.cells #[.int .i64 H, .slice none 0 0] 31))
  have HX := Lib.hid (((b2_at w w.heap.size rfl (.int .i64 H) (.slice ya hs.length yc) 26).below (ba _ (.cells #[.int .i64 0, .slice none 0 0] 31))).below (ba _ (.cells #[.int .i64 H, .slice none 0 0] 31)))
  have HY := Lib.hid ((b2_at (w.alloc (.cells #[.int .i64 H, .slice ya hs.length yc] 26)) (w.heap.size + 1) (by simp) (.int .i64 0) (.slice none 0 0) 31).below (ba _ (.cells #[.int .i64 H, .slice none 0 0] 31)))
  have HZ := Lib.hid (b2_at ((w.alloc (.cells #[.int .i64 H, .slice ya hs.length yc] 26)).alloc (.cells #[.int .i64 0, .slice none 0 0] 31)) (w.heap.size + 2) (by simp) (.int .i64 H) (.slice none 0 0) 31)
  have I2 := Lib.hid (h.below hb2)
  have HB := Lib.hid hb2
  clear hb2 h
  go_enter Try.func18, Try.ntmps18
  go_wp2_with fail
  refine (toI_any I2.out hl).mono ?_
  rintro e w2 ⟨v2, rfl, ho2, hbw⟩
  obtain ⟨vb, wb, rfl⟩ := own_shape ho2.1
  have HY3 := Lib.hid (HY.out.below hbw)
  have HZ3 := Lib.hid (HZ.out.below hbw)
  have HB3 := Lib.hid (bt HB.out hbw)
  have HO3 := Lib.hid (ho2.wide (Q' := w.heap.size + 3) (by simp) (Nat.le_refl _) (Nat.le_refl _))
  clear hbw ho2
  obtain ⟨y0, y1, yf⟩ := HY3.out
  have yf0 := yf 0
  have yf1 := yf 1
  obtain ⟨z0, z1, zf⟩ := HZ3.out
  have zf1 := zf 1
  clear zf yf
  go_wp2
  (try simp only [Exit.inBlock, Exit.then])
  refine bodyPost_ret (v := .agg #[.int .i64 H, .slice vb hs.length wb]) ?_ rfl ⟨_, rfl, ?_, ?_⟩
  · rw [results_cell_one rfl]; go_simp
  · have M := (((mid_cell w2 (w.heap.size + 2) 1 (.slice vb hs.length wb)).wide (Q' := w.heap.size + 1) (P' := w.heap.size + 3) (by omega) (by omega)).trans ((mid_cell _ (w.heap.size + 1) 0 (.int .i64 H)).wide (by omega) (by omega))).trans ((mid_cell _ (w.heap.size + 1) 1 (.slice vb hs.length wb)).wide (by omega) (by omega))
    have o5 := HO3.out.mid M (.inr (Nat.le_refl _))
    exact o5.wide (Nat.le_add_right _ _) (by simp) (Nat.le_refl _)
  · exact ((HB3.out.setCell (show w.heap.size ≤ w.heap.size + 2 by omega) _).setCell (show w.heap.size ≤ w.heap.size + 1 by omega) _).setCell (show w.heap.size ≤ w.heap.size + 1 by omega) _

set_option maxRecDepth 100000 in
set_option maxHeartbeats 1600000 in
theorem eqBas_any {P P' : Nat} {w : World} {H : Int} {y y' : Value} {hs : List Int} (h : InI P w y hs) (h' : InI P' w y' hs) (hl : hs.length ≤ 17592186044416) :
    Calls Try.prog 20 #[.agg #[.int .i64 H, y], .agg #[.int .i64 H, y']] w fun e w' => e = .returned (.bool true) ∧ Below w.heap.size w w' := by
  obtain ⟨ya, yc, rfl⟩ := h.shape
  obtain ⟨za, zc, rfl⟩ := h'.shape
  have hb2 := bt (ba w (.cells #[.int .i64 H, .slice ya hs.length yc] 31)) (ba _ (.cells #[.int .i64 H, .slice za hs.length zc] 31))
  have HX := Lib.hid ((b2_at w w.heap.size rfl (.int .i64 H) (.slice ya hs.length yc) 31).below (ba _ (.cells #[.int .i64 H, .slice za hs.length zc] 31)))
  have HY := Lib.hid (b2_at (w.alloc (.cells #[.int .i64 H, .slice ya hs.length yc] 31)) (w.heap.size + 1) (by simp) (.int .i64 H) (.slice za hs.length zc) 31)
  have J1 := Lib.hid (h.below hb2)
  have K1 := Lib.hid (h'.below hb2)
  have HB := Lib.hid hb2
  clear hb2 h h'
  obtain ⟨x0, x1, _⟩ := HX.out
  obtain ⟨y0, y1, _⟩ := HY.out
  go_enter Try.func20, Try.ntmps20
  go_wp2_with fail
  refine (eqI_any J1.out K1.out hl).mono ?_
  rintro e w1 ⟨rfl, hb1⟩
  have HB1 := Lib.hid (bt HB.out hb1)
  clear hb1
  go_wp2
  go_ret
  exact ⟨rfl, HB1.out⟩

theorem szBas_any {P : Nat} {w : World} {H : Int} {y : Value} {hs : List Int} {left : Int} (h : InI P w y hs) (h0 : 0 ≤ left) (h1 : left ≤ 1048576) (hl : hs.length ≤ maxLen) :
    Calls Try.prog 15 #[.agg #[.int .i64 H, y], .int .i64 left] w fun e w' => e = .returned (.int .i64 (szV hs.length left)) ∧ Below w.heap.size w w' := by
  obtain ⟨ya, yc, rfl⟩ := h.shape
  have hb2 := ba w (.cells #[.int .i64 H, .slice ya hs.length yc] 26)
  have HX := Lib.hid (b2_at w w.heap.size rfl (.int .i64 H) (.slice ya hs.length yc) 26)
  have J1 := Lib.hid (h.below hb2)
  have HB := Lib.hid hb2
  clear hb2 h
  obtain ⟨x0, x1, _⟩ := HX.out
  by_cases hn : (hs.length : Int) ≤ left
  · have e1 : szV hs.length left = left - hs.length := by simp [szV, hn]
    have E1 := Lib.hid e1
    rw [e1]
    have hneg : ¬ left - (hs.length : Int) < 0 := by omega
    clear e1
    go_enter Try.func15, Try.ntmps15
    go_wp2_with fail
    refine (szI_any J1.out h0 h1 hl).mono ?_
    rw [E1.out]
    rintro e w' ⟨rfl, rfl⟩
    go_wp2
    go_ret
    exact ⟨rfl, HB.out⟩
  · have e1 : szV hs.length left = -1 := by simp [szV, hn]
    have E1 := Lib.hid e1
    rw [e1]
    clear e1
    go_enter Try.func15, Try.ntmps15
    go_wp2_with fail
    refine (szI_any J1.out h0 h1 hl).mono ?_
    rw [E1.out]
    rintro e w' ⟨rfl, rfl⟩
    go_wp2
    go_ret
    exact ⟨rfl, HB.out⟩

/-! ### Marks -/
theorem markBas_any {Q P : Nat} {w : World} {H : Int} {y : Value} {hs : List Int} {k : Int} (h : OwI Q P w y hs) (hk0 : 0 ≤ k) (hk1 : k ≤ 8796093022208) (hl : hs.length ≤ 8796093022208) :
    Calls Try.prog 36 #[.agg #[.int .i64 H, y], .int .i64 k] w (MarkI Q P w y hs k) := by
  obtain ⟨ya, yc, rfl⟩ := own_shape h.1
  have hal := ba w (.cells #[.int .i64 H, .slice ya hs.length yc] 31)
  have HX := Lib.hid (b2_at w w.heap.size rfl (.int .i64 H) (.slice ya hs.length yc) 31)
  have HM := Lib.hid (Mid.ofBelow (Q := Q) (P := P) hal)
  have J1 := Lib.hid (h.below hal)
  clear hal h
  obtain ⟨x0, x1, _⟩ := HX.out
  go_enter Try.func36, Try.ntmps36
  go_wp2_with fail
  refine (markI_any J1.out hk0 (by omega) (by omega)).mono ?_
  rintro e w1 ⟨rfl, ho1, hm1⟩
  have O1 := Lib.hid ho1
  have HM1 := Lib.hid (HM.out.trans hm1)
  clear hm1 ho1 x0 x1
  go_wp2
  go_ret
  exact ⟨rfl, O1.out, HM1.out⟩
/-! ### Bases that come into a law -/
theorem inI_opn {T : Type} {enc : TypeId × Value → T} {W : World} {held : Bool} {fuel : Nat} {v : Value} {x : DataW T × List MemPlace}
    (hf : DataW.trod enc Try.prog W 0 (fun _ => true) held fuel 24 [v] = some x) : ∃ zs, InI W.heap.size W v zs ∧ zs.length ≤ maxLen := by
  rcases open_ints Try.underlying24 Try.underlying3 (by kernel_rfl) hf with ⟨hcs, _⟩ | ⟨y, l, c, zs, hcs, _, hl, hm, hz, _, hcell, hwz⟩
  · obtain rfl := (List.cons.inj hcs).1
    exact ⟨[], ⟨Nat.le_refl _, none, 0, rfl, .inl rfl, fun _ => rfl, Nat.le_refl _⟩, by simp⟩
  · obtain rfl := (List.cons.inj hcs).1
    simp only [if_true] at hz
    obtain ⟨q1, q2, q3⟩ := inI_of_row (w := W) (a := some y) (len := l) (cap := c) (zs := zs) (.inr ⟨y, rfl, hl, hm, hz, hcell, hwz⟩)
    exact ⟨_, q1, by omega⟩
set_option maxRecDepth 100000 in
theorem inBas_open {T : Type} {enc : TypeId × Value → T} {W : World} {held : Bool} {b0 : Nat} {v : Value} {d : DataW T} {p : List MemPlace}
    (hv : Value.okWide Try.prog W .any b0 26 v) (h : DataW.Trod enc Try.prog W 0 (fun _ => true) held 26 v d p) :
    ∃ (H : Int) (y : Value) (hs : List Int), v = .agg #[.int .i64 H, y] ∧ InI W.heap.size W y hs ∧ hs.length ≤ maxLen := by
  obtain ⟨v0, v1, y0, y1, n, rfl, _, _, h0, h1⟩ := open_agg2 Try.underlying26 (by kernel_rfl) (by kernel_rfl) hv h
  obtain ⟨H, e0, _, _⟩ := DataW.trod_int Try.underlying3 h0
  obtain rfl := (List.cons.inj e0).1
  obtain ⟨z1, k1, l1⟩ := inI_opn h1
  exact ⟨H, v1, z1, rfl, k1, l1⟩

end Go.Proofs.Ytdnofcpobpoehaa

/- Chapter 9, the reference: bases, commitments, checks of openings. -/
namespace Go.Proofs.Ytdnofcpobpoehaa
open Go.RowKit
set_option linter.unusedVariables false
set_option linter.unusedSimpArgs false

/-! ### No 1 among them -/
def nB (x : Int) (zs : List Int) : Bool := zs.all fun z => decide (z ≠ x)
theorem nB_step {x : Int} {zs rest : List Int} {z : Int} {k : Nat} {t : Bool} (hd : zs.drop k = z :: rest) (he : t = nB x (zs.drop k)) : (z = x → t = false) ∧ (z ≠ x → t = nB x rest) := by
  rw [hd] at he
  refine ⟨fun h => ?_, fun h => ?_⟩ <;> (rw [he]; simp [nB, h])
theorem l9Has_any (ad : Option Addr) (n cap : Nat) (zs : List Int) (x : Int) (hn : zs.length = n) (hl : n ≤ 1152921504606846976) (w : World) (hz : IsInts w ad zs) :
    Calls Try.prog 114 #[.slice ad n cap, .int .i64 x] w fun e w' => e = .returned (.bool (!nB x zs)) ∧ w = w' := by
  have HN := Lib.hid hn
  clear hn
  go_enter Try.func114, Try.ntmps114
  go_wp2_with fail
  go_loop [6, 9] (fun _ K => ∃ k : Nat, k ≤ n ∧ K = .int .i64 k ∧ nB x zs = nB x (zs.drop k)) (fun _ K => n - (intOf K).toNat)
  case atStart => exact ⟨0, Nat.zero_le _, rfl, rfl⟩
  case round =>
    obtain ⟨k, hk, rfl, he⟩ := hrel
    by_cases hkn : k < n
    · obtain ⟨b, off, z, rfl, hb, hc, hd⟩ := hz.at (k := k) (by have := HN.out; omega)
      have HS := Lib.hid (nB_step (rest := zs.drop (k + 1)) hd he)
      clear he hd
      by_cases hxz : z = x
      · have HM := Lib.hid (HS.out.1 hxz)
        have hxb : (z == x) = true := by simp [hxz]
        clear hxz
        go_wp2_with fail
        go_ret
        exact ⟨by rw [HM.out]; rfl, rfl⟩
      · have HM := Lib.hid (HS.out.2 hxz)
        have hxb : (z == x) = false := by simp; exact hxz
        clear hxz
        go_wp2_with fail
        go_round
        case rel => exact ⟨k + 1, by omega, by go_num, HM.out⟩
        case measure => simp only [intOf]; omega
    · have HE := Lib.hid he
      clear he
      go_wp2_with fail
      go_ret
      refine ⟨?_, rfl⟩
      rw [HE.out, List.drop_of_length_le (by have := HN.out; omega)]; rfl
theorem nB_all (P Q : Int) (zs : List Int) : (nB 1 zs && allEl P Q zs) = zs.all fun z => baB P Q z := by
  induction zs with
  | nil => rfl
  | cons a t ih =>
    simp only [nB, allEl, List.all_cons, baB] at ih ⊢
    rw [← ih]
    cases decide (a ≠ 1) <;> cases elB P Q a <;> cases (t.all fun z => decide (z ≠ 1)) <;> rfl
theorem bs_ref (P Q G H : Int) (hs : List Int) : bsB P Q G H hs = (goodB P Q G && (decide (H ≠ 1) && (allEl P Q [H] && (decide (hs.length ≤ 24) && (nB 1 hs && allEl P Q hs))))) := by
  rw [nB_all]
  have e : allEl P Q [H] = elB P Q H := by simp [allEl]
  rw [e]
  simp only [bsB, baB, basB, Bool.and_assoc]
theorem mul_two {P a b : Int} (h0 : 0 ≤ a) (h1 : a < P) : mulFrom P 1 [a, b] = a * b % P := by
  show 1 * a % P * b % P = _
  rw [Int.one_mul, Int.emod_eq_of_lt h0 h1]

set_option maxRecDepth 100000 in
set_option maxHeartbeats 3200000 in
theorem l9Good_any (P Q G H : Int) {B : Nat} {y : Value} {hs : List Int} (hl : hs.length ≤ 1152921504606846976) {w : World} (hy : InI B w y hs) :
    Calls Try.prog 66 #[gv P Q G, .agg #[.int .i64 H, y]] w fun e w' => e = .returned (.bool (bsB P Q G H hs)) ∧ Below w.heap.size w w' := by
  obtain ⟨ya, yc, rfl⟩ := hy.shape
  have G_0 := Lib.hid ((gr_at w (w.heap.size) (by simp) P Q G 29).below (ba (w.alloc (.cells #[.int .i64 P, .int .i64 Q, .int .i64 G] 29)) (.cells #[.int .i64 H, .slice ya hs.length yc] 31)))
  have V_0 := Lib.hid (d2_at (w.alloc (.cells #[.int .i64 P, .int .i64 Q, .int .i64 G] 29)) (w.heap.size + 1) (by simp) (.int .i64 H) (.slice ya hs.length yc) 31)
  have HB_0 := Lib.hid (show Below w.heap.size w ((w.alloc (.cells #[.int .i64 P, .int .i64 Q, .int .i64 G] 29)).alloc (.cells #[.int .i64 H, .slice ya hs.length yc] 31)) from bt (ba _ _) (ba _ _))
  have Y_0 := Lib.hid (hy.below HB_0.out)
  clear hy
  cases h0 : goodB P Q G
  · have K0 := Lib.hid (show goodB P Q G = false from h0)
    have E1 := Lib.hid (show bsB P Q G H hs = false by simp [bs_ref, h0])
    rw [E1.out]
    clear h0
    obtain ⟨gG0, gG1, gG2⟩ := G_0.out
    obtain ⟨cV0, cV1⟩ := V_0.out
    go_enter Try.func66, Try.ntmps66
    go_wp2_with fail
    refine (l2Good_any P Q G _).mono ?_
    rw [K0.out]
    rintro e v1 ⟨rfl, hb⟩
    have HB_1 := Lib.hid (bt HB_0.out hb)
    have G_1 := Lib.hid (G_0.out.below hb)
    have V_1 := Lib.hid (V_0.out.below hb)
    have Y_1 := Lib.hid (Y_0.out.below hb)
    clear hb gG0 gG1 gG2 cV0 cV1
    obtain ⟨gG0, gG1, gG2⟩ := G_1.out
    obtain ⟨cV0, cV1⟩ := V_1.out
    go_wp2
    go_ret
    exact ⟨rfl, HB_1.out⟩
  have K0 := Lib.hid (show goodB P Q G = true from h0)
  have hmo := good_mo h0
  by_cases h1 : ¬ (H ≠ 1)
  · have B1 : (H != 1) = false := by simpa using h1
    have E1 := Lib.hid (show bsB P Q G H hs = false by simp [bs_ref, h0, h1])
    rw [E1.out]
    clear h0 h1
    obtain ⟨gG0, gG1, gG2⟩ := G_0.out
    obtain ⟨cV0, cV1⟩ := V_0.out
    go_enter Try.func66, Try.ntmps66
    go_wp2_with fail
    refine (l2Good_any P Q G _).mono ?_
    rw [K0.out]
    rintro e v1 ⟨rfl, hb⟩
    have HB_1 := Lib.hid (bt HB_0.out hb)
    have G_1 := Lib.hid (G_0.out.below hb)
    have V_1 := Lib.hid (V_0.out.below hb)
    have Y_1 := Lib.hid (Y_0.out.below hb)
    clear hb gG0 gG1 gG2 cV0 cV1
    obtain ⟨gG0, gG1, gG2⟩ := G_1.out
    obtain ⟨cV0, cV1⟩ := V_1.out
    go_wp2
    go_ret
    exact ⟨rfl, HB_1.out⟩
  have h1 := Decidable.not_not.1 h1
  have B1 : (H != 1) = true := by simpa using h1
  cases h2 : allEl P Q [H]
  · have K2 := Lib.hid (show allEl P Q [H] = false from h2)
    have E1 := Lib.hid (show bsB P Q G H hs = false by simp [bs_ref, h0, h1, h2])
    rw [E1.out]
    clear h0 h1 h2
    obtain ⟨gG0, gG1, gG2⟩ := G_0.out
    obtain ⟨cV0, cV1⟩ := V_0.out
    go_enter Try.func66, Try.ntmps66
    go_wp2_with fail
    refine (l2Good_any P Q G _).mono ?_
    rw [K0.out]
    rintro e v1 ⟨rfl, hb⟩
    have HB_1 := Lib.hid (bt HB_0.out hb)
    have G_1 := Lib.hid (G_0.out.below hb)
    have V_1 := Lib.hid (V_0.out.below hb)
    have Y_1 := Lib.hid (Y_0.out.below hb)
    clear hb gG0 gG1 gG2 cV0 cV1
    obtain ⟨gG0, gG1, gG2⟩ := G_1.out
    obtain ⟨cV0, cV1⟩ := V_1.out
    go_wp2_with fail
    refine (gIs_any P Q G hmo _ 1 1 [H] rfl (by decide) _ (ints_lit v1 [H] 3)).mono ?_
    rw [K2.out]
    rintro e v2 ⟨rfl, hb0⟩
    have hb := bt (ba v1 _) hb0
    clear hb0
    have HB_2 := Lib.hid (bt HB_1.out hb)
    have G_2 := Lib.hid (G_1.out.below hb)
    have V_2 := Lib.hid (V_1.out.below hb)
    have Y_2 := Lib.hid (Y_1.out.below hb)
    clear hb gG0 gG1 gG2 cV0 cV1
    obtain ⟨gG0, gG1, gG2⟩ := G_2.out
    obtain ⟨cV0, cV1⟩ := V_2.out
    go_wp2
    go_ret
    exact ⟨rfl, HB_2.out⟩
  have K2 := Lib.hid (show allEl P Q [H] = true from h2)
  by_cases h3 : ¬ (hs.length ≤ 24)
  · have B3 : (24 : Int) < (hs.length : Int) := by omega
    have E1 := Lib.hid (show bsB P Q G H hs = false by simp [bs_ref, h0, h1, h2, h3])
    rw [E1.out]
    clear h0 h1 h2 h3
    obtain ⟨gG0, gG1, gG2⟩ := G_0.out
    obtain ⟨cV0, cV1⟩ := V_0.out
    go_enter Try.func66, Try.ntmps66
    go_wp2_with fail
    refine (l2Good_any P Q G _).mono ?_
    rw [K0.out]
    rintro e v1 ⟨rfl, hb⟩
    have HB_1 := Lib.hid (bt HB_0.out hb)
    have G_1 := Lib.hid (G_0.out.below hb)
    have V_1 := Lib.hid (V_0.out.below hb)
    have Y_1 := Lib.hid (Y_0.out.below hb)
    clear hb gG0 gG1 gG2 cV0 cV1
    obtain ⟨gG0, gG1, gG2⟩ := G_1.out
    obtain ⟨cV0, cV1⟩ := V_1.out
    go_wp2_with fail
    refine (gIs_any P Q G hmo _ 1 1 [H] rfl (by decide) _ (ints_lit v1 [H] 3)).mono ?_
    rw [K2.out]
    rintro e v2 ⟨rfl, hb0⟩
    have hb := bt (ba v1 _) hb0
    clear hb0
    have HB_2 := Lib.hid (bt HB_1.out hb)
    have G_2 := Lib.hid (G_1.out.below hb)
    have V_2 := Lib.hid (V_1.out.below hb)
    have Y_2 := Lib.hid (Y_1.out.below hb)
    clear hb gG0 gG1 gG2 cV0 cV1
    obtain ⟨gG0, gG1, gG2⟩ := G_2.out
    obtain ⟨cV0, cV1⟩ := V_2.out
    go_wp2
    go_ret
    exact ⟨rfl, HB_2.out⟩
  have h3 := Decidable.not_not.1 h3
  have B3 : (hs.length : Int) ≤ 24 := by omega
  cases h4 : nB 1 hs
  · have K4 := Lib.hid (show nB 1 hs = false from h4)
    have E1 := Lib.hid (show bsB P Q G H hs = false by simp [bs_ref, h0, h1, h2, h3, h4])
    rw [E1.out]
    clear h0 h1 h2 h3 h4
    obtain ⟨gG0, gG1, gG2⟩ := G_0.out
    obtain ⟨cV0, cV1⟩ := V_0.out
    go_enter Try.func66, Try.ntmps66
    go_wp2_with fail
    refine (l2Good_any P Q G _).mono ?_
    rw [K0.out]
    rintro e v1 ⟨rfl, hb⟩
    have HB_1 := Lib.hid (bt HB_0.out hb)
    have G_1 := Lib.hid (G_0.out.below hb)
    have V_1 := Lib.hid (V_0.out.below hb)
    have Y_1 := Lib.hid (Y_0.out.below hb)
    clear hb gG0 gG1 gG2 cV0 cV1
    obtain ⟨gG0, gG1, gG2⟩ := G_1.out
    obtain ⟨cV0, cV1⟩ := V_1.out
    go_wp2_with fail
    refine (gIs_any P Q G hmo _ 1 1 [H] rfl (by decide) _ (ints_lit v1 [H] 3)).mono ?_
    rw [K2.out]
    rintro e v2 ⟨rfl, hb0⟩
    have hb := bt (ba v1 _) hb0
    clear hb0
    have HB_2 := Lib.hid (bt HB_1.out hb)
    have G_2 := Lib.hid (G_1.out.below hb)
    have V_2 := Lib.hid (V_1.out.below hb)
    have Y_2 := Lib.hid (Y_1.out.below hb)
    clear hb gG0 gG1 gG2 cV0 cV1
    obtain ⟨gG0, gG1, gG2⟩ := G_2.out
    obtain ⟨cV0, cV1⟩ := V_2.out
    go_wp2_with fail
    refine (l9Has_any ya hs.length yc hs 1 rfl hl _ (Y_2.out.ints).1).mono ?_
    rw [K4.out]
    rintro e w' ⟨rfl, rfl⟩
    go_wp2
    go_ret
    exact ⟨rfl, HB_2.out⟩
  have K4 := Lib.hid (show nB 1 hs = true from h4)
  cases h5 : allEl P Q hs
  · have K5 := Lib.hid (show allEl P Q hs = false from h5)
    have E1 := Lib.hid (show bsB P Q G H hs = false by simp [bs_ref, h0, h1, h2, h3, h4, h5])
    rw [E1.out]
    clear h0 h1 h2 h3 h4 h5
    obtain ⟨gG0, gG1, gG2⟩ := G_0.out
    obtain ⟨cV0, cV1⟩ := V_0.out
    go_enter Try.func66, Try.ntmps66
    go_wp2_with fail
    refine (l2Good_any P Q G _).mono ?_
    rw [K0.out]
    rintro e v1 ⟨rfl, hb⟩
    have HB_1 := Lib.hid (bt HB_0.out hb)
    have G_1 := Lib.hid (G_0.out.below hb)
    have V_1 := Lib.hid (V_0.out.below hb)
    have Y_1 := Lib.hid (Y_0.out.below hb)
    clear hb gG0 gG1 gG2 cV0 cV1
    obtain ⟨gG0, gG1, gG2⟩ := G_1.out
    obtain ⟨cV0, cV1⟩ := V_1.out
    go_wp2_with fail
    refine (gIs_any P Q G hmo _ 1 1 [H] rfl (by decide) _ (ints_lit v1 [H] 3)).mono ?_
    rw [K2.out]
    rintro e v2 ⟨rfl, hb0⟩
    have hb := bt (ba v1 _) hb0
    clear hb0
    have HB_2 := Lib.hid (bt HB_1.out hb)
    have G_2 := Lib.hid (G_1.out.below hb)
    have V_2 := Lib.hid (V_1.out.below hb)
    have Y_2 := Lib.hid (Y_1.out.below hb)
    clear hb gG0 gG1 gG2 cV0 cV1
    obtain ⟨gG0, gG1, gG2⟩ := G_2.out
    obtain ⟨cV0, cV1⟩ := V_2.out
    go_wp2_with fail
    refine (l9Has_any ya hs.length yc hs 1 rfl hl _ (Y_2.out.ints).1).mono ?_
    rw [K4.out]
    rintro e w' ⟨rfl, rfl⟩
    go_wp2_with fail
    refine (gIs_any P Q G hmo ya hs.length yc hs rfl hl _ (Y_2.out.ints).1).mono ?_
    rw [K5.out]
    rintro e v3 ⟨rfl, hb⟩
    have HB_3 := Lib.hid (bt HB_2.out hb)
    have G_3 := Lib.hid (G_2.out.below hb)
    have V_3 := Lib.hid (V_2.out.below hb)
    have Y_3 := Lib.hid (Y_2.out.below hb)
    clear hb gG0 gG1 gG2 cV0 cV1
    obtain ⟨gG0, gG1, gG2⟩ := G_3.out
    obtain ⟨cV0, cV1⟩ := V_3.out
    go_wp2
    go_ret
    exact ⟨rfl, HB_3.out⟩
  have K5 := Lib.hid (show allEl P Q hs = true from h5)
  have E1 := Lib.hid (show bsB P Q G H hs = true by simp [bs_ref, h0, h1, h2, h3, h4, h5])
  rw [E1.out]
  clear h0 h1 h2 h3 h4 h5
  obtain ⟨gG0, gG1, gG2⟩ := G_0.out
  obtain ⟨cV0, cV1⟩ := V_0.out
  go_enter Try.func66, Try.ntmps66
  go_wp2_with fail
  refine (l2Good_any P Q G _).mono ?_
  rw [K0.out]
  rintro e v1 ⟨rfl, hb⟩
  have HB_1 := Lib.hid (bt HB_0.out hb)
  have G_1 := Lib.hid (G_0.out.below hb)
  have V_1 := Lib.hid (V_0.out.below hb)
  have Y_1 := Lib.hid (Y_0.out.below hb)
  clear hb gG0 gG1 gG2 cV0 cV1
  obtain ⟨gG0, gG1, gG2⟩ := G_1.out
  obtain ⟨cV0, cV1⟩ := V_1.out
  go_wp2_with fail
  refine (gIs_any P Q G hmo _ 1 1 [H] rfl (by decide) _ (ints_lit v1 [H] 3)).mono ?_
  rw [K2.out]
  rintro e v2 ⟨rfl, hb0⟩
  have hb := bt (ba v1 _) hb0
  clear hb0
  have HB_2 := Lib.hid (bt HB_1.out hb)
  have G_2 := Lib.hid (G_1.out.below hb)
  have V_2 := Lib.hid (V_1.out.below hb)
  have Y_2 := Lib.hid (Y_1.out.below hb)
  clear hb gG0 gG1 gG2 cV0 cV1
  obtain ⟨gG0, gG1, gG2⟩ := G_2.out
  obtain ⟨cV0, cV1⟩ := V_2.out
  go_wp2_with fail
  refine (l9Has_any ya hs.length yc hs 1 rfl hl _ (Y_2.out.ints).1).mono ?_
  rw [K4.out]
  rintro e w' ⟨rfl, rfl⟩
  go_wp2_with fail
  refine (gIs_any P Q G hmo ya hs.length yc hs rfl hl _ (Y_2.out.ints).1).mono ?_
  rw [K5.out]
  rintro e v3 ⟨rfl, hb⟩
  have HB_3 := Lib.hid (bt HB_2.out hb)
  have G_3 := Lib.hid (G_2.out.below hb)
  have V_3 := Lib.hid (V_2.out.below hb)
  have Y_3 := Lib.hid (Y_2.out.below hb)
  clear hb gG0 gG1 gG2 cV0 cV1
  obtain ⟨gG0, gG1, gG2⟩ := G_3.out
  obtain ⟨cV0, cV1⟩ := V_3.out
  go_wp2
  go_ret
  exact ⟨rfl, HB_3.out⟩

set_option maxRecDepth 100000 in
set_option maxHeartbeats 3200000 in
theorem sIsValidBases_any (P Q G H : Int) {B : Nat} {y : Value} {hs : List Int} (hl : hs.length ≤ 1152921504606846976) {w : World} (hy : InI B w y hs) :
    Calls Try.prog 16 #[gv P Q G, .agg #[.int .i64 H, y]] w fun e w' => e = .returned (.bool (bsB P Q G H hs)) ∧ Below w.heap.size w w' := by
  obtain ⟨ya, yc, rfl⟩ := hy.shape
  have G_0 := Lib.hid ((gr_at w (w.heap.size) (by simp) P Q G 29).below (ba (w.alloc (.cells #[.int .i64 P, .int .i64 Q, .int .i64 G] 29)) (.cells #[.int .i64 H, .slice ya hs.length yc] 31)))
  have V_0 := Lib.hid (d2_at (w.alloc (.cells #[.int .i64 P, .int .i64 Q, .int .i64 G] 29)) (w.heap.size + 1) (by simp) (.int .i64 H) (.slice ya hs.length yc) 31)
  have HB_0 := Lib.hid (show Below w.heap.size w ((w.alloc (.cells #[.int .i64 P, .int .i64 Q, .int .i64 G] 29)).alloc (.cells #[.int .i64 H, .slice ya hs.length yc] 31)) from bt (ba _ _) (ba _ _))
  have Y_0 := Lib.hid (hy.below HB_0.out)
  clear hy
  obtain ⟨gG0, gG1, gG2⟩ := G_0.out
  obtain ⟨cV0, cV1⟩ := V_0.out
  go_enter Try.func16, Try.ntmps16
  go_wp2_with fail
  refine (l9Good_any P Q G H hl Y_0.out).mono ?_
  rintro e' v9 ⟨rfl, hb9⟩
  have HB_9 := Lib.hid (bt HB_0.out hb9)
  clear hb9
  go_wp2
  go_ret
  exact ⟨rfl, HB_9.out⟩

set_option maxRecDepth 100000 in
set_option maxHeartbeats 3200000 in
theorem pCommit_any (P Q G H m r : Int) (hg : goodB P Q G = true) (hH0 : elB P Q H = true) (hm : 0 ≤ m ∧ m < Q) (hr : 0 ≤ r ∧ r < Q) {ya : Option Addr} {yc : Nat} {hs : List Int} (w : World) :
    Calls Try.prog 71 #[gv P Q G, .agg #[.int .i64 H, .slice ya hs.length yc], .int .i64 m, .int .i64 r] w fun e w' => e = .returned (.int .i64 (cmW P G H m r)) ∧ Below w.heap.size w w' := by
  have hmo := good_mo hg
  have hgr := good_rng hg
  have HP := Lib.hid hmo.1
  have HQ := Lib.hid hgr.2.1
  have hH := el_rng hH0
  have hG := el_rng (good_el hg)
  have HG := Lib.hid (show 0 ≤ G ∧ G ≤ 2000000000 by have := hmo.1; omega)
  have HH := Lib.hid (show 0 ≤ H ∧ H ≤ 2000000000 by have := hmo.1; omega)
  have HM := Lib.hid hm
  have HR := Lib.hid hr
  have hp1 := pow_lt G m P hmo.1.1
  have hp2 := pow_lt H r P hmo.1.1
  have EM0 := mul_two (b := Num.pow H r P) hp1.1 hp1.2
  have HPP := Lib.hid (show ∀ z ∈ [Num.pow G m P, Num.pow H r P], 0 ≤ z ∧ z < P from fun z hz => by
    simp only [List.mem_cons, List.not_mem_nil, or_false] at hz
    rcases hz with rfl | rfl
    · exact hp1
    · exact hp2)
  unfold cmW
  generalize hq1 : Num.pow G m P = p1 at EM0 HPP ⊢
  generalize hq2 : Num.pow H r P = p2 at EM0 HPP ⊢
  have P1 := Lib.hid hq1
  have P2 := Lib.hid hq2
  have EM := Lib.hid EM0
  clear hq1 hq2 EM0 hp1 hp2 hm hr hmo hgr hH hG hg hH0
  have G_0 := Lib.hid ((gr_at w (w.heap.size) (by simp) P Q G 29).below (ba (w.alloc (.cells #[.int .i64 P, .int .i64 Q, .int .i64 G] 29)) (.cells #[.int .i64 H, .slice ya hs.length yc] 31)))
  have V_0 := Lib.hid (d2_at (w.alloc (.cells #[.int .i64 P, .int .i64 Q, .int .i64 G] 29)) (w.heap.size + 1) (by simp) (.int .i64 H) (.slice ya hs.length yc) 31)
  have HB_0 := Lib.hid (show Below w.heap.size w ((w.alloc (.cells #[.int .i64 P, .int .i64 Q, .int .i64 G] 29)).alloc (.cells #[.int .i64 H, .slice ya hs.length yc] 31)) from bt (ba _ _) (ba _ _))
  obtain ⟨W, hW⟩ : ∃ W, ((w.alloc (.cells #[.int .i64 P, .int .i64 Q, .int .i64 G] 29)).alloc (.cells #[.int .i64 H, .slice ya hs.length yc] 31)) = W := ⟨_, rfl⟩
  rw [hW] at HB_0 G_0 V_0
  go_enter Try.func71, Try.ntmps71
  go_wp2_with fail
  clear hW
  have hbd : Below W.heap.size W W.drew := (Below.refl _ W).drew
  have HB_s := Lib.hid (bt HB_0.out hbd)
  have G_s := Lib.hid (G_0.out.below hbd)
  have V_s := Lib.hid (V_0.out.below hbd)
  clear hbd
  refine wp_region_held_drew (S := (fun w' => (w'.cell? ⟨w.heap.size, 0, none⟩ = some (.int .i64 P) ∧ w'.cell? ⟨w.heap.size, 1, none⟩ = some (.int .i64 Q) ∧ w'.cell? ⟨w.heap.size, 2, none⟩ = some (.int .i64 G)) ∧ w'.cell? ⟨w.heap.size + 1, 0, none⟩ = some (.int .i64 H) ∧ w'.cell? ⟨w.heap.size + 1, 1, none⟩ = some (.slice ya hs.length yc))) (by kernel_rfl) (show _ from ⟨⟨G_0.out.1, G_0.out.2.1, G_0.out.2.2⟩, V_0.out.1, V_0.out.2⟩) (fun hHeld => ?_)
  generalize hW0 : W.drew = Ws at *
  clear hW0
  refine wpAnyH_take (i := 0) (v := ?_) rfl (by kernel_rfl) (by kernel_rfl) (by kernel_rfl) (fun _ _ _ h => h) (Or.inl ⟨by kernel_rfl, ?_⟩) (by assumption) ?_
  rotate_left 1
  · intro w9 hSw
    try dsimp only at hSw
    go_simp
    try with_reducible rfl
  try simp only [Act.put, List.getElem_toArray, List.getElem_cons_succ, List.getElem_cons_zero, List.setIfInBounds_toArray, List.set_cons_zero, List.set_cons_succ]
  refine wpAnyH_take (i := 1) (v := ?_) rfl (by kernel_rfl) (by kernel_rfl) (by kernel_rfl) (fun _ _ _ h => h) (Or.inl ⟨by kernel_rfl, ?_⟩) (by assumption) ?_
  rotate_left 1
  · intro w9 hSw
    try dsimp only at hSw
    go_simp
    try with_reducible rfl
  try simp only [Act.put, List.getElem_toArray, List.getElem_cons_succ, List.getElem_cons_zero, List.setIfInBounds_toArray, List.set_cons_zero, List.set_cons_succ]
  refine wpAnyH_take (i := 2) (v := ?_) rfl (by kernel_rfl) (by kernel_rfl) (by kernel_rfl) (fun _ _ _ h => h) (Or.inl ⟨by kernel_rfl, ?_⟩) (by assumption) ?_
  rotate_left 1
  · intro w9 hSw
    try dsimp only at hSw
    go_simp
    try with_reducible rfl
  try simp only [Act.put, List.getElem_toArray, List.getElem_cons_succ, List.getElem_cons_zero, List.setIfInBounds_toArray, List.set_cons_zero, List.set_cons_succ]
  refine wpAnyH_take (i := 3) (v := ?_) rfl (by kernel_rfl) (by kernel_rfl) (by kernel_rfl) (fun _ _ _ h => h) (Or.inl ⟨by kernel_rfl, ?_⟩) (by assumption) ?_
  rotate_left 1
  · intro w9 hSw
    try dsimp only at hSw
    go_simp
    try with_reducible rfl
  try simp only [Act.put, List.getElem_toArray, List.getElem_cons_succ, List.getElem_cons_zero, List.setIfInBounds_toArray, List.set_cons_zero, List.set_cons_succ]
  refine wpAnyH_take (i := 4) (v := ?_) rfl (by kernel_rfl) (by kernel_rfl) (by kernel_rfl) (fun _ _ _ h => h) (Or.inl ⟨by kernel_rfl, ?_⟩) (by assumption) ?_
  rotate_left 1
  · intro w9 hSw
    try dsimp only at hSw
    go_simp
    try with_reducible rfl
  try simp only [Act.put, List.getElem_toArray, List.getElem_cons_succ, List.getElem_cons_zero, List.setIfInBounds_toArray, List.set_cons_zero, List.set_cons_succ]
  refine wpAnyH_take (i := 6) (v := ?_) rfl (by kernel_rfl) (by kernel_rfl) (by kernel_rfl) (fun _ _ _ h => h) (Or.inl ⟨by kernel_rfl, ?_⟩) (by assumption) ?_
  rotate_left 1
  · intro w9 hSw
    try dsimp only at hSw
    go_simp
    try with_reducible rfl
  try simp only [Act.put, List.getElem_toArray, List.getElem_cons_succ, List.getElem_cons_zero, List.setIfInBounds_toArray, List.set_cons_zero, List.set_cons_succ]
  refine wpAnyH_take (i := 7) (v := ?_) rfl (by kernel_rfl) (by kernel_rfl) (by kernel_rfl) (fun _ _ _ h => h) (Or.inl ⟨by kernel_rfl, ?_⟩) (by assumption) ?_
  rotate_left 1
  · intro w9 hSw
    try dsimp only at hSw
    go_simp
    try with_reducible rfl
  try simp only [Act.put, List.getElem_toArray, List.getElem_cons_succ, List.getElem_cons_zero, List.setIfInBounds_toArray, List.set_cons_zero, List.set_cons_succ]
  refine wpAnyH_take (i := 8) (v := ?_) rfl (by kernel_rfl) (by kernel_rfl) (by kernel_rfl) (fun _ _ _ h => h) (Or.inl ⟨by kernel_rfl, ?_⟩) (by assumption) ?_
  rotate_left 1
  · intro w9 hSw
    try dsimp only at hSw
    go_simp
    try with_reducible rfl
  try simp only [Act.put, List.getElem_toArray, List.getElem_cons_succ, List.getElem_cons_zero, List.setIfInBounds_toArray, List.set_cons_zero, List.set_cons_succ]
  refine wpAnyH_take (i := 9) (v := ?_) rfl (by kernel_rfl) (by kernel_rfl) (by kernel_rfl) (fun _ _ _ h => h) (Or.inl ⟨by kernel_rfl, ?_⟩) (by assumption) ?_
  rotate_left 1
  · intro w9 hSw
    try dsimp only at hSw
    go_simp
    try with_reducible rfl
  try simp only [Act.put, List.getElem_toArray, List.getElem_cons_succ, List.getElem_cons_zero, List.setIfInBounds_toArray, List.set_cons_zero, List.set_cons_succ]
  refine wpAnyH_ready (rs := [5]) (by kernel_rfl) (by simp) ?_
  refine AllReadyH.cons rfl (fun K hK => ?_) (AllReadyH.nil)
  go_simp
  go_at_call 119
  refine (gExp_any P Q G G m HG.out.1 HG.out.2 HM.out.1 HM.out.2 HP.out.1 HP.out.2 HQ.out.1 HQ.out.2 _).mono ?_
  rw [P1.out]
  rintro e' Wsf ⟨rfl, hb⟩
  have HB_sf := Lib.hid (bt HB_s.out hb)
  have G_sf := Lib.hid (G_s.out.below hb)
  have V_sf := Lib.hid (V_s.out.below hb)
  clear hb
  go_wp2_with fail
  refine hK.out _ _ (show _ from ⟨⟨G_sf.out.1, G_sf.out.2.1, G_sf.out.2.2⟩, V_sf.out.1, V_sf.out.2⟩) (fun hHeld => ?_)
  clear hK K
  try simp only [Act.put, List.getElem_toArray, List.getElem_cons_succ, List.getElem_cons_zero, List.setIfInBounds_toArray, List.set_cons_zero, List.set_cons_succ]
  refine wpAnyH_ready (rs := [10]) (by kernel_rfl) (by simp) ?_
  refine AllReadyH.cons rfl (fun K hK => ?_) (AllReadyH.nil)
  go_simp
  go_at_call 119
  refine (gExp_any P Q G H r HH.out.1 HH.out.2 HR.out.1 HR.out.2 HP.out.1 HP.out.2 HQ.out.1 HQ.out.2 _).mono ?_
  rw [P2.out]
  rintro e' Wsfk ⟨rfl, hb⟩
  have HB_sfk := Lib.hid (bt HB_sf.out hb)
  have G_sfk := Lib.hid (G_sf.out.below hb)
  have V_sfk := Lib.hid (V_sf.out.below hb)
  clear hb
  go_wp2_with fail
  refine hK.out _ _ (show _ from ⟨⟨G_sfk.out.1, G_sfk.out.2.1, G_sfk.out.2.2⟩, V_sfk.out.1, V_sfk.out.2⟩) (fun hHeld => ?_)
  clear hK K
  try simp only [Act.put, List.getElem_toArray, List.getElem_cons_succ, List.getElem_cons_zero, List.setIfInBounds_toArray, List.set_cons_zero, List.set_cons_succ]
  refine wpAnyH_ready (rs := [11]) (by kernel_rfl) (by simp) ?_
  refine AllReadyH.cons rfl (fun K hK => ?_) (AllReadyH.nil)
  go_simp
  have hb := ba Wsfk (.cells #[.int .i64 p1, .int .i64 p2] 3)
  have HB_sfkl := Lib.hid (bt HB_sfk.out hb)
  have G_sfkl := Lib.hid (G_sfk.out.below hb)
  have V_sfkl := Lib.hid (V_sfk.out.below hb)
  have L_sfkl := Lib.hid (show IsInts (Wsfk.alloc (.cells #[.int .i64 p1, .int .i64 p2] 3)) (some ⟨Wsfk.heap.size, 0, none⟩) [p1, p2] from ints_spot Wsfk _ rfl [p1, p2] 3)
  clear hb
  refine hK.out _ _ (show _ from ⟨⟨G_sfkl.out.1, G_sfkl.out.2.1, G_sfkl.out.2.2⟩, V_sfkl.out.1, V_sfkl.out.2⟩) (fun hHeld => ?_)
  clear hK K
  try simp only [Act.put, List.getElem_toArray, List.getElem_cons_succ, List.getElem_cons_zero, List.setIfInBounds_toArray, List.set_cons_zero, List.set_cons_succ]
  generalize hW9 : Wsfk.alloc (.cells #[.int .i64 p1, .int .i64 p2] 3) = Wsfkl at *
  clear hW9
  refine wpAnyH_ready (rs := [12]) (by kernel_rfl) (by simp) ?_
  refine AllReadyH.cons rfl (fun K hK => ?_) (AllReadyH.nil)
  go_simp
  go_at_call 118
  refine (gMul_any P Q G _ 2 2 [p1, p2] rfl (by decide) HP.out.1 HP.out.2 HPP.out _ L_sfkl.out).mono ?_
  rw [EM.out]
  rintro e' Wsfklm ⟨rfl, hb⟩
  have HB_sfklm := Lib.hid (bt HB_sfkl.out hb)
  have G_sfklm := Lib.hid (G_sfkl.out.below hb)
  have V_sfklm := Lib.hid (V_sfkl.out.below hb)
  clear hb
  go_wp2_with fail
  refine hK.out _ _ (show _ from ⟨⟨G_sfklm.out.1, G_sfklm.out.2.1, G_sfklm.out.2.2⟩, V_sfklm.out.1, V_sfklm.out.2⟩) (fun hHeld => ?_)
  clear hK K
  try simp only [Act.put, List.getElem_toArray, List.getElem_cons_succ, List.getElem_cons_zero, List.setIfInBounds_toArray, List.set_cons_zero, List.set_cons_succ]
  refine wpAnyH_take (i := 13) (v := ?_) rfl (by kernel_rfl) (by kernel_rfl) (by kernel_rfl) (fun _ _ _ h => h) (Or.inl ⟨by kernel_rfl, ?_⟩) (by assumption) ?_
  rotate_left 1
  · intro w9 hSw
    try dsimp only at hSw
    go_simp
    try with_reducible rfl
  try simp only [Act.put, List.getElem_toArray, List.getElem_cons_succ, List.getElem_cons_zero, List.setIfInBounds_toArray, List.set_cons_zero, List.set_cons_succ]
  refine wpAnyH_done (by kernel_rfl) ?_ _
  go_wp2
  go_ret
  exact ⟨rfl, HB_sfklm.out⟩

theorem in_pair {Q a b : Int} (h : allIn [a, b] 0 (Q - 1) = true) : (0 ≤ a ∧ a < Q) ∧ 0 ≤ b ∧ b < Q := by
  simp only [allIn, List.all_cons, List.all_nil, Bool.and_true, Bool.and_eq_true, inB_true] at h
  omega

set_option maxRecDepth 100000 in
set_option maxHeartbeats 3200000 in
theorem sCommit_any (P Q G H : Int) {B : Nat} {y : Value} {hs : List Int} (hl : hs.length ≤ 1048576) (m r : Int) {w : World} (hy : InI B w y hs) :
    Calls Try.prog 21 #[gv P Q G, .agg #[.int .i64 H, y], .int .i64 m, .int .i64 r] w fun e w' => e = .returned (.tuple #[.int .i64 (cmV P Q G H hs m r), .bool (cmB P Q G H hs m r)]) ∧ Below w.heap.size w w' := by
  obtain ⟨ya, yc, rfl⟩ := hy.shape
  have G_0 := Lib.hid ((gr_at w (w.heap.size) (by simp) P Q G 29).below (ba (w.alloc (.cells #[.int .i64 P, .int .i64 Q, .int .i64 G] 29)) (.cells #[.int .i64 H, .slice ya hs.length yc] 31)))
  have V_0 := Lib.hid (d2_at (w.alloc (.cells #[.int .i64 P, .int .i64 Q, .int .i64 G] 29)) (w.heap.size + 1) (by simp) (.int .i64 H) (.slice ya hs.length yc) 31)
  have HB_0 := Lib.hid (show Below w.heap.size w ((w.alloc (.cells #[.int .i64 P, .int .i64 Q, .int .i64 G] 29)).alloc (.cells #[.int .i64 H, .slice ya hs.length yc] 31)) from bt (ba _ _) (ba _ _))
  have Y_0 := Lib.hid (hy.below HB_0.out)
  clear hy
  cases h0 : bsB P Q G H hs
  · have K0 := Lib.hid (show bsB P Q G H hs = false from h0)
    have E1 := Lib.hid (show cmB P Q G H hs m r = false by simp [cmB, h0])
    have E2 := Lib.hid (show cmV P Q G H hs m r = 0 by simp [cmV, E1.out])
    rw [E1.out, E2.out]
    clear h0
    obtain ⟨gG0, gG1, gG2⟩ := G_0.out
    obtain ⟨cV0, cV1⟩ := V_0.out
    go_enter Try.func21, Try.ntmps21
    go_wp2_with fail
    refine (l9Good_any P Q G H (by omega) Y_0.out).mono ?_
    rw [K0.out]
    rintro e v1 ⟨rfl, hb⟩
    have HB_1 := Lib.hid (bt HB_0.out hb)
    have G_1 := Lib.hid (G_0.out.below hb)
    have V_1 := Lib.hid (V_0.out.below hb)
    have Y_1 := Lib.hid (Y_0.out.below hb)
    clear hb gG0 gG1 gG2 cV0 cV1
    obtain ⟨gG0, gG1, gG2⟩ := G_1.out
    obtain ⟨cV0, cV1⟩ := V_1.out
    go_wp2
    go_ret2
    exact ⟨rfl, HB_1.out⟩
  have K0 := Lib.hid (show bsB P Q G H hs = true from h0)
  have hgd := bs_good h0
  have hmo := good_mo hgd
  have hgr := good_rng hgd
  have hH0 := bs_H h0
  cases h1 : allIn [m, r] 0 (Q - 1)
  · have K1 := Lib.hid (show allIn [m, r] 0 (Q - 1) = false from h1)
    have E1 := Lib.hid (show cmB P Q G H hs m r = false by simp [cmB, h0, h1])
    have E2 := Lib.hid (show cmV P Q G H hs m r = 0 by simp [cmV, E1.out])
    rw [E1.out, E2.out]
    clear h0 h1
    obtain ⟨gG0, gG1, gG2⟩ := G_0.out
    obtain ⟨cV0, cV1⟩ := V_0.out
    go_enter Try.func21, Try.ntmps21
    go_wp2_with fail
    refine (l9Good_any P Q G H (by omega) Y_0.out).mono ?_
    rw [K0.out]
    rintro e v1 ⟨rfl, hb⟩
    have HB_1 := Lib.hid (bt HB_0.out hb)
    have G_1 := Lib.hid (G_0.out.below hb)
    have V_1 := Lib.hid (V_0.out.below hb)
    have Y_1 := Lib.hid (Y_0.out.below hb)
    clear hb gG0 gG1 gG2 cV0 cV1
    obtain ⟨gG0, gG1, gG2⟩ := G_1.out
    obtain ⟨cV0, cV1⟩ := V_1.out
    go_wp2_with fail
    refine (gExps_any P Q G ⟨by omega, by omega⟩ _ 2 2 [m, r] rfl (by decide) _ (ints_lit v1 [m, r] 3)).mono ?_
    rw [K1.out]
    rintro e v2 ⟨rfl, hb0⟩
    have hb := bt (ba v1 _) hb0
    clear hb0
    have HB_2 := Lib.hid (bt HB_1.out hb)
    have G_2 := Lib.hid (G_1.out.below hb)
    have V_2 := Lib.hid (V_1.out.below hb)
    have Y_2 := Lib.hid (Y_1.out.below hb)
    clear hb gG0 gG1 gG2 cV0 cV1
    obtain ⟨gG0, gG1, gG2⟩ := G_2.out
    obtain ⟨cV0, cV1⟩ := V_2.out
    go_wp2
    go_ret2
    exact ⟨rfl, HB_2.out⟩
  have K1 := Lib.hid (show allIn [m, r] 0 (Q - 1) = true from h1)
  obtain ⟨hm9, hr9⟩ := in_pair h1
  have E1 := Lib.hid (show cmB P Q G H hs m r = true by simp [cmB, h0, h1])
  have E2 := Lib.hid (show cmV P Q G H hs m r = cmW P G H m r by simp [cmV, E1.out])
  rw [E1.out, E2.out]
  clear h0 h1
  obtain ⟨gG0, gG1, gG2⟩ := G_0.out
  obtain ⟨cV0, cV1⟩ := V_0.out
  go_enter Try.func21, Try.ntmps21
  go_wp2_with fail
  refine (l9Good_any P Q G H (by omega) Y_0.out).mono ?_
  rw [K0.out]
  rintro e v1 ⟨rfl, hb⟩
  have HB_1 := Lib.hid (bt HB_0.out hb)
  have G_1 := Lib.hid (G_0.out.below hb)
  have V_1 := Lib.hid (V_0.out.below hb)
  have Y_1 := Lib.hid (Y_0.out.below hb)
  clear hb gG0 gG1 gG2 cV0 cV1
  obtain ⟨gG0, gG1, gG2⟩ := G_1.out
  obtain ⟨cV0, cV1⟩ := V_1.out
  go_wp2_with fail
  refine (gExps_any P Q G ⟨by omega, by omega⟩ _ 2 2 [m, r] rfl (by decide) _ (ints_lit v1 [m, r] 3)).mono ?_
  rw [K1.out]
  rintro e v2 ⟨rfl, hb0⟩
  have hb := bt (ba v1 _) hb0
  clear hb0
  have HB_2 := Lib.hid (bt HB_1.out hb)
  have G_2 := Lib.hid (G_1.out.below hb)
  have V_2 := Lib.hid (V_1.out.below hb)
  have Y_2 := Lib.hid (Y_1.out.below hb)
  clear hb gG0 gG1 gG2 cV0 cV1
  obtain ⟨gG0, gG1, gG2⟩ := G_2.out
  obtain ⟨cV0, cV1⟩ := V_2.out
  go_wp2_with fail
  refine (pCommit_any P Q G H m r hgd hH0 hm9 hr9 _).mono ?_
  rintro e' v9 ⟨rfl, hb9⟩
  have HB_9 := Lib.hid (bt HB_2.out hb9)
  clear hb9
  go_wp2
  go_ret2
  exact ⟨rfl, HB_9.out⟩

theorem el_list1 (P Q c : Int) : allEl P Q [c] = elB P Q c := by simp [allEl]
theorem co_on {P Q c v : Int} {b : Bool} (h : coB P Q c b = true) : coV P Q c b v = decide (c = v) := by unfold coV; rw [h, Bool.true_and]

set_option maxRecDepth 100000 in
set_option maxHeartbeats 3200000 in
theorem sCheckOpening_any (P Q G H : Int) {B : Nat} {y : Value} {hs : List Int} (hl : hs.length ≤ 1048576) (c m r : Int) {w : World} (hy : InI B w y hs) :
    Calls Try.prog 23 #[gv P Q G, .agg #[.int .i64 H, y], .int .i64 c, .int .i64 m, .int .i64 r] w fun e w' => e = .returned (.tuple #[.bool (coV P Q c (cmB P Q G H hs m r) (cmV P Q G H hs m r)), .bool (coB P Q c (cmB P Q G H hs m r))]) ∧ Below w.heap.size w w' := by
  obtain ⟨ya, yc, rfl⟩ := hy.shape
  have G_0 := Lib.hid ((gr_at w (w.heap.size) (by simp) P Q G 29).below (ba (w.alloc (.cells #[.int .i64 P, .int .i64 Q, .int .i64 G] 29)) (.cells #[.int .i64 H, .slice ya hs.length yc] 31)))
  have V_0 := Lib.hid (d2_at (w.alloc (.cells #[.int .i64 P, .int .i64 Q, .int .i64 G] 29)) (w.heap.size + 1) (by simp) (.int .i64 H) (.slice ya hs.length yc) 31)
  have HB_0 := Lib.hid (show Below w.heap.size w ((w.alloc (.cells #[.int .i64 P, .int .i64 Q, .int .i64 G] 29)).alloc (.cells #[.int .i64 H, .slice ya hs.length yc] 31)) from bt (ba _ _) (ba _ _))
  have Y_0 := Lib.hid (hy.below HB_0.out)
  clear hy
  cases h0 : bsB P Q G H hs
  · have K0 := Lib.hid (show bsB P Q G H hs = false from h0)
    have E1 := Lib.hid (show coB P Q c (cmB P Q G H hs m r) = false by simp [coB, cmB, ← el_list1, h0])
    have E2 := Lib.hid (show coV P Q c (cmB P Q G H hs m r) (cmV P Q G H hs m r) = false by simp only [coV, E1.out, Bool.false_and])
    rw [E1.out, E2.out]
    clear h0
    obtain ⟨gG0, gG1, gG2⟩ := G_0.out
    obtain ⟨cV0, cV1⟩ := V_0.out
    go_enter Try.func23, Try.ntmps23
    go_wp2_with fail
    refine (l9Good_any P Q G H (by omega) Y_0.out).mono ?_
    rw [K0.out]
    rintro e v1 ⟨rfl, hb⟩
    have HB_1 := Lib.hid (bt HB_0.out hb)
    have G_1 := Lib.hid (G_0.out.below hb)
    have V_1 := Lib.hid (V_0.out.below hb)
    have Y_1 := Lib.hid (Y_0.out.below hb)
    clear hb gG0 gG1 gG2 cV0 cV1
    obtain ⟨gG0, gG1, gG2⟩ := G_1.out
    obtain ⟨cV0, cV1⟩ := V_1.out
    go_wp2
    go_ret2
    exact ⟨rfl, HB_1.out⟩
  have K0 := Lib.hid (show bsB P Q G H hs = true from h0)
  have hgd := bs_good h0
  have hmo := good_mo hgd
  have hgr := good_rng hgd
  have hH0 := bs_H h0
  cases h1 : allIn [m, r] 0 (Q - 1)
  · have K1 := Lib.hid (show allIn [m, r] 0 (Q - 1) = false from h1)
    have E1 := Lib.hid (show coB P Q c (cmB P Q G H hs m r) = false by simp [coB, cmB, ← el_list1, h0, h1])
    have E2 := Lib.hid (show coV P Q c (cmB P Q G H hs m r) (cmV P Q G H hs m r) = false by simp only [coV, E1.out, Bool.false_and])
    rw [E1.out, E2.out]
    clear h0 h1
    obtain ⟨gG0, gG1, gG2⟩ := G_0.out
    obtain ⟨cV0, cV1⟩ := V_0.out
    go_enter Try.func23, Try.ntmps23
    go_wp2_with fail
    refine (l9Good_any P Q G H (by omega) Y_0.out).mono ?_
    rw [K0.out]
    rintro e v1 ⟨rfl, hb⟩
    have HB_1 := Lib.hid (bt HB_0.out hb)
    have G_1 := Lib.hid (G_0.out.below hb)
    have V_1 := Lib.hid (V_0.out.below hb)
    have Y_1 := Lib.hid (Y_0.out.below hb)
    clear hb gG0 gG1 gG2 cV0 cV1
    obtain ⟨gG0, gG1, gG2⟩ := G_1.out
    obtain ⟨cV0, cV1⟩ := V_1.out
    go_wp2_with fail
    refine (gExps_any P Q G ⟨by omega, by omega⟩ _ 2 2 [m, r] rfl (by decide) _ (ints_lit v1 [m, r] 3)).mono ?_
    rw [K1.out]
    rintro e v2 ⟨rfl, hb0⟩
    have hb := bt (ba v1 _) hb0
    clear hb0
    have HB_2 := Lib.hid (bt HB_1.out hb)
    have G_2 := Lib.hid (G_1.out.below hb)
    have V_2 := Lib.hid (V_1.out.below hb)
    have Y_2 := Lib.hid (Y_1.out.below hb)
    clear hb gG0 gG1 gG2 cV0 cV1
    obtain ⟨gG0, gG1, gG2⟩ := G_2.out
    obtain ⟨cV0, cV1⟩ := V_2.out
    go_wp2
    go_ret2
    exact ⟨rfl, HB_2.out⟩
  have K1 := Lib.hid (show allIn [m, r] 0 (Q - 1) = true from h1)
  obtain ⟨hm9, hr9⟩ := in_pair h1
  cases h2 : allEl P Q [c]
  · have K2 := Lib.hid (show allEl P Q [c] = false from h2)
    have E1 := Lib.hid (show coB P Q c (cmB P Q G H hs m r) = false by simp [coB, cmB, ← el_list1, h0, h1, h2])
    have E2 := Lib.hid (show coV P Q c (cmB P Q G H hs m r) (cmV P Q G H hs m r) = false by simp only [coV, E1.out, Bool.false_and])
    rw [E1.out, E2.out]
    clear h0 h1 h2
    obtain ⟨gG0, gG1, gG2⟩ := G_0.out
    obtain ⟨cV0, cV1⟩ := V_0.out
    go_enter Try.func23, Try.ntmps23
    go_wp2_with fail
    refine (l9Good_any P Q G H (by omega) Y_0.out).mono ?_
    rw [K0.out]
    rintro e v1 ⟨rfl, hb⟩
    have HB_1 := Lib.hid (bt HB_0.out hb)
    have G_1 := Lib.hid (G_0.out.below hb)
    have V_1 := Lib.hid (V_0.out.below hb)
    have Y_1 := Lib.hid (Y_0.out.below hb)
    clear hb gG0 gG1 gG2 cV0 cV1
    obtain ⟨gG0, gG1, gG2⟩ := G_1.out
    obtain ⟨cV0, cV1⟩ := V_1.out
    go_wp2_with fail
    refine (gExps_any P Q G ⟨by omega, by omega⟩ _ 2 2 [m, r] rfl (by decide) _ (ints_lit v1 [m, r] 3)).mono ?_
    rw [K1.out]
    rintro e v2 ⟨rfl, hb0⟩
    have hb := bt (ba v1 _) hb0
    clear hb0
    have HB_2 := Lib.hid (bt HB_1.out hb)
    have G_2 := Lib.hid (G_1.out.below hb)
    have V_2 := Lib.hid (V_1.out.below hb)
    have Y_2 := Lib.hid (Y_1.out.below hb)
    clear hb gG0 gG1 gG2 cV0 cV1
    obtain ⟨gG0, gG1, gG2⟩ := G_2.out
    obtain ⟨cV0, cV1⟩ := V_2.out
    go_wp2_with fail
    refine (gIs_any P Q G hmo _ 1 1 [c] rfl (by decide) _ (ints_lit v2 [c] 3)).mono ?_
    rw [K2.out]
    rintro e v3 ⟨rfl, hb0⟩
    have hb := bt (ba v2 _) hb0
    clear hb0
    have HB_3 := Lib.hid (bt HB_2.out hb)
    have G_3 := Lib.hid (G_2.out.below hb)
    have V_3 := Lib.hid (V_2.out.below hb)
    have Y_3 := Lib.hid (Y_2.out.below hb)
    clear hb gG0 gG1 gG2 cV0 cV1
    obtain ⟨gG0, gG1, gG2⟩ := G_3.out
    obtain ⟨cV0, cV1⟩ := V_3.out
    go_wp2
    go_ret2
    exact ⟨rfl, HB_3.out⟩
  have K2 := Lib.hid (show allEl P Q [c] = true from h2)
  have E0 := Lib.hid (show cmB P Q G H hs m r = true by simp [cmB, h0, h1])
  have E1 := Lib.hid (show coB P Q c (cmB P Q G H hs m r) = true by simp [coB, cmB, ← el_list1, h0, h1, h2])
  have E2 := Lib.hid (show coV P Q c (cmB P Q G H hs m r) (cmV P Q G H hs m r) = decide (c = cmW P G H m r) by rw [co_on E1.out]; simp [cmV, E0.out])
  rw [E1.out, E2.out]
  generalize hcm : cmW P G H m r = v
  have HV := Lib.hid hcm
  clear h0 h1 h2 hcm
  obtain ⟨gG0, gG1, gG2⟩ := G_0.out
  obtain ⟨cV0, cV1⟩ := V_0.out
  go_enter Try.func23, Try.ntmps23
  go_wp2_with fail
  refine (l9Good_any P Q G H (by omega) Y_0.out).mono ?_
  rw [K0.out]
  rintro e v1 ⟨rfl, hb⟩
  have HB_1 := Lib.hid (bt HB_0.out hb)
  have G_1 := Lib.hid (G_0.out.below hb)
  have V_1 := Lib.hid (V_0.out.below hb)
  have Y_1 := Lib.hid (Y_0.out.below hb)
  clear hb gG0 gG1 gG2 cV0 cV1
  obtain ⟨gG0, gG1, gG2⟩ := G_1.out
  obtain ⟨cV0, cV1⟩ := V_1.out
  go_wp2_with fail
  refine (gExps_any P Q G ⟨by omega, by omega⟩ _ 2 2 [m, r] rfl (by decide) _ (ints_lit v1 [m, r] 3)).mono ?_
  rw [K1.out]
  rintro e v2 ⟨rfl, hb0⟩
  have hb := bt (ba v1 _) hb0
  clear hb0
  have HB_2 := Lib.hid (bt HB_1.out hb)
  have G_2 := Lib.hid (G_1.out.below hb)
  have V_2 := Lib.hid (V_1.out.below hb)
  have Y_2 := Lib.hid (Y_1.out.below hb)
  clear hb gG0 gG1 gG2 cV0 cV1
  obtain ⟨gG0, gG1, gG2⟩ := G_2.out
  obtain ⟨cV0, cV1⟩ := V_2.out
  go_wp2_with fail
  refine (gIs_any P Q G hmo _ 1 1 [c] rfl (by decide) _ (ints_lit v2 [c] 3)).mono ?_
  rw [K2.out]
  rintro e v3 ⟨rfl, hb0⟩
  have hb := bt (ba v2 _) hb0
  clear hb0
  have HB_3 := Lib.hid (bt HB_2.out hb)
  have G_3 := Lib.hid (G_2.out.below hb)
  have V_3 := Lib.hid (V_2.out.below hb)
  have Y_3 := Lib.hid (Y_2.out.below hb)
  clear hb gG0 gG1 gG2 cV0 cV1
  obtain ⟨gG0, gG1, gG2⟩ := G_3.out
  obtain ⟨cV0, cV1⟩ := V_3.out
  go_wp2_with fail
  refine (pCommit_any P Q G H m r hgd hH0 hm9 hr9 _).mono ?_
  rw [HV.out]
  rintro e' v9 ⟨rfl, hb9⟩
  have HB_9 := Lib.hid (bt HB_3.out hb9)
  clear hb9
  go_wp2
  go_ret2
  exact ⟨by simp [Bool.beq_eq_decide_eq, eq_comm], HB_9.out⟩

theorem mul_mod3 (P a b x : Int) : a * b % P * x % P = a * (b * x % P) % P := by
  rw [Int.mul_emod (a * b % P) x P, Int.emod_emod, ← Int.mul_emod, Int.mul_emod a (b * x % P) P, Int.emod_emod, ← Int.mul_emod, Int.mul_assoc]
theorem pows_acc {P : Int} : ∀ (zs es : List Int) (a b : Int), powsFrom P (a * b % P) zs es % P = a * powsFrom P b zs es % P
  | [], _, a, b => by simp [powsFrom]
  | _ :: _, [], a, b => by simp [powsFrom]
  | z :: zs, e :: es, a, b => by
    show powsFrom P (a * b % P * Num.pow z e P % P) zs es % P = a * powsFrom P (b * Num.pow z e P % P) zs es % P
    rw [← pows_acc (P := P) zs es a (b * Num.pow z e P % P), mul_mod3]
theorem cv_ref {P Q G H r : Int} {hs l : List Int} (hg : goodB P Q G = true) (hH : elB P Q H = true) (hr : 0 ≤ r ∧ r < Q) (ha : allEl P Q hs = true) (hl : allIn l 0 (Q - 1) = true) :
    mulFrom P 1 [Num.pow H r P, powsFrom P 1 (hs.take l.length) l] = cvW P H hs l r := by
  have hP := (good_mo hg).1.1
  have h := pow_lt H r P hP
  rw [mul_two h.1 h.2]
  have h2 := pows_acc (P := P) (hs.take l.length) l (Num.pow H r P) 1
  rw [Int.mul_one] at h2
  have e1 : elB P Q (Num.pow H r P) = true := el_pow hg hH hr.1
  have h3 := el_rng (pows_el hg (hs.take l.length) l (1 * Num.pow H r P % P) (by rw [Int.one_mul, Int.emod_eq_of_lt h.1 h.2]; exact e1) (all_take ha _) hl)
  unfold cvW
  show _ = powsFrom P (1 * Num.pow H r P % P) (hs.take l.length) l
  rw [Int.one_mul] at h3 ⊢
  rw [← h2, Int.emod_eq_of_lt (by omega) h3.2]

set_option maxRecDepth 100000 in
set_option maxHeartbeats 3200000 in
theorem pVector_any (P Q G H r : Int) (hg : goodB P Q G = true) (hH0 : elB P Q H = true) (hr : 0 ≤ r ∧ r < Q) {B C : Nat} {y u : Value} {hs l : List Int} (h24 : hs.length ≤ 24) (ha : allEl P Q hs = true) (hll : l.length ≤ hs.length) (hle : allIn l 0 (Q - 1) = true) {w : World} (hy : InI B w y hs) (hu : InI C w u l) :
    Calls Try.prog 75 #[gv P Q G, .agg #[.int .i64 H, y], u, .int .i64 r] w fun e w' => e = .returned (.int .i64 (cvW P H hs l r)) ∧ Below w.heap.size w w' := by
  obtain ⟨ya, yc, rfl⟩ := hy.shape
  obtain ⟨la, lc, rfl⟩ := hu.shape
  have hmo := good_mo hg
  have hgr := good_rng hg
  have HP := Lib.hid hmo.1
  have HQ := Lib.hid hgr.2.1
  have hH := el_rng hH0
  have hG := el_rng (good_el hg)
  have HG := Lib.hid (show 0 ≤ G ∧ G ≤ 2000000000 by have := hmo.1; omega)
  have HH := Lib.hid (show 0 ≤ H ∧ H ≤ 2000000000 by have := hmo.1; omega)
  have HR := Lib.hid hr
  have EM0 := cv_ref hg hH0 hr ha hle
  have hp1 := pow_lt H r P hmo.1.1
  have hp2 := el_rng (pows_el hg (hs.take l.length) l 1 (one_el hg) (all_take ha _) hle)
  have HPP := Lib.hid (show ∀ z ∈ [Num.pow H r P, powsFrom P 1 (hs.take l.length) l], 0 ≤ z ∧ z < P from fun z hz => by
    simp only [List.mem_cons, List.not_mem_nil, or_false] at hz
    rcases hz with rfl | rfl
    · exact hp1
    · exact ⟨by omega, hp2.2⟩)
  have HTL := Lib.hid (show (hs.take l.length).length = l.length by rw [List.length_take]; omega)
  have HL24 := Lib.hid (show l.length ≤ 24 by omega)
  have HRT := Lib.hid (fun z (hz : z ∈ hs.take l.length) => (show 0 ≤ z ∧ z < P from by have := els_range (all_take ha l.length) z hz; omega))
  have HRL := Lib.hid (exps_iff hle)
  generalize hcv : cvW P H hs l r = cv at EM0 ⊢
  generalize hq1 : Num.pow H r P = p1 at EM0 HPP
  generalize hq2 : powsFrom P 1 (hs.take l.length) l = p2 at EM0 HPP
  have P1 := Lib.hid hq1
  have P2 := Lib.hid hq2
  have EM := Lib.hid EM0
  have hcap := hy.cap
  have hn0 : (0 : Int) ≤ (l.length : Int) := by omega
  have hlc : (l.length : Int) ≤ (yc : Int) := by omega
  clear hq1 hq2 EM0 hp1 hp2 hr hmo hgr hH hG hg hH0 hcv ha hle
  have G_0 := Lib.hid ((gr_at w (w.heap.size) (by simp) P Q G 29).below (ba (w.alloc (.cells #[.int .i64 P, .int .i64 Q, .int .i64 G] 29)) (.cells #[.int .i64 H, .slice ya hs.length yc] 31)))
  have V_0 := Lib.hid (d2_at (w.alloc (.cells #[.int .i64 P, .int .i64 Q, .int .i64 G] 29)) (w.heap.size + 1) (by simp) (.int .i64 H) (.slice ya hs.length yc) 31)
  have HB_0 := Lib.hid (show Below w.heap.size w ((w.alloc (.cells #[.int .i64 P, .int .i64 Q, .int .i64 G] 29)).alloc (.cells #[.int .i64 H, .slice ya hs.length yc] 31)) from bt (ba _ _) (ba _ _))
  have Y_0 := Lib.hid (hy.below HB_0.out)
  have U_0 := Lib.hid (inI_take Y_0.out hll)
  have X_0 := Lib.hid (hu.below HB_0.out)
  clear hy hu Y_0
  obtain ⟨W, hW⟩ : ∃ W, ((w.alloc (.cells #[.int .i64 P, .int .i64 Q, .int .i64 G] 29)).alloc (.cells #[.int .i64 H, .slice ya hs.length yc] 31)) = W := ⟨_, rfl⟩
  rw [hW] at HB_0 G_0 V_0 U_0 X_0
  go_enter Try.func75, Try.ntmps75
  go_wp2_with fail
  clear hW
  have hbd : Below W.heap.size W W.drew := (Below.refl _ W).drew
  have HB_s := Lib.hid (bt HB_0.out hbd)
  have G_s := Lib.hid (G_0.out.below hbd)
  have V_s := Lib.hid (V_0.out.below hbd)
  have U_s := Lib.hid (U_0.out.below hbd)
  have X_s := Lib.hid (X_0.out.below hbd)
  clear hbd
  refine wp_region_held_drew (S := (fun w' => (w'.cell? ⟨w.heap.size, 0, none⟩ = some (.int .i64 P) ∧ w'.cell? ⟨w.heap.size, 1, none⟩ = some (.int .i64 Q) ∧ w'.cell? ⟨w.heap.size, 2, none⟩ = some (.int .i64 G)) ∧ w'.cell? ⟨w.heap.size + 1, 0, none⟩ = some (.int .i64 H) ∧ w'.cell? ⟨w.heap.size + 1, 1, none⟩ = some (.slice ya hs.length yc))) (by kernel_rfl) (show _ from ⟨⟨G_0.out.1, G_0.out.2.1, G_0.out.2.2⟩, V_0.out.1, V_0.out.2⟩) (fun hHeld => ?_)
  generalize hW0 : W.drew = Ws at *
  clear hW0
  refine wpAnyH_take (i := 0) (v := ?_) rfl (by kernel_rfl) (by kernel_rfl) (by kernel_rfl) (fun _ _ _ h => h) (Or.inl ⟨by kernel_rfl, ?_⟩) (by assumption) ?_
  rotate_left 1
  · intro w9 hSw
    try dsimp only at hSw
    go_simp
    try with_reducible rfl
  try simp only [Act.put, List.getElem_toArray, List.getElem_cons_succ, List.getElem_cons_zero, List.setIfInBounds_toArray, List.set_cons_zero, List.set_cons_succ]
  refine wpAnyH_take (i := 1) (v := ?_) rfl (by kernel_rfl) (by kernel_rfl) (by kernel_rfl) (fun _ _ _ h => h) (Or.inl ⟨by kernel_rfl, ?_⟩) (by assumption) ?_
  rotate_left 1
  · intro w9 hSw
    try dsimp only at hSw
    go_simp
    try with_reducible rfl
  try simp only [Act.put, List.getElem_toArray, List.getElem_cons_succ, List.getElem_cons_zero, List.setIfInBounds_toArray, List.set_cons_zero, List.set_cons_succ]
  refine wpAnyH_take (i := 2) (v := ?_) rfl (by kernel_rfl) (by kernel_rfl) (by kernel_rfl) (fun _ _ _ h => h) (Or.inl ⟨by kernel_rfl, ?_⟩) (by assumption) ?_
  rotate_left 1
  · intro w9 hSw
    try dsimp only at hSw
    go_simp
    try with_reducible rfl
  try simp only [Act.put, List.getElem_toArray, List.getElem_cons_succ, List.getElem_cons_zero, List.setIfInBounds_toArray, List.set_cons_zero, List.set_cons_succ]
  refine wpAnyH_take (i := 3) (v := ?_) rfl (by kernel_rfl) (by kernel_rfl) (by kernel_rfl) (fun _ _ _ h => h) (Or.inl ⟨by kernel_rfl, ?_⟩) (by assumption) ?_
  rotate_left 1
  · intro w9 hSw
    try dsimp only at hSw
    go_simp
    try with_reducible rfl
  try simp only [Act.put, List.getElem_toArray, List.getElem_cons_succ, List.getElem_cons_zero, List.setIfInBounds_toArray, List.set_cons_zero, List.set_cons_succ]
  refine wpAnyH_take (i := 4) (v := ?_) rfl (by kernel_rfl) (by kernel_rfl) (by kernel_rfl) (fun _ _ _ h => h) (Or.inl ⟨by kernel_rfl, ?_⟩) (by assumption) ?_
  rotate_left 1
  · intro w9 hSw
    try dsimp only at hSw
    go_simp
    try with_reducible rfl
  try simp only [Act.put, List.getElem_toArray, List.getElem_cons_succ, List.getElem_cons_zero, List.setIfInBounds_toArray, List.set_cons_zero, List.set_cons_succ]
  refine wpAnyH_take (i := 6) (v := ?_) rfl (by kernel_rfl) (by kernel_rfl) (by kernel_rfl) (fun _ _ _ h => h) (Or.inl ⟨by kernel_rfl, ?_⟩) (by assumption) ?_
  rotate_left 1
  · intro w9 hSw
    try dsimp only at hSw
    go_simp
    try with_reducible rfl
  try simp only [Act.put, List.getElem_toArray, List.getElem_cons_succ, List.getElem_cons_zero, List.setIfInBounds_toArray, List.set_cons_zero, List.set_cons_succ]
  refine wpAnyH_take (i := 7) (v := ?_) rfl (by kernel_rfl) (by kernel_rfl) (by kernel_rfl) (fun _ _ _ h => h) (Or.inl ⟨by kernel_rfl, ?_⟩) (by assumption) ?_
  rotate_left 1
  · intro w9 hSw
    try dsimp only at hSw
    go_simp
    try with_reducible rfl
  try simp only [Act.put, List.getElem_toArray, List.getElem_cons_succ, List.getElem_cons_zero, List.setIfInBounds_toArray, List.set_cons_zero, List.set_cons_succ]
  refine wpAnyH_take (i := 8) (v := ?_) rfl (by kernel_rfl) (by kernel_rfl) (by kernel_rfl) (fun _ _ _ h => h) (Or.inl ⟨by kernel_rfl, ?_⟩) (by assumption) ?_
  rotate_left 1
  · intro w9 hSw
    try dsimp only at hSw
    go_simp
    try with_reducible rfl
  try simp only [Act.put, List.getElem_toArray, List.getElem_cons_succ, List.getElem_cons_zero, List.setIfInBounds_toArray, List.set_cons_zero, List.set_cons_succ]
  refine wpAnyH_take (i := 9) (v := ?_) rfl (by kernel_rfl) (by kernel_rfl) (by kernel_rfl) (fun _ _ _ h => h) (Or.inl ⟨by kernel_rfl, ?_⟩) (by assumption) ?_
  rotate_left 1
  · intro w9 hSw
    try dsimp only at hSw
    go_simp
    try with_reducible rfl
  try simp only [Act.put, List.getElem_toArray, List.getElem_cons_succ, List.getElem_cons_zero, List.setIfInBounds_toArray, List.set_cons_zero, List.set_cons_succ]
  refine wpAnyH_take (i := 10) (v := ?_) rfl (by kernel_rfl) (by kernel_rfl) (by kernel_rfl) (fun _ _ _ h => h) (Or.inl ⟨by kernel_rfl, ?_⟩) (by assumption) ?_
  rotate_left 1
  · intro w9 hSw
    try dsimp only at hSw
    go_simp
    try with_reducible rfl
  try simp only [Act.put, List.getElem_toArray, List.getElem_cons_succ, List.getElem_cons_zero, List.setIfInBounds_toArray, List.set_cons_zero, List.set_cons_succ]
  refine wpAnyH_take (i := 11) (v := ?_) rfl (by kernel_rfl) (by kernel_rfl) (by kernel_rfl) (fun _ _ _ h => h) (Or.inl ⟨by kernel_rfl, ?_⟩) (by assumption) ?_
  rotate_left 1
  · intro w9 hSw
    try dsimp only at hSw
    go_simp
    try with_reducible rfl
  try simp only [Act.put, List.getElem_toArray, List.getElem_cons_succ, List.getElem_cons_zero, List.setIfInBounds_toArray, List.set_cons_zero, List.set_cons_succ]
  refine wpAnyH_take (i := 12) (v := ?_) rfl (by kernel_rfl) (by kernel_rfl) (by kernel_rfl) (fun _ _ _ h => h) (Or.inl ⟨by kernel_rfl, ?_⟩) (by assumption) ?_
  rotate_left 1
  · intro w9 hSw
    try dsimp only at hSw
    go_simp
    try with_reducible rfl
  try simp only [Act.put, List.getElem_toArray, List.getElem_cons_succ, List.getElem_cons_zero, List.setIfInBounds_toArray, List.set_cons_zero, List.set_cons_succ]
  refine wpAnyH_ready (rs := [5]) (by kernel_rfl) (by simp) ?_
  refine AllReadyH.cons rfl (fun K hK => ?_) (AllReadyH.nil)
  go_simp
  go_at_call 119
  refine (gExp_any P Q G H r HH.out.1 HH.out.2 HR.out.1 HR.out.2 HP.out.1 HP.out.2 HQ.out.1 HQ.out.2 _).mono ?_
  rw [P1.out]
  rintro e' Wsf ⟨rfl, hb⟩
  have HB_sf := Lib.hid (bt HB_s.out hb)
  have G_sf := Lib.hid (G_s.out.below hb)
  have V_sf := Lib.hid (V_s.out.below hb)
  have U_sf := Lib.hid (U_s.out.below hb)
  have X_sf := Lib.hid (X_s.out.below hb)
  clear hb
  go_wp2_with fail
  refine hK.out _ _ (show _ from ⟨⟨G_sf.out.1, G_sf.out.2.1, G_sf.out.2.2⟩, V_sf.out.1, V_sf.out.2⟩) (fun hHeld => ?_)
  clear hK K
  try simp only [Act.put, List.getElem_toArray, List.getElem_cons_succ, List.getElem_cons_zero, List.setIfInBounds_toArray, List.set_cons_zero, List.set_cons_succ]
  refine wpAnyH_ready (rs := [13]) (by kernel_rfl) (by simp) ?_
  refine AllReadyH.cons rfl (fun K hK => ?_) (AllReadyH.nil)
  go_simp
  go_at_call 122
  refine (gProd_any P Q G ya la l.length yc lc (hs.take l.length) l HTL.out rfl HL24.out HP.out.1 HP.out.2 HQ.out.1 HQ.out.2 HRT.out HRL.out _ (U_sf.out.ints).1 (X_sf.out.ints).1).mono ?_
  rw [P2.out]
  rintro e' Wsfn ⟨rfl, hb⟩
  have HB_sfn := Lib.hid (bt HB_sf.out hb)
  have G_sfn := Lib.hid (G_sf.out.below hb)
  have V_sfn := Lib.hid (V_sf.out.below hb)
  have U_sfn := Lib.hid (U_sf.out.below hb)
  have X_sfn := Lib.hid (X_sf.out.below hb)
  clear hb
  go_wp2_with fail
  refine hK.out _ _ (show _ from ⟨⟨G_sfn.out.1, G_sfn.out.2.1, G_sfn.out.2.2⟩, V_sfn.out.1, V_sfn.out.2⟩) (fun hHeld => ?_)
  clear hK K
  try simp only [Act.put, List.getElem_toArray, List.getElem_cons_succ, List.getElem_cons_zero, List.setIfInBounds_toArray, List.set_cons_zero, List.set_cons_succ]
  refine wpAnyH_ready (rs := [14]) (by kernel_rfl) (by simp) ?_
  refine AllReadyH.cons rfl (fun K hK => ?_) (AllReadyH.nil)
  go_simp
  have hb := ba Wsfn (.cells #[.int .i64 p1, .int .i64 p2] 3)
  have HB_sfno := Lib.hid (bt HB_sfn.out hb)
  have G_sfno := Lib.hid (G_sfn.out.below hb)
  have V_sfno := Lib.hid (V_sfn.out.below hb)
  have U_sfno := Lib.hid (U_sfn.out.below hb)
  have X_sfno := Lib.hid (X_sfn.out.below hb)
  have L_sfno := Lib.hid (show IsInts (Wsfn.alloc (.cells #[.int .i64 p1, .int .i64 p2] 3)) (some ⟨Wsfn.heap.size, 0, none⟩) [p1, p2] from ints_spot Wsfn _ rfl [p1, p2] 3)
  clear hb
  refine hK.out _ _ (show _ from ⟨⟨G_sfno.out.1, G_sfno.out.2.1, G_sfno.out.2.2⟩, V_sfno.out.1, V_sfno.out.2⟩) (fun hHeld => ?_)
  clear hK K
  try simp only [Act.put, List.getElem_toArray, List.getElem_cons_succ, List.getElem_cons_zero, List.setIfInBounds_toArray, List.set_cons_zero, List.set_cons_succ]
  generalize hW9 : Wsfn.alloc (.cells #[.int .i64 p1, .int .i64 p2] 3) = Wsfno at *
  clear hW9
  refine wpAnyH_ready (rs := [15]) (by kernel_rfl) (by simp) ?_
  refine AllReadyH.cons rfl (fun K hK => ?_) (AllReadyH.nil)
  go_simp
  go_at_call 118
  refine (gMul_any P Q G _ 2 2 [p1, p2] rfl (by decide) HP.out.1 HP.out.2 HPP.out _ L_sfno.out).mono ?_
  rw [EM.out]
  rintro e' Wsfnop ⟨rfl, hb⟩
  have HB_sfnop := Lib.hid (bt HB_sfno.out hb)
  have G_sfnop := Lib.hid (G_sfno.out.below hb)
  have V_sfnop := Lib.hid (V_sfno.out.below hb)
  have U_sfnop := Lib.hid (U_sfno.out.below hb)
  have X_sfnop := Lib.hid (X_sfno.out.below hb)
  clear hb
  go_wp2_with fail
  refine hK.out _ _ (show _ from ⟨⟨G_sfnop.out.1, G_sfnop.out.2.1, G_sfnop.out.2.2⟩, V_sfnop.out.1, V_sfnop.out.2⟩) (fun hHeld => ?_)
  clear hK K
  try simp only [Act.put, List.getElem_toArray, List.getElem_cons_succ, List.getElem_cons_zero, List.setIfInBounds_toArray, List.set_cons_zero, List.set_cons_succ]
  refine wpAnyH_take (i := 16) (v := ?_) rfl (by kernel_rfl) (by kernel_rfl) (by kernel_rfl) (fun _ _ _ h => h) (Or.inl ⟨by kernel_rfl, ?_⟩) (by assumption) ?_
  rotate_left 1
  · intro w9 hSw
    try dsimp only at hSw
    go_simp
    try with_reducible rfl
  try simp only [Act.put, List.getElem_toArray, List.getElem_cons_succ, List.getElem_cons_zero, List.setIfInBounds_toArray, List.set_cons_zero, List.set_cons_succ]
  refine wpAnyH_done (by kernel_rfl) ?_ _
  go_wp2
  go_ret
  exact ⟨rfl, HB_sfnop.out⟩

theorem in_single {Q a : Int} (h : allIn [a] 0 (Q - 1) = true) : 0 ≤ a ∧ a < Q := by
  simp only [allIn, List.all_cons, List.all_nil, Bool.and_true, inB_true] at h
  omega
theorem cv_split (P Q G H : Int) (hs l : List Int) (r : Int) : cvB P Q G H hs l r = (bsB P Q G H hs && (decide (l.length ≤ hs.length) && (allIn l 0 (Q - 1) && allIn [r] 0 (Q - 1)))) := by
  unfold cvB
  have e : allIn (r :: l) 0 (Q - 1) = (allIn l 0 (Q - 1) && allIn [r] 0 (Q - 1)) := by
    simp only [allIn, List.all_cons, List.all_nil, Bool.and_true]
    exact Bool.and_comm _ _
  rw [e]

set_option maxRecDepth 100000 in
set_option maxHeartbeats 3200000 in
theorem sCommitVector_any (P Q G H : Int) {B : Nat} {y : Value} {hs : List Int} (hl : hs.length ≤ 1048576) {C : Nat} {u : Value} {l : List Int} (ll : l.length ≤ 1048576) (r : Int) {w : World} (hy : InI B w y hs) (hu : InI C w u l) :
    Calls Try.prog 25 #[gv P Q G, .agg #[.int .i64 H, y], u, .int .i64 r] w fun e w' => e = .returned (.tuple #[.int .i64 (cvV P Q G H hs l r), .bool (cvB P Q G H hs l r)]) ∧ Below w.heap.size w w' := by
  obtain ⟨ya, yc, rfl⟩ := hy.shape
  obtain ⟨la, lc, rfl⟩ := hu.shape
  have G_0 := Lib.hid ((gr_at w (w.heap.size) (by simp) P Q G 29).below (ba (w.alloc (.cells #[.int .i64 P, .int .i64 Q, .int .i64 G] 29)) (.cells #[.int .i64 H, .slice ya hs.length yc] 31)))
  have V_0 := Lib.hid (d2_at (w.alloc (.cells #[.int .i64 P, .int .i64 Q, .int .i64 G] 29)) (w.heap.size + 1) (by simp) (.int .i64 H) (.slice ya hs.length yc) 31)
  have HB_0 := Lib.hid (show Below w.heap.size w ((w.alloc (.cells #[.int .i64 P, .int .i64 Q, .int .i64 G] 29)).alloc (.cells #[.int .i64 H, .slice ya hs.length yc] 31)) from bt (ba _ _) (ba _ _))
  have Y_0 := Lib.hid (hy.below HB_0.out)
  have X_0 := Lib.hid (hu.below HB_0.out)
  clear hy hu
  cases h0 : bsB P Q G H hs
  · have K0 := Lib.hid (show bsB P Q G H hs = false from h0)
    have E1 := Lib.hid (show cvB P Q G H hs l r = false by simp [cv_split, h0])
    have E2 := Lib.hid (show cvV P Q G H hs l r = 0 by simp [cvV, E1.out])
    rw [E1.out, E2.out]
    clear h0
    obtain ⟨gG0, gG1, gG2⟩ := G_0.out
    obtain ⟨cV0, cV1⟩ := V_0.out
    go_enter Try.func25, Try.ntmps25
    go_wp2_with fail
    refine (l9Good_any P Q G H (by omega) Y_0.out).mono ?_
    rw [K0.out]
    rintro e v1 ⟨rfl, hb⟩
    have HB_1 := Lib.hid (bt HB_0.out hb)
    have G_1 := Lib.hid (G_0.out.below hb)
    have V_1 := Lib.hid (V_0.out.below hb)
    have Y_1 := Lib.hid (Y_0.out.below hb)
    have X_1 := Lib.hid (X_0.out.below hb)
    clear hb gG0 gG1 gG2 cV0 cV1
    obtain ⟨gG0, gG1, gG2⟩ := G_1.out
    obtain ⟨cV0, cV1⟩ := V_1.out
    go_wp2
    go_ret2
    exact ⟨rfl, HB_1.out⟩
  have K0 := Lib.hid (show bsB P Q G H hs = true from h0)
  have hgd := bs_good h0
  have hmo := good_mo hgd
  have hgr := good_rng hgd
  have hH0 := bs_H h0
  have hal := bs_all h0
  have h24 := (bs_true.1 h0).2.2.1
  by_cases h1 : ¬ (l.length ≤ hs.length)
  · have B1 : (hs.length : Int) < (l.length : Int) := by omega
    have E1 := Lib.hid (show cvB P Q G H hs l r = false by simp [cv_split, h0, h1])
    have E2 := Lib.hid (show cvV P Q G H hs l r = 0 by simp [cvV, E1.out])
    rw [E1.out, E2.out]
    clear h0 h1
    obtain ⟨gG0, gG1, gG2⟩ := G_0.out
    obtain ⟨cV0, cV1⟩ := V_0.out
    go_enter Try.func25, Try.ntmps25
    go_wp2_with fail
    refine (l9Good_any P Q G H (by omega) Y_0.out).mono ?_
    rw [K0.out]
    rintro e v1 ⟨rfl, hb⟩
    have HB_1 := Lib.hid (bt HB_0.out hb)
    have G_1 := Lib.hid (G_0.out.below hb)
    have V_1 := Lib.hid (V_0.out.below hb)
    have Y_1 := Lib.hid (Y_0.out.below hb)
    have X_1 := Lib.hid (X_0.out.below hb)
    clear hb gG0 gG1 gG2 cV0 cV1
    obtain ⟨gG0, gG1, gG2⟩ := G_1.out
    obtain ⟨cV0, cV1⟩ := V_1.out
    go_wp2
    go_ret2
    exact ⟨rfl, HB_1.out⟩
  have h1 := Decidable.not_not.1 h1
  have B1 : (l.length : Int) ≤ (hs.length : Int) := by omega
  cases h2 : allIn l 0 (Q - 1)
  · have K2 := Lib.hid (show allIn l 0 (Q - 1) = false from h2)
    have E1 := Lib.hid (show cvB P Q G H hs l r = false by simp [cv_split, h0, h1, h2])
    have E2 := Lib.hid (show cvV P Q G H hs l r = 0 by simp [cvV, E1.out])
    rw [E1.out, E2.out]
    clear h0 h1 h2
    obtain ⟨gG0, gG1, gG2⟩ := G_0.out
    obtain ⟨cV0, cV1⟩ := V_0.out
    go_enter Try.func25, Try.ntmps25
    go_wp2_with fail
    refine (l9Good_any P Q G H (by omega) Y_0.out).mono ?_
    rw [K0.out]
    rintro e v1 ⟨rfl, hb⟩
    have HB_1 := Lib.hid (bt HB_0.out hb)
    have G_1 := Lib.hid (G_0.out.below hb)
    have V_1 := Lib.hid (V_0.out.below hb)
    have Y_1 := Lib.hid (Y_0.out.below hb)
    have X_1 := Lib.hid (X_0.out.below hb)
    clear hb gG0 gG1 gG2 cV0 cV1
    obtain ⟨gG0, gG1, gG2⟩ := G_1.out
    obtain ⟨cV0, cV1⟩ := V_1.out
    go_wp2_with fail
    refine (gExps_any P Q G ⟨by omega, by omega⟩ la l.length lc l rfl (by omega) _ (X_1.out.ints).1).mono ?_
    rw [K2.out]
    rintro e v2 ⟨rfl, hb⟩
    have HB_2 := Lib.hid (bt HB_1.out hb)
    have G_2 := Lib.hid (G_1.out.below hb)
    have V_2 := Lib.hid (V_1.out.below hb)
    have Y_2 := Lib.hid (Y_1.out.below hb)
    have X_2 := Lib.hid (X_1.out.below hb)
    clear hb gG0 gG1 gG2 cV0 cV1
    obtain ⟨gG0, gG1, gG2⟩ := G_2.out
    obtain ⟨cV0, cV1⟩ := V_2.out
    go_wp2
    go_ret2
    exact ⟨rfl, HB_2.out⟩
  have K2 := Lib.hid (show allIn l 0 (Q - 1) = true from h2)
  cases h3 : allIn [r] 0 (Q - 1)
  · have K3 := Lib.hid (show allIn [r] 0 (Q - 1) = false from h3)
    have E1 := Lib.hid (show cvB P Q G H hs l r = false by simp [cv_split, h0, h1, h2, h3])
    have E2 := Lib.hid (show cvV P Q G H hs l r = 0 by simp [cvV, E1.out])
    rw [E1.out, E2.out]
    clear h0 h1 h2 h3
    obtain ⟨gG0, gG1, gG2⟩ := G_0.out
    obtain ⟨cV0, cV1⟩ := V_0.out
    go_enter Try.func25, Try.ntmps25
    go_wp2_with fail
    refine (l9Good_any P Q G H (by omega) Y_0.out).mono ?_
    rw [K0.out]
    rintro e v1 ⟨rfl, hb⟩
    have HB_1 := Lib.hid (bt HB_0.out hb)
    have G_1 := Lib.hid (G_0.out.below hb)
    have V_1 := Lib.hid (V_0.out.below hb)
    have Y_1 := Lib.hid (Y_0.out.below hb)
    have X_1 := Lib.hid (X_0.out.below hb)
    clear hb gG0 gG1 gG2 cV0 cV1
    obtain ⟨gG0, gG1, gG2⟩ := G_1.out
    obtain ⟨cV0, cV1⟩ := V_1.out
    go_wp2_with fail
    refine (gExps_any P Q G ⟨by omega, by omega⟩ la l.length lc l rfl (by omega) _ (X_1.out.ints).1).mono ?_
    rw [K2.out]
    rintro e v2 ⟨rfl, hb⟩
    have HB_2 := Lib.hid (bt HB_1.out hb)
    have G_2 := Lib.hid (G_1.out.below hb)
    have V_2 := Lib.hid (V_1.out.below hb)
    have Y_2 := Lib.hid (Y_1.out.below hb)
    have X_2 := Lib.hid (X_1.out.below hb)
    clear hb gG0 gG1 gG2 cV0 cV1
    obtain ⟨gG0, gG1, gG2⟩ := G_2.out
    obtain ⟨cV0, cV1⟩ := V_2.out
    go_wp2_with fail
    refine (gExps_any P Q G ⟨by omega, by omega⟩ _ 1 1 [r] rfl (by decide) _ (ints_lit v2 [r] 3)).mono ?_
    rw [K3.out]
    rintro e v3 ⟨rfl, hb0⟩
    have hb := bt (ba v2 _) hb0
    clear hb0
    have HB_3 := Lib.hid (bt HB_2.out hb)
    have G_3 := Lib.hid (G_2.out.below hb)
    have V_3 := Lib.hid (V_2.out.below hb)
    have Y_3 := Lib.hid (Y_2.out.below hb)
    have X_3 := Lib.hid (X_2.out.below hb)
    clear hb gG0 gG1 gG2 cV0 cV1
    obtain ⟨gG0, gG1, gG2⟩ := G_3.out
    obtain ⟨cV0, cV1⟩ := V_3.out
    go_wp2
    go_ret2
    exact ⟨rfl, HB_3.out⟩
  have K3 := Lib.hid (show allIn [r] 0 (Q - 1) = true from h3)
  have hr9 := in_single h3
  have E1 := Lib.hid (show cvB P Q G H hs l r = true by simp [cv_split, h0, h1, h2, h3])
  have E2 := Lib.hid (show cvV P Q G H hs l r = cvW P H hs l r by simp [cvV, E1.out])
  rw [E1.out, E2.out]
  have HV := Lib.hid (fun (W : World) (a : InI B W (.slice ya hs.length yc) hs) (b : InI C W (.slice la l.length lc) l) => pVector_any P Q G H r hgd hH0 hr9 h24 hal h1 h2 a b)
  clear h0 h2 h3 hgd hH0 hal
  obtain ⟨gG0, gG1, gG2⟩ := G_0.out
  obtain ⟨cV0, cV1⟩ := V_0.out
  go_enter Try.func25, Try.ntmps25
  go_wp2_with fail
  refine (l9Good_any P Q G H (by omega) Y_0.out).mono ?_
  rw [K0.out]
  rintro e v1 ⟨rfl, hb⟩
  have HB_1 := Lib.hid (bt HB_0.out hb)
  have G_1 := Lib.hid (G_0.out.below hb)
  have V_1 := Lib.hid (V_0.out.below hb)
  have Y_1 := Lib.hid (Y_0.out.below hb)
  have X_1 := Lib.hid (X_0.out.below hb)
  clear hb gG0 gG1 gG2 cV0 cV1
  obtain ⟨gG0, gG1, gG2⟩ := G_1.out
  obtain ⟨cV0, cV1⟩ := V_1.out
  go_wp2_with fail
  refine (gExps_any P Q G ⟨by omega, by omega⟩ la l.length lc l rfl (by omega) _ (X_1.out.ints).1).mono ?_
  rw [K2.out]
  rintro e v2 ⟨rfl, hb⟩
  have HB_2 := Lib.hid (bt HB_1.out hb)
  have G_2 := Lib.hid (G_1.out.below hb)
  have V_2 := Lib.hid (V_1.out.below hb)
  have Y_2 := Lib.hid (Y_1.out.below hb)
  have X_2 := Lib.hid (X_1.out.below hb)
  clear hb gG0 gG1 gG2 cV0 cV1
  obtain ⟨gG0, gG1, gG2⟩ := G_2.out
  obtain ⟨cV0, cV1⟩ := V_2.out
  go_wp2_with fail
  refine (gExps_any P Q G ⟨by omega, by omega⟩ _ 1 1 [r] rfl (by decide) _ (ints_lit v2 [r] 3)).mono ?_
  rw [K3.out]
  rintro e v3 ⟨rfl, hb0⟩
  have hb := bt (ba v2 _) hb0
  clear hb0
  have HB_3 := Lib.hid (bt HB_2.out hb)
  have G_3 := Lib.hid (G_2.out.below hb)
  have V_3 := Lib.hid (V_2.out.below hb)
  have Y_3 := Lib.hid (Y_2.out.below hb)
  have X_3 := Lib.hid (X_2.out.below hb)
  clear hb gG0 gG1 gG2 cV0 cV1
  obtain ⟨gG0, gG1, gG2⟩ := G_3.out
  obtain ⟨cV0, cV1⟩ := V_3.out
  go_wp2_with fail
  refine (HV.out _ Y_3.out X_3.out).mono ?_
  rintro e' v9 ⟨rfl, hb9⟩
  have HB_9 := Lib.hid (bt HB_3.out hb9)
  clear hb9
  go_wp2
  go_ret2
  exact ⟨rfl, HB_9.out⟩

set_option maxRecDepth 100000 in
set_option maxHeartbeats 3200000 in
theorem sCheckVector_any (P Q G H : Int) {B : Nat} {y : Value} {hs : List Int} (hl : hs.length ≤ 1048576) (c : Int) {C : Nat} {u : Value} {l : List Int} (ll : l.length ≤ 1048576) (r : Int) {w : World} (hy : InI B w y hs) (hu : InI C w u l) :
    Calls Try.prog 29 #[gv P Q G, .agg #[.int .i64 H, y], .int .i64 c, u, .int .i64 r] w fun e w' => e = .returned (.tuple #[.bool (coV P Q c (cvB P Q G H hs l r) (cvV P Q G H hs l r)), .bool (coB P Q c (cvB P Q G H hs l r))]) ∧ Below w.heap.size w w' := by
  obtain ⟨ya, yc, rfl⟩ := hy.shape
  obtain ⟨la, lc, rfl⟩ := hu.shape
  have G_0 := Lib.hid ((gr_at w (w.heap.size) (by simp) P Q G 29).below (ba (w.alloc (.cells #[.int .i64 P, .int .i64 Q, .int .i64 G] 29)) (.cells #[.int .i64 H, .slice ya hs.length yc] 31)))
  have V_0 := Lib.hid (d2_at (w.alloc (.cells #[.int .i64 P, .int .i64 Q, .int .i64 G] 29)) (w.heap.size + 1) (by simp) (.int .i64 H) (.slice ya hs.length yc) 31)
  have HB_0 := Lib.hid (show Below w.heap.size w ((w.alloc (.cells #[.int .i64 P, .int .i64 Q, .int .i64 G] 29)).alloc (.cells #[.int .i64 H, .slice ya hs.length yc] 31)) from bt (ba _ _) (ba _ _))
  have Y_0 := Lib.hid (hy.below HB_0.out)
  have X_0 := Lib.hid (hu.below HB_0.out)
  clear hy hu
  have HC := Lib.hid (fun (W : World) (a : InI B W (.slice ya hs.length yc) hs) (b : InI C W (.slice la l.length lc) l) => sCommitVector_any P Q G H hl ll r a b)
  obtain ⟨v, hv⟩ : ∃ v, cvV P Q G H hs l r = v := ⟨_, rfl⟩
  obtain ⟨b, hb0⟩ : ∃ b, cvB P Q G H hs l r = b := ⟨_, rfl⟩
  rw [hv, hb0] at HC ⊢
  have HBB := Lib.hid hb0
  clear hv hb0
  cases h0 : b
  · have K0 := Lib.hid (show b = false from h0)
    have E1 := Lib.hid (show coB P Q c false = false by simp [coB])
    have E2 := Lib.hid (show coV P Q c false v = false by simp [coV, coB])
    rw [E1.out, E2.out]
    clear h0
    obtain ⟨gG0, gG1, gG2⟩ := G_0.out
    obtain ⟨cV0, cV1⟩ := V_0.out
    go_enter Try.func29, Try.ntmps29
    go_wp2_with fail
    refine (HC.out _ Y_0.out X_0.out).mono ?_
    rw [K0.out]
    rintro e v1 ⟨rfl, hb⟩
    have HB_1 := Lib.hid (bt HB_0.out hb)
    have G_1 := Lib.hid (G_0.out.below hb)
    have V_1 := Lib.hid (V_0.out.below hb)
    have Y_1 := Lib.hid (Y_0.out.below hb)
    have X_1 := Lib.hid (X_0.out.below hb)
    clear hb gG0 gG1 gG2 cV0 cV1
    obtain ⟨gG0, gG1, gG2⟩ := G_1.out
    obtain ⟨cV0, cV1⟩ := V_1.out
    go_wp2
    go_ret2
    exact ⟨rfl, HB_1.out⟩
  have K0 := Lib.hid (show b = true from h0)
  have hmo := good_mo (bs_good (cv_bs (HBB.out.trans h0)))
  cases h1 : allEl P Q [c]
  · have K1 := Lib.hid (show allEl P Q [c] = false from h1)
    have E1 := Lib.hid (show coB P Q c true = false by simp [coB, ← el_list1, h1])
    have E2 := Lib.hid (show coV P Q c true v = false by simp [coV, coB, ← el_list1, h1])
    rw [E1.out, E2.out]
    clear h0 h1
    obtain ⟨gG0, gG1, gG2⟩ := G_0.out
    obtain ⟨cV0, cV1⟩ := V_0.out
    go_enter Try.func29, Try.ntmps29
    go_wp2_with fail
    refine (HC.out _ Y_0.out X_0.out).mono ?_
    rw [K0.out]
    rintro e v1 ⟨rfl, hb⟩
    have HB_1 := Lib.hid (bt HB_0.out hb)
    have G_1 := Lib.hid (G_0.out.below hb)
    have V_1 := Lib.hid (V_0.out.below hb)
    have Y_1 := Lib.hid (Y_0.out.below hb)
    have X_1 := Lib.hid (X_0.out.below hb)
    clear hb gG0 gG1 gG2 cV0 cV1
    obtain ⟨gG0, gG1, gG2⟩ := G_1.out
    obtain ⟨cV0, cV1⟩ := V_1.out
    go_wp2_with fail
    refine (gIs_any P Q G hmo _ 1 1 [c] rfl (by decide) _ (ints_lit v1 [c] 3)).mono ?_
    rw [K1.out]
    rintro e v2 ⟨rfl, hb0⟩
    have hb := bt (ba v1 _) hb0
    clear hb0
    have HB_2 := Lib.hid (bt HB_1.out hb)
    have G_2 := Lib.hid (G_1.out.below hb)
    have V_2 := Lib.hid (V_1.out.below hb)
    have Y_2 := Lib.hid (Y_1.out.below hb)
    have X_2 := Lib.hid (X_1.out.below hb)
    clear hb gG0 gG1 gG2 cV0 cV1
    obtain ⟨gG0, gG1, gG2⟩ := G_2.out
    obtain ⟨cV0, cV1⟩ := V_2.out
    go_wp2
    go_ret2
    exact ⟨rfl, HB_2.out⟩
  have K1 := Lib.hid (show allEl P Q [c] = true from h1)
  have E1 := Lib.hid (show coB P Q c true = true by simp [coB, ← el_list1, h1])
  have E2 := Lib.hid (show coV P Q c true v = decide (c = v) by simp [coV, coB, ← el_list1, h1])
  rw [E1.out, E2.out]
  clear h0 h1
  obtain ⟨gG0, gG1, gG2⟩ := G_0.out
  obtain ⟨cV0, cV1⟩ := V_0.out
  go_enter Try.func29, Try.ntmps29
  go_wp2_with fail
  refine (HC.out _ Y_0.out X_0.out).mono ?_
  rw [K0.out]
  rintro e v1 ⟨rfl, hb⟩
  have HB_1 := Lib.hid (bt HB_0.out hb)
  have G_1 := Lib.hid (G_0.out.below hb)
  have V_1 := Lib.hid (V_0.out.below hb)
  have Y_1 := Lib.hid (Y_0.out.below hb)
  have X_1 := Lib.hid (X_0.out.below hb)
  clear hb gG0 gG1 gG2 cV0 cV1
  obtain ⟨gG0, gG1, gG2⟩ := G_1.out
  obtain ⟨cV0, cV1⟩ := V_1.out
  go_wp2_with fail
  refine (gIs_any P Q G hmo _ 1 1 [c] rfl (by decide) _ (ints_lit v1 [c] 3)).mono ?_
  rw [K1.out]
  rintro e v2 ⟨rfl, hb0⟩
  have hb := bt (ba v1 _) hb0
  clear hb0
  have HB_2 := Lib.hid (bt HB_1.out hb)
  have G_2 := Lib.hid (G_1.out.below hb)
  have V_2 := Lib.hid (V_1.out.below hb)
  have Y_2 := Lib.hid (Y_1.out.below hb)
  have X_2 := Lib.hid (X_1.out.below hb)
  clear hb gG0 gG1 gG2 cV0 cV1
  obtain ⟨gG0, gG1, gG2⟩ := G_2.out
  obtain ⟨cV0, cV1⟩ := V_2.out
  go_wp2
  go_ret2
  exact ⟨by simp [Bool.beq_eq_decide_eq, eq_comm], HB_2.out⟩

end Go.Proofs.Ytdnofcpobpoehaa

