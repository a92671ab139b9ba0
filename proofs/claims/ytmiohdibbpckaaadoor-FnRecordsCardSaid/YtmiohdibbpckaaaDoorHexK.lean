/- What the laws of layer 3 draw: digests and labels. -/
import Derived.Test.YtmiohdibbpckaaaDoorDrG9
import Derived.Test.YtmiohdibbpckaaaDoorHshD
namespace Go.Proofs.YtmiohdibbpckaaaDoor
open Go.RowKit

def DigPost (w : World) (g k : Nat) (e : Ending) (w' : World) : Prop :=
  ∃ x : Int, e = .returned (.int .i64 x) ∧ (-1 ≤ x ∧ x ≤ 4611686018427387904) ∧ Cur w' g k ∧ w.grownBy w' (some g)

theorem hlist_nn (zs : List Int) : 0 ≤ hlist zs ∧ hlist zs ≤ 4611686018427387903 := hdig_bd _

set_option maxHeartbeats 1600000 in
theorem digest_any (g k : Nat) (hk : k ≤ 900000000) (w : World) (hc : Cur w g k) :
    Calls Tryd.prog 78 #[.pointer (some ⟨g, 0, none⟩)] w (DigPost w g (k + 4)) := by
  have HC := Lib.hid hc
  clear hc
  go_enter Tryd.func78, Tryd.ntmps78
  go_wp2_with fail
  refine (pick_any g k 16 (by omega) (by omega) _ HC.out).mono ?_
  rintro e w1 ⟨x, rfl, hx, hc1, hg1⟩
  have HC1 := Lib.hid hc1
  have HG1 := Lib.hid hg1
  clear hc1 hg1
  by_cases h0 : x = 0
  · subst h0
    have hal := ba w1 (.cells #[.int .i64 (-1), .int .i64 4611686018427387903, .int .i64 4611686018427387904, .int .i64 2147483648, .int .i64 2147483647, .int .i64 2147483647] 3)
    have hs := HC1.out.lt
    have HC2 := Lib.hid (HC1.out.below hal)
    have HG2 := Lib.hid (grown_trans HG1.out (grown_below hal (some g)))
    clear hal
    go_wp2_with fail
    refine (among_any g _ _ _ _ [-1, 4611686018427387903, 4611686018427387904, 2147483648, 2147483647, 2147483647] (by omega) rfl (by simp) (by simp) (by rintro a ⟨⟩; simp; omega) _ (ints_lit w1 [-1, 4611686018427387903, 4611686018427387904, 2147483648, 2147483647, 2147483647] 3) HC2.out).mono ?_
    rintro e w3 ⟨y, rfl, hy, hc3, hg3⟩
    have HY := Lib.hid (show -1 ≤ y ∧ y ≤ 4611686018427387904 from by simp at hy; omega)
    have HC3 := Lib.hid hc3
    have HG3 := Lib.hid (grown_trans HG2.out hg3)
    clear hc3 hg3 hy
    go_wp2
    go_ret
    exact ⟨y, rfl, HY.out, HC3.out, HG3.out⟩
  · by_cases h3 : x ≤ 3
    · have h123 : x = 1 ∨ x = 2 ∨ x = 3 := by omega
      rcases h123 with rfl | rfl | rfl
      all_goals (
        go_wp2_with fail
        refine (pick_any g _ 60000 (by omega) (by omega) _ HC1.out).mono ?_
        rintro e w2 ⟨y, rfl, hy, hc2, hg2⟩
        have hy0 : 0 ≤ y := hy.1
        have hy1 : y < 60000 := by omega
        have hal := ba w2 (.cells #[.int .i64 y] 3)
        have HC2 := Lib.hid (hc2.below hal)
        have HG2 := Lib.hid (grown_trans (grown_trans HG1.out hg2) (grown_below hal (some g)))
        clear hc2 hg2 hy hal
        go_wp2_with fail
        refine (shInts_any _ 1 1 [y] rfl (by decide) (by simp; omega) _ (ints_lit w2 [y] 3)).mono ?_
        rintro e w3 ⟨rfl, hb3⟩
        have HC3 := Lib.hid (HC2.out.below hb3)
        have HG3 := Lib.hid (grown_trans HG2.out (grown_below hb3 (some g)))
        clear hb3
        go_wp2
        go_ret
        exact ⟨_, rfl, by have := hlist_nn [y]; omega, HC3.out, HG3.out⟩)
    · have h1 : ¬ x = 1 := by omega
      have h2 : ¬ x = 2 := by omega
      have h4 : ¬ x = 3 := by omega
      go_wp2_with fail
      refine (pick_any g _ 200 (by omega) (by omega) _ HC1.out).mono ?_
      rintro e w2 ⟨y, rfl, hy, hc2, hg2⟩
      have HY := Lib.hid (show -1 ≤ y ∧ y ≤ 4611686018427387904 from by omega)
      have HC2 := Lib.hid hc2
      have HG2 := Lib.hid (grown_trans HG1.out hg2)
      clear hc2 hg2 hy
      go_wp2
      go_ret
      exact ⟨y, rfl, HY.out, HC2.out, HG2.out⟩

def StrPost (w : World) (g k : Nat) (most : Nat) (e : Ending) (w' : World) : Prop :=
  ∃ s : ByteArray, e = .returned (.string s) ∧ s.size ≤ most ∧ Cur w' g k ∧ w.grownBy w' (some g)

set_option maxHeartbeats 800000 in
theorem of_any (g k n b : Nat) (ss : List ByteArray) (most : Nat) (hk : k ≤ 100000000000) (hn : ss.length = n) (h0 : 0 < n) (hl : n ≤ 1000) (hne : b ≠ g) (hm : ∀ s ∈ ss, s.size ≤ most) (w : World)
    (hz : ∀ i (h : i < ss.length), w.cell? ⟨b, i, none⟩ = some (.string ss[i])) (hc : Cur w g k) :
    Calls Tryd.prog 87 #[.pointer (some ⟨g, 0, none⟩), .slice (some ⟨b, 0, none⟩) n n] w (StrPost w g (k + 2) most) := by
  have HC := Lib.hid hc
  have HN := Lib.hid hn
  have HM := Lib.hid hm
  clear hc hn hm
  go_enter Tryd.func87, Tryd.ntmps87
  go_wp2_with fail
  refine (pick_any g k n hk (by omega) _ HC.out).mono ?_
  rintro e w1 ⟨x, rfl, hx, hc1, hg1⟩
  have hx0 : 0 ≤ x := hx.1
  have hxn : x < (n : Int) := by omega
  obtain ⟨i, rfl⟩ := Int.eq_ofNat_of_zero_le hx0
  have hi : i < ss.length := by have := HN.out; omega
  have hcell : w1.cell? ⟨b, i, none⟩ = some (.string ss[i]) := hg1.cell (a := ⟨b, i, none⟩) (hz i hi) (by simpa using hne)
  have HS := Lib.hid (HM.out _ (List.getElem_mem hi))
  generalize ss[i] = s at hcell HS
  have HC1 := Lib.hid hc1
  have HG1 := Lib.hid hg1
  clear hc1 hg1 hx hz
  go_wp2
  go_ret
  exact ⟨s, rfl, HS.out, HC1.out, HG1.out⟩

theorem strs_lit (w : World) (ss : List ByteArray) (t : TypeId) : ∀ i (h : i < ss.length), (w.alloc (.cells (ss.map Value.string).toArray t)).cell? ⟨w.heap.size, i, none⟩ = some (.string ss[i]) := fun i h => by
  rw [World.cell?_alloc_at _ _ _ _ rfl]
  simp [h]

set_option maxHeartbeats 3200000 in
theorem label_any (g k : Nat) (hk : k ≤ 900000000) (w : World) (hc : Cur w g k) :
    Calls Tryd.prog 51 #[.pointer (some ⟨g, 0, none⟩)] w (StrPost w g (k + 200) 41) := by
  have hs := hc.lt
  obtain ⟨ss, hss⟩ : ∃ ss : List ByteArray, ss = [⟨#[]⟩, ⟨#[97]⟩, ⟨#[118, 111, 116, 101]⟩, ⟨#[109, 105, 120]⟩, ⟨#[98, 111, 97, 114, 100, 32, 49]⟩, ⟨#[107, 101, 121]⟩, ⟨#[108, 111, 110, 103, 32, 108, 97, 98, 101, 108, 32, 119, 105, 116, 104, 32, 115, 101, 118, 101, 114, 97, 108, 32, 119, 111, 114, 100, 115, 32, 105, 110, 32, 105, 116]⟩] := ⟨_, rfl⟩
  have hal := ba w (.cells (ss.map Value.string).toArray 9)
  have hz := strs_lit w ss 9
  have hm : ∀ s ∈ ss, s.size ≤ 40 := by subst hss; decide
  have hn : ss.length = 7 := by subst hss; rfl
  have HC := Lib.hid (hc.below hal)
  have HG := Lib.hid (grown_below hal (some g))
  have hof := of_any g k 7 w.heap.size ss 40 (by omega) hn (by decide) (by decide) (by omega) hm _ hz HC.out
  have HOF := Lib.hid hof
  clear hc hal hz hm hn hof
  go_enter Tryd.func51, Tryd.ntmps51
  go_wp2_with fail
  subst hss
  refine HOF.out.mono ?_
  rintro e w1 ⟨s, rfl, hsz, hc1, hg1⟩
  have HC1 := Lib.hid hc1
  have HG1 := Lib.hid (grown_trans HG.out hg1)
  clear hc1 hg1 HOF
  go_wp2_with fail
  refine (one_any g _ 16 (by omega) (by omega) _ HC1.out).mono ?_
  rintro e w2 ⟨b, rfl, hc2, hg2⟩
  have HC2 := Lib.hid hc2
  have HG2 := Lib.hid (grown_trans HG1.out hg2)
  clear hc2 hg2
  cases b
  · go_wp2
    go_ret
    exact ⟨s, rfl, by omega, HC2.out.mono (by omega), HG2.out⟩
  · go_wp2
    go_loopw [3] (fun S wr => ∃ q : ByteArray, S = .string q ∧ q.size ≤ 41 ∧ Cur wr g (k + 4 + 2 * q.size) ∧ w.grownBy wr (some g)) (fun S _ => match S with | .string q => 42 - q.size | _ => 0)
    case atStart => exact ⟨s, rfl, by omega, HC2.out.mono (by omega), HG2.out⟩
    case round =>
      obtain ⟨q, rfl, hq, hcr, hgr⟩ := hrel
      have HCr := Lib.hid hcr
      have HGr := Lib.hid hgr
      clear hcr hgr
      go_wp2_with fail
      refine (pick_any g _ 2 (by omega) (by omega) _ HCr.out).mono ?_
      rintro e w3 ⟨y, rfl, hy, hc3, hg3⟩
      have hy0 : 0 ≤ y := hy.1
      have hy1 : y ≤ 1 := by omega
      have HC3 := Lib.hid hc3
      have HG3 := Lib.hid (grown_trans HGr.out hg3)
      clear hc3 hg3 hy
      by_cases hlt : (q.size : Int) < 40 + y
      · obtain ⟨r, hr⟩ : ∃ r : ByteArray, r = q ++ ⟨#[120]⟩ := ⟨_, rfl⟩
        have hrs : r.size = q.size + 1 := by rw [hr, ByteArray.size_append]; rfl
        go_wp2
        rw [← hr]
        refine ⟨⟨r, rfl, by omega, HC3.out.mono (by omega), HG3.out⟩, ?_⟩
        show 42 - r.size < 42 - q.size
        omega
      · go_wp2
        go_ret
        exact ⟨q, rfl, by omega, HC3.out.mono (by omega), HG3.out⟩
end Go.Proofs.YtmiohdibbpckaaaDoor

/- What the laws of layer 3 draw: lists of digests. -/
namespace Go.Proofs.YtmiohdibbpckaaaDoor
open Go.RowKit

def LstPost (w : World) (g k most : Nat) (e : Ending) (w' : World) : Prop :=
  ∃ (ad : Option Addr) (n cap : Nat) (zs : List Int), e = .returned (.slice ad n cap) ∧ w'.ownsRow w.heap.size 3 1 (.slice ad n cap) n (zs.map (Value.int .i64)) ∧ n ≤ most ∧ Cur w' g k ∧ w.grownBy w' (some g)

set_option maxHeartbeats 3200000 in
theorem digests_any (g k : Nat) (hk : k ≤ 800000000) (w : World) (hc : Cur w g k) :
    Calls Tryd.prog 40 #[.pointer (some ⟨g, 0, none⟩)] w (LstPost w g (k + 40) 401) := by
  have hgl := hc.lt
  have HC := Lib.hid hc
  obtain ⟨i0, hi, hz0, hz1, hz2⟩ := info_parts Tryd.info3
  have HZ2 := Lib.hid hz2
  clear hc
  go_enter Tryd.func40, Tryd.ntmps40
  go_wp2_with fail
  refine (pick_any g k 8 (by omega) (by omega) _ HC.out).mono ?_
  rintro e w1 ⟨x1, rfl, hx1, hc1, hg1⟩
  have hx10 : 0 ≤ x1 := hx1.1
  have hx11 : x1 ≤ 7 := by omega
  obtain ⟨j1, rfl⟩ := Int.eq_ofNat_of_zero_le hx10
  have HC1 := Lib.hid hc1
  have HG1 := Lib.hid hg1
  clear hc1 hg1 hx1
  go_wp2
  go_loopw [3, 4] (fun V K wr => ∃ (j n : Nat) (va : Option Addr) (vc : Nat) (zs : List Int), (j ≤ 7 ∧ n + j ≤ 7) ∧ K = .int .i64 j ∧ V = .slice va n vc ∧ wr.ownsRow w.heap.size 3 1 (.slice va n vc) n (zs.map (Value.int .i64)) ∧ Cur wr g (k + 2 + 4 * (7 - j)) ∧ w.grownBy wr (some g)) (fun _ K _ => (intOf K).toNat)
  case atStart => exact ⟨j1, 0, none, 0, [], by omega, rfl, rfl, World.ownsRow_nil _ _ _ _, HC1.out.mono (by omega), HG1.out⟩
  case round =>
    obtain ⟨j, n, va, vc, zs, ⟨hj0, hj1⟩, rfl, rfl, hown, hcr, hgr⟩ := hrel
    have HO := Lib.hid hown
    have HCr := Lib.hid hcr
    have HGr := Lib.hid hgr
    clear hown hcr hgr
    by_cases hj : 0 < j
    · have hji : (0 : Int) < (j : Int) := by omega
      go_wp2_with fail
      refine (digest_any g _ (by omega) _ HCr.out).mono ?_
      rintro e w2 ⟨x, rfl, _, hc2, hg2⟩
      have HO2 := Lib.hid (own_cur HO.out hg2 hgl)
      have HC2 := Lib.hid hc2
      have HG2 := Lib.hid (grown_trans HGr.out hg2)
      clear hc2 hg2
      go_wp2_with (at_builtin; refine wpList_append_ints rfl _ _ 24 rfl w.heap.size 3 i0 Tryd.underlying24 hi hz0 hz1 hz2 _ n zs rfl (HO2.out.alloc _) (some ⟨w2.heap.size, 0, none⟩) 1 1 [x] rfl rfl (ints_spot w2 _ rfl [x] 3) (fun h => by cases h) (by omega) ?_ ?_)
      · have := HG2.out.size; simp; omega
      · intro v' w3 hown' hgrow
        obtain ⟨va', vc', rfl⟩ := own_shape hown'
        have HO3 := Lib.hid hown'
        have hr : ∀ q, (Value.slice va n vc).ownBlock = some q → w.heap.size ≤ q := fun q hq => (HO2.out.lt q hq).1
        have hal := ba w2 (.cells #[.int .i64 (x)] 3)
        have HC3 := Lib.hid ((HC2.out.below hal).above hgrow hgl hr)
        have HG3 := Lib.hid (grown_own (grown_trans HG2.out (grown_below hal _)) hgrow hr)
        clear hown' hgrow hr hal
        go_wp2
        go_roundw
        case rel => exact ⟨j - 1, n + 1, va', vc', zs ++ [x], by omega, by rw [show ((j - 1 : Nat) : Int) = (j : Int) - 1 by omega], rfl, by rw [List.map_append]; simpa using HO3.out, HC3.out.mono (by omega), HG3.out⟩
        case measure => simp only [intOf]; omega
    · have hji : (j : Int) ≤ 0 := by omega
      go_wp2_with fail
      refine (one_any g _ _ (by omega) (by omega) _ HCr.out).mono ?_
      rintro e w2 ⟨b, rfl, hc2, hg2⟩
      have HO2 := Lib.hid (own_cur HO.out hg2 hgl)
      have HC2 := Lib.hid hc2
      have HG2 := Lib.hid (grown_trans HGr.out hg2)
      clear hc2 hg2
      cases b
      · go_wp2
        go_ret
        exact ⟨va, n, vc, zs, rfl, HO2.out, by omega, HC2.out.mono (by omega), HG2.out⟩
      · go_wp2_with fail
        refine (pick_any g _ 6 (by omega) (by omega) _ HC2.out).mono ?_
        rintro e w3 ⟨y, rfl, hy, hc3, hg3⟩
        have hy0 : 0 ≤ y := hy.1
        have hy1 : y ≤ 5 := by omega
        obtain ⟨m, hm⟩ : ∃ m : Nat, 396 + y = m := ⟨(396 + y).toNat, by omega⟩
        have hm1 : m ≤ 401 := by omega
        have HC3 := Lib.hid hc3
        have HG3 := Lib.hid (grown_trans HG2.out hg3)
        have hsz := (grown_trans HG2.out hg3).size
        clear hc3 hg3 hy
        go_wp2_with (at_make; refine wpList_make_full _ rfl _ _ 24 rfl w.heap.size 3 i0 (.int .i64 0) 1 Tryd.underlying24 hi hz0 hz1 .i64 .i64 _ _ m (by rw [← hm]; rfl) (by rw [← hm]; rfl) rfl rfl (by rw [HZ2.out]; omega) (by unfold maxLen; omega) hsz ?_; intro w4 hown hgrow)
        have HC4 := Lib.hid (HC3.out.above (B := w.heap.size) hgrow hgl (by simp))
        have HG4 := Lib.hid (grown_own HG3.out hgrow (by simp))
        have HO4 := Lib.hid (show w4.ownsRow w.heap.size 3 1 (.slice (some ⟨w3.heap.size, 0, none⟩) m m) m ((List.replicate m 0).map (Value.int .i64)) from by
          have e1 : (madeCells (Value.int IntKind.i64 0).cells (m * 1)).toList = (List.replicate m (0 : Int)).map (Value.int .i64) := by
            rw [Nat.mul_one, List.map_replicate]
            apply List.ext_getElem?
            intro i
            rw [Array.getElem?_toList]
            by_cases hi : i < m
            · simp [madeCells, Value.cells, hi, Nat.mod_one]
            · rw [List.getElem?_eq_none (by simp; omega), Array.getElem?_eq_none (by rw [size_madeCells]; omega)]
          rw [← e1]; exact hown)
        clear hown hgrow
        go_ret
        exact ⟨_, m, m, _, rfl, HO4.out, hm1, HC4.out.mono (by omega), HG4.out⟩

/-- A drawn list, with no cursor left. -/
def DrawDigs (w : World) (e : Ending) (w' : World) : Prop :=
  ∃ (ad : Option Addr) (n cap : Nat) (zs : List Int), e = .returned (.slice ad n cap) ∧ zs.length = n ∧ IsInts w' ad zs ∧ n ≤ 401 ∧ Below w.heap.size w w'

theorem drawHashInts_any (ad : Option Addr) (n cap : Nat) (w : World) (hb : IsB w ad n) :
    Calls Tryd.prog 7 #[.slice ad n cap] w (DrawDigs w) := by
  have HC := Lib.hid (cur_new w ad n cap hb 64)
  have hal := ba w (.cells #[.slice ad n cap, .int .i64 0, .int .u64 0] 64)
  have HB := Lib.hid hal
  clear hb hal
  go_enter Tryd.func7, Tryd.ntmps7
  go_wp2_with fail
  refine (digests_any w.heap.size 0 (by omega) _ HC.out).mono ?_
  rintro e w1 ⟨ad', n', cap', zs, rfl, hown, hn, hc1, hg1⟩
  have HB1 := Lib.hid (below_cur HB.out hg1)
  obtain ⟨hz, hl, _⟩ := own_ints hown
  have HZ := Lib.hid hz
  clear hown hc1 hg1 hz
  go_wp2
  go_ret
  exact ⟨ad', n', cap', zs, rfl, hl, HZ.out, hn, HB1.out⟩

/-- What DrawChallenges hands out. -/
def DrawChal (w : World) (e : Ending) (w' : World) : Prop :=
  ∃ (P Q G x : Int) (s : ByteArray) (ad : Option Addr) (n cap : Nat) (zs : List Int), e = .returned (.tuple #[gv P Q G, .string s, .slice ad n cap, .int .i64 x]) ∧ DB P Q G ∧ (-1 ≤ x ∧ x ≤ 101) ∧ s.size ≤ 41 ∧ zs.length = n ∧ IsInts w' ad zs ∧ (ad = none → cap = 0) ∧ n ≤ 401 ∧ Below w.heap.size w w'

set_option maxRecDepth 100000 in
set_option maxHeartbeats 3200000 in
theorem drawChallenges_any (ad : Option Addr) (n cap : Nat) (w : World) (hb : IsB w ad n) :
    Calls Tryd.prog 12 #[.slice ad n cap] w (DrawChal w) := by
  have hal := ba w (.cells #[.int .i64 0, .int .i64 0, .int .i64 0] 32)
  have HC := Lib.hid (cur_at (w.alloc (.cells #[.int .i64 0, .int .i64 0, .int .i64 0] 32)) (w.heap.size + 1) (by simp) ad n cap (hb.below hal) 64)
  have hal2 := ba (w.alloc (.cells #[.int .i64 0, .int .i64 0, .int .i64 0] 32)) (.cells #[.slice ad n cap, .int .i64 0, .int .u64 0] 64)
  have HB := Lib.hid (bt hal hal2)
  have HO := Lib.hid ((own3_new w 0 0 0 32).below hal2)
  clear hb hal hal2
  go_enter Tryd.func12, Tryd.ntmps12
  go_wp2_with fail
  refine (anyGroup_any (w.heap.size + 1) 0 (Nat.zero_le _) _ HC.out).mono ?_
  rintro e w1 ⟨P, Q, G, rfl, hd, hc1, hg1⟩
  have HB1 := Lib.hid (below_at HB.out hg1 (by omega))
  have HO1 := Lib.hid (HO.out.grown hg1 (by omega))
  have HD := Lib.hid hd
  have HC1 := Lib.hid hc1
  clear hg1 hd hc1
  go_wp2_with fail
  refine (label_any (w.heap.size + 1) _ (by omega) _ HC1.out).mono ?_
  rintro e w2 ⟨s, rfl, hs, hc2, hg2⟩
  have hlt2 := hc2.lt
  have HB2 := Lib.hid (below_at HB1.out hg2 (by omega))
  have HO2 := Lib.hid (HO1.out.grown hg2 (by omega))
  have HC2 := Lib.hid hc2
  clear hg2 hc2
  go_wp2_with fail
  refine (digests_any (w.heap.size + 1) _ (by omega) _ HC2.out).mono ?_
  rintro e w3 ⟨ad', n', cap', zs, rfl, hown, hn', hc3, hg3⟩
  have hal3 := ba w3 (.cells #[.int .i64 0, .int .i64 1, .int .i64 2, .int .i64 5, .int .i64 100, .int .i64 101, .int .i64 (-1)] 3)
  have hlt3 := hc3.lt
  have HB3 := Lib.hid (bt (below_at HB2.out hg3 (by omega)) hal3)
  have HO3 := Lib.hid ((HO2.out.grown hg3 (by omega)).below hal3)
  have HC3 := Lib.hid (hc3.below hal3)
  have HW3 := Lib.hid (hown.alloc (.cells #[.int .i64 0, .int .i64 1, .int .i64 2, .int .i64 5, .int .i64 100, .int .i64 101, .int .i64 (-1)] 3))
  clear hg3 hc3 hal3 hown
  go_wp2_with fail
  refine (among_any (w.heap.size + 1) _ _ _ _ [0, 1, 2, 5, 100, 101, -1] (by omega) rfl (by simp) (by simp) (by rintro a ⟨⟩; simp; omega) _ (ints_lit w3 [0, 1, 2, 5, 100, 101, -1] 3) HC3.out).mono ?_
  rintro e w4 ⟨x, rfl, hx, hc4, hg4⟩
  have HX := Lib.hid (show -1 ≤ x ∧ x ≤ 101 from by simp at hx; omega)
  have HB4 := Lib.hid (below_at HB3.out hg4 (by omega))
  have HO4 := Lib.hid (HO3.out.grown hg4 (by omega))
  have HW4 := Lib.hid (own_cur HW3.out hg4 hlt2)
  clear hg4 hc4 hx
  obtain ⟨⟨d0, d1, d2⟩, df⟩ := HO4.out
  have df0 := df 0
  have df1 := df 1
  have df2 := df 2
  clear df
  go_wp2
  (try simp only [Exit.inBlock, Exit.then])
  have hgf := grown_trans (grown_trans (grown_setCell w4 ⟨w.heap.size, 0, none⟩ (.int .i64 P)) (grown_setCell _ ⟨w.heap.size, 1, none⟩ (.int .i64 Q))) (grown_setCell _ ⟨w.heap.size, 2, none⟩ (.int .i64 G))
  have hown5 := own_cur HW4.out hgf (by show w.heap.size < w2.heap.size; omega)
  obtain ⟨hz, hl, hcp⟩ := own_ints hown5
  refine bodyPost_ret (v := .tuple #[gv P Q G, .string s, .slice ad' n' cap', .int .i64 x]) ?_ rfl ⟨P, Q, G, x, s, ad', n', cap', zs, rfl, HD.out, HX.out, hs, hl, hz, hcp, hn', ?_⟩
  · rw [results_cell_tmp3 rfl]; go_simp
  · exact ((HB4.out.setCell (Nat.le_refl _) _).setCell (Nat.le_refl _) _).setCell (Nat.le_refl _) _
end Go.Proofs.YtmiohdibbpckaaaDoor

