/- What the laws of layer 4 draw: ciphertexts, lists that are sometimes changed. -/
import Derived.Test.YtmiohdibbpckaaaDoorRecO
import Derived.Test.YtmiohdibbpckaaaDoorRecG
namespace Go.Proofs.YtmiohdibbpckaaaDoor
open Go.RowKit

def CphPost (w : World) (g k : Nat) (e : Ending) (w' : World) : Prop :=
  ∃ (va : Option Addr) (n vc : Nat) (zs : List Int), e = .returned (.slice va n vc) ∧ w'.ownsRow w.heap.size 98 2 (.slice va n vc) n (zs.map (Value.int .i64)) ∧ n ≤ 200 ∧ Cur w' g k ∧ w.grownBy w' (some g)

set_option maxRecDepth 100000 in
set_option maxHeartbeats 3200000 in
theorem ciphersLike_any (g k : Nat) (hk : k ≤ 800000000) (w : World) (hc : Cur w g k) :
    Calls Tryd.prog 72 #[.pointer (some ⟨g, 0, none⟩)] w (CphPost w g (k + 100)) := by
  have hgl := hc.lt
  have HC := Lib.hid hc
  obtain ⟨i0, hi, hz0, hz1, hz2⟩ := info_parts Tryd.infoCC
  have HZ2 := Lib.hid hz2
  clear hc
  go_enter Tryd.func72, Tryd.ntmps72
  go_wp2_with fail
  refine (pick_any g k 5 (by omega) (by omega) _ HC.out).mono ?_
  rintro e w1 ⟨x1, rfl, hx1, hc1, hg1⟩
  have hx10 : 0 ≤ x1 := hx1.1
  have hx11 : x1 ≤ 4 := by omega
  obtain ⟨j1, rfl⟩ := Int.eq_ofNat_of_zero_le hx10
  have HC1 := Lib.hid hc1
  have HG1 := Lib.hid hg1
  clear hc1 hg1 hx1
  go_wp2
  go_loopw [3, 4] (fun V K wr => ∃ (j n : Nat) (va : Option Addr) (vc : Nat) (zs : List Int), (j ≤ 4 ∧ n + j ≤ 4) ∧ K = .int .i64 j ∧ V = .slice va n vc ∧ wr.ownsRow w.heap.size 98 2 (.slice va n vc) n (zs.map (Value.int .i64)) ∧ Cur wr g (k + 2 + 8 * (4 - j)) ∧ w.grownBy wr (some g)) (fun _ K _ => (intOf K).toNat)
  case atStart => exact ⟨j1, 0, none, 0, [], by omega, rfl, rfl, World.ownsRow_nil _ _ _ _, HC1.out.mono (by omega), HG1.out⟩
  case round =>
    obtain ⟨j, n, va, vc, zs, ⟨hj0, hj1⟩, rfl, rfl, hown, hcr, hgr⟩ := hrel
    have HO := Lib.hid hown
    have HCr := Lib.hid hcr
    have HGr := Lib.hid hgr
    clear hown hcr hgr
    by_cases hj : 0 < j
    · have hji : (0 : Int) < (j : Int) := by omega
      go_wp2_with fail
      refine (digest_any g _ (by omega) _ HCr.out).mono ?_
      rintro e w2 ⟨x, rfl, _, hc2, hg2⟩
      have HO2 := Lib.hid (own_cur HO.out hg2 hgl)
      have HC2 := Lib.hid hc2
      have HG2 := Lib.hid (grown_trans HGr.out hg2)
      clear hc2 hg2
      go_wp2_with fail
      refine (digest_any g _ (by omega) _ HC2.out).mono ?_
      rintro e w3 ⟨y, rfl, _, hc3, hg3⟩
      have HO3 := Lib.hid (own_cur HO2.out hg3 hgl)
      have HC3 := Lib.hid hc3
      have HG3 := Lib.hid (grown_trans HG2.out hg3)
      clear hc3 hg3
      go_wp2_with (at_builtin; refine wpList_append_own _ rfl _ _ 54 rfl w.heap.size 98 i0 (.agg #[.int .i64 0, .int .i64 0]) 2 16 Tryd.underlying54 hi hz0 hz1 hz2 rfl (by decide) _ _ _ rfl (World.ownsRow.alloc HO3.out _) ⟨w3.heap.size, 0, none⟩ 1 1 [.int .i64 x, .int .i64 y] rfl rfl ?a1 ?a2 ?a3 ?a4 ?a5 ?_)
      case a1 => exact pair_new _ _ _ _
      case a2 => intro u hu; simp at hu; rcases hu with rfl | rfl <;> rfl
      case a3 => unfold maxLen; omega
      case a4 => omega
      case a5 => have := HG3.out.size; simp; omega
      intro v' w4 hown' hgrow _
      obtain ⟨va', vc', rfl⟩ := own_shape hown'
      have HO4 := Lib.hid hown'
      have hr : ∀ q, (Value.slice va n vc).ownBlock = some q → w.heap.size ≤ q := fun q hq => (HO3.out.lt q hq).1
      have hal := ba w3 (.cells #[.int .i64 x, .int .i64 y] 98)
      have HC4 := Lib.hid ((HC3.out.below hal).above hgrow hgl hr)
      have HG4 := Lib.hid (grown_own (grown_trans HG3.out (grown_below hal _)) hgrow hr)
      clear hown' hgrow hr hal
      go_wp2
      go_roundw
      case rel => exact ⟨j - 1, n + 1, va', vc', zs ++ [x, y], by omega, by rw [show ((j - 1 : Nat) : Int) = (j : Int) - 1 by omega], rfl, by rw [List.map_append]; exact HO4.out, HC4.out.mono (by omega), HG4.out⟩
      case measure => simp only [intOf]; omega
    · have hji : (j : Int) ≤ 0 := by omega
      go_wp2_with fail
      refine (one_any g _ _ (by omega) (by omega) _ HCr.out).mono ?_
      rintro e w2 ⟨b, rfl, hc2, hg2⟩
      have HO2 := Lib.hid (own_cur HO.out hg2 hgl)
      have HC2 := Lib.hid hc2
      have HG2 := Lib.hid (grown_trans HGr.out hg2)
      clear hc2 hg2
      cases b
      · go_wp2
        go_ret
        exact ⟨va, n, vc, zs, rfl, HO2.out, by omega, HC2.out.mono (by omega), HG2.out⟩
      · go_wp2_with fail
        refine (pick_any g _ 3 (by omega) (by omega) _ HC2.out).mono ?_
        rintro e w3 ⟨y, rfl, hy, hc3, hg3⟩
        have hy0 : 0 ≤ y := hy.1
        have hy1 : y ≤ 2 := by omega
        obtain ⟨m, hm⟩ : ∃ m : Nat, 198 + y = m := ⟨(198 + y).toNat, by omega⟩
        have hm1 : m ≤ 200 := by omega
        have HC3 := Lib.hid hc3
        have HG3 := Lib.hid (grown_trans HG2.out hg3)
        have hsz := (grown_trans HG2.out hg3).size
        clear hc3 hg3 hy
        go_wp2_with (at_make; refine wpList_make_full _ rfl _ _ 54 rfl w.heap.size 98 i0 (.agg #[.int .i64 0, .int .i64 0]) 2 Tryd.underlying54 hi hz0 hz1 .i64 .i64 _ _ m (by rw [← hm]; rfl) (by rw [← hm]; rfl) rfl rfl (by rw [HZ2.out]; omega) (by unfold maxLen; omega) hsz ?_; intro w4 hown hgrow)
        have HC4 := Lib.hid (HC3.out.above (B := w.heap.size) hgrow hgl (by simp))
        have HG4 := Lib.hid (grown_own HG3.out hgrow (by simp))
        have HO4 := Lib.hid (show w4.ownsRow w.heap.size 98 2 (.slice (some ⟨w3.heap.size, 0, none⟩) m m) m ((List.replicate (m * 2) 0).map (Value.int .i64)) from by
          have e1 : (madeCells (Value.agg #[.int .i64 0, .int .i64 0]).cells (m * 2)).toList = (List.replicate (m * 2) (0 : Int)).map (Value.int .i64) := by
            rw [List.map_replicate]; exact made_twoC _ _
          rw [← e1]; exact hown)
        clear hown hgrow
        go_ret
        exact ⟨_, m, m, _, rfl, HO4.out, hm1, HC4.out.mono (by omega), HG4.out⟩

/-! ### A list that is sometimes changed -/
def BntPost (w : World) (g most : Nat) (e : Ending) (w' : World) : Prop :=
  ∃ (ad : Option Addr) (n cap : Nat) (zs : List Int), e = .returned (.slice ad n cap) ∧ zs.length = n ∧ IsInts w' ad zs ∧ (ad = none → cap = 0) ∧ n ≤ cap ∧ n ≤ most ∧ w.grownBy w' (some g)

theorem IsInts.prefix {w : World} {ad : Option Addr} {zs : List Int} (h : IsInts w ad zs) (m : Nat) : IsInts w ad (zs.take m) := by
  rcases h with rfl | ⟨b, off, rfl, hb, hc⟩
  · exact .inl (by simp)
  · refine .inr ⟨b, off, rfl, hb, fun i hi => ?_⟩
    have hi' : i < zs.length := by simp at hi; omega
    rw [hc i hi', List.getD_eq_getElem?_getD, List.getD_eq_getElem?_getD, List.getElem?_take_of_lt (by simp at hi; omega)]
theorem own_some {w : World} {B n cap : Nat} {va : Option Addr} {e : TypeId} {xs : List Value} (h : w.ownsRow B e 1 (.slice va n cap) n xs) (hn : 0 < n) : ∃ gb, va = some ⟨gb, 0, none⟩ := by
  rcases h.2 with ⟨h1, h2⟩ | ⟨gb, c, cur, h1, _⟩
  · omega
  · simp only [Value.slice.injEq] at h1
    exact ⟨gb, h1.1⟩

set_option maxRecDepth 100000 in
set_option maxHeartbeats 3200000 in
theorem bentList_any (g k : Nat) (hk : k ≤ 800000000) (ad : Option Addr) (n cap : Nat) (zs : List Int) (hn : zs.length = n) (hl : n ≤ 100000) (hnil : ad = none → cap = 0) (w : World) (hz : IsInts w ad zs) (hc : Cur w g k) :
    Calls Tryd.prog 70 #[.pointer (some ⟨g, 0, none⟩), .slice ad n cap] w (BntPost w g (n + 1)) := by
  have hgl := hc.lt
  have HC := Lib.hid hc
  have HZ := Lib.hid hz
  have HN := Lib.hid hn
  have HNIL := Lib.hid hnil
  obtain ⟨i0, hi, hz0, hz1, hz2⟩ := info_parts Tryd.info3
  clear hc hz hn hnil
  go_enter Tryd.func70, Tryd.ntmps70
  go_wp2_with fail
  refine (l1Own_n ad n cap zs HN.out (by omega) HNIL.out _ HZ.out).mono ?_
  rintro e w1 ⟨va, vc, rfl, ho1, hb1⟩
  have HO1 := Lib.hid ho1
  have HC1 := Lib.hid (HC.out.below hb1)
  have HG1 := Lib.hid (grown_below hb1 (some g))
  clear ho1 hb1
  go_wp2_with fail
  refine (pick_any g _ 5 (by omega) (by omega) _ HC1.out).mono ?_
  rintro e w2 ⟨y, rfl, hy, hc2, hg2⟩
  have hy0 : 0 ≤ y := hy.1
  have hy1 : y ≤ 4 := by omega
  have HO2 := Lib.hid (own_cur HO1.out hg2 hgl)
  have HC2 := Lib.hid hc2
  have HG2 := Lib.hid (grown_trans HG1.out hg2)
  clear hc2 hg2 hy
  by_cases y0 : y = 0
  · subst y0
    go_wp2_with fail
    refine (digest_any g _ (by omega) _ HC2.out).mono ?_
    rintro e w3 ⟨x, rfl, _, hc3, hg3⟩
    have HO3 := Lib.hid (own_cur HO2.out hg3 hgl)
    have HG3 := Lib.hid (grown_trans HG2.out hg3)
    clear hc3 hg3
    go_wp2_with (at_builtin; refine wpList_append_ints rfl _ _ 24 rfl w.heap.size 3 i0 Tryd.underlying24 hi hz0 hz1 hz2 _ n zs rfl (HO3.out.alloc _) (some ⟨w3.heap.size, 0, none⟩) 1 1 [x] rfl rfl (ints_spot w3 _ rfl [x] 3) (fun h => by cases h) (by omega) (Nat.le_trans HG3.out.size (ba w3 _).size) ?_; intro v' w4 hown' hgrow; obtain ⟨va', vc', rfl⟩ := own_shape hown'; have HO4 := Lib.hid hown'; have HG4 := Lib.hid (grown_own (grown_trans HG3.out (grown_below (ba w3 _) _)) hgrow (fun q hq => (HO3.out.lt q hq).1)); clear hown' hgrow)
    go_ret
    exact ⟨va', n + 1, vc', zs ++ [x], rfl, (own_ints HO4.out).2.1, (own_ints HO4.out).1, (own_ints HO4.out).2.2, own_cap HO4.out, Nat.le_refl _, HG4.out⟩
  by_cases y1 : y = 1
  · subst y1
    by_cases h0 : 0 < n
    · have h0i : (0 : Int) < (n : Int) := by omega
      go_wp2_with fail
      refine (pick_any g _ n (by omega) (by omega) _ HC2.out).mono ?_
      rintro e w3 ⟨x, rfl, hx, hc3, hg3⟩
      have hx0 : 0 ≤ x := hx.1
      have hxn : x < (n : Int) := by omega
      obtain ⟨j, rfl⟩ := Int.eq_ofNat_of_zero_le hx0
      have hjn : j < n := by omega
      have hal := ba w3 (.cells #[.int .i64 0, .int .i64 1, .int .i64 2, .int .i64 3, .int .i64 (-1), .int .i64 400, .int .i64 256] 3)
      have hlt3 := hc3.lt
      have HO3 := Lib.hid (own_below (own_cur HO2.out hg3 hgl) hal)
      have HC3 := Lib.hid (hc3.below hal)
      have HG3 := Lib.hid (grown_trans (grown_trans HG2.out hg3) (grown_below hal _))
      clear hc3 hg3 hal hx
      go_wp2_with fail
      refine (among_any g _ _ _ _ [0, 1, 2, 3, -1, 400, 256] (by omega) rfl (by simp) (by simp) (by rintro a ⟨⟩; simp; omega) _ (ints_lit w3 [0, 1, 2, 3, -1, 400, 256] 3) HC3.out).mono ?_
      rintro e w4 ⟨z, rfl, _, _, hg4⟩
      have ho4 := own_cur HO3.out hg4 hgl
      have HG4 := Lib.hid (grown_trans HG3.out hg4)
      clear hg4
      obtain ⟨gb, rfl⟩ := own_some ho4 h0
      have hbl := (ho4.lt gb rfl).1
      have hcell := ho4.cellAt j (by omega)
      have hln : zs.length = n := HN.out
      have hcell' : w4.cell? ⟨gb, j, none⟩ = some (.int .i64 (zs.getD j 0)) := by rw [hcell]; simp [hln, hjn]
      have hfz := ho4.frozenAt j
      have HO5 := Lib.hid (show (w4.setCell ⟨gb, j, none⟩ (.int .i64 z)).ownsRow w.heap.size 3 1 (.slice (some ⟨gb, 0, none⟩) n vc) n ((zs.set j z).map (Value.int .i64)) from by
        have h := (ho4.stored j (.int .i64 z)).1
        rwa [← List.map_set] at h)
      have HG5 := Lib.hid (grown_own HG4.out (grown_setCell w4 ⟨gb, j, none⟩ (.int .i64 z)) (by rintro q ⟨⟩; exact hbl))
      clear hcell ho4
      go_wp2
      go_ret
      exact ⟨_, n, vc, zs.set j z, rfl, (own_ints HO5.out).2.1, (own_ints HO5.out).1, (own_ints HO5.out).2.2, own_cap HO5.out, by omega, HG5.out⟩
    · have h0i : ¬ (0 : Int) < (n : Int) := by omega
      go_wp2
      go_ret
      exact ⟨va, n, vc, zs, rfl, (own_ints HO2.out).2.1, (own_ints HO2.out).1, (own_ints HO2.out).2.2, own_cap HO2.out, by omega, HG2.out⟩
  have e0 : (y == 0) = false := by simp [y0]
  have e1 : (y == 1) = false := by simp [y1]
  by_cases y2 : y = 2
  · subst y2
    by_cases h0 : 0 < n
    · have h0i : (0 : Int) < (n : Int) := by omega
      have ho2 := HO2.out
      have hcp := own_cap HO2.out
      obtain ⟨m, rfl⟩ : ∃ m, n = m + 1 := ⟨n - 1, by omega⟩
      have hm1 : (m : Int) ≤ (vc : Int) := by omega
      obtain ⟨gb, rfl⟩ := own_some ho2 h0
      have HP := Lib.hid ((own_ints HO2.out).1.prefix m)
      clear ho2 e0 e1 y0 y1
      go_wp2
      go_ret
      exact ⟨_, m, vc, zs.take m, by first | rfl | (congr 2; omega), by have := HN.out; simp; omega, HP.out, (fun h => by cases h), by omega, by omega, HG2.out⟩
    · have h0i : ¬ (0 : Int) < (n : Int) := by omega
      clear e0 e1 y0 y1
      go_wp2
      go_ret
      exact ⟨va, n, vc, zs, rfl, (own_ints HO2.out).2.1, (own_ints HO2.out).1, (own_ints HO2.out).2.2, own_cap HO2.out, by omega, HG2.out⟩
  · have e2 : (y == 2) = false := by simp [y2]
    clear y0 y1 y2
    go_wp2
    go_ret
    exact ⟨va, n, vc, zs, rfl, (own_ints HO2.out).2.1, (own_ints HO2.out).1, (own_ints HO2.out).2.2, own_cap HO2.out, by omega, HG2.out⟩

def DrawLst (w : World) (most : Nat) (e : Ending) (w' : World) : Prop :=
  ∃ (v : Value) (zs : List Int), e = .returned v ∧ InI w'.heap.size w' v zs ∧ zs.length ≤ most ∧ Below w.heap.size w w'

set_option maxRecDepth 100000 in
set_option maxHeartbeats 1600000 in
theorem drawDecodeCiphers_any (ad : Option Addr) (n cap : Nat) (w : World) (hb : IsB w ad n) :
    Calls Tryd.prog 29 #[.slice ad n cap] w (DrawLst w 402) := by
  have HC := Lib.hid (cur_new w ad n cap hb 64)
  have hal := ba w (.cells #[.slice ad n cap, .int .i64 0, .int .u64 0] 64)
  have HB := Lib.hid hal
  clear hb hal
  go_enter Tryd.func29, Tryd.ntmps29
  go_wp2_with fail
  refine (ciphersLike_any w.heap.size 0 (by omega) _ HC.out).mono ?_
  rintro e w1 ⟨va, m, vc, zs, rfl, hown, hm, hc1, hg1⟩
  have hzl : zs.length = m * 2 := by have := hown.1; simpa using this
  have HI := Lib.hid (show InC w1.heap.size w1 (.slice va m vc) zs from (show OwC w.heap.size w1.heap.size w1 (.slice va m vc) zs from ⟨m, OwR.mk (own_base hown (by simp)) (by have := hg1.size; simp at this; omega)⟩).toIn)
  have HC1 := Lib.hid hc1
  have HB1 := Lib.hid (below_cur HB.out hg1)
  clear hown hc1 hg1
  go_wp2_with fail
  refine (cCiphers_any HI.out (by omega)).mono ?_
  rintro e w2 ⟨ua, q, uc, rfl, ho2, hb2⟩
  have hq4 : q ≤ 401 := by have h1 := (own_ints ho2).2.1; unfold encC at h1; rw [List.length_cons] at h1; omega
  have HO2 := Lib.hid ho2
  have HC2 := Lib.hid (HC1.out.below hb2)
  have HB2 := Lib.hid (bt HB1.out hb2)
  clear ho2 hb2
  go_wp2_with fail
  refine (bentList_any w.heap.size _ (by omega) ua q uc (encC zs) (own_ints HO2.out).2.1 (by omega) (own_ints HO2.out).2.2 _ (own_ints HO2.out).1 HC2.out).mono ?_
  rintro e w3 ⟨ra, rn, rc, rs, rfl, hrl, hri, hrn, hrc, hrm, hg3⟩
  have HB3 := Lib.hid (below_cur HB2.out hg3)
  have HI3 := Lib.hid (show InI w3.heap.size w3 (.slice ra rn rc) rs from by rw [← hrl]; exact InI.of hri hrn (by omega))
  have HRL := Lib.hid hrl
  clear hri hrn hg3 hrl
  go_wp2
  go_ret
  exact ⟨_, rs, rfl, HI3.out, by rw [HRL.out]; omega, HB3.out⟩

end Go.Proofs.YtmiohdibbpckaaaDoor

