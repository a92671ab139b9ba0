/- What the laws of layer 4 draw: proofs, lists of lists, texts. -/
import Derived.Test.YtmiohdibbpckaaaDoorHexK
import Derived.Test.YtmiohdibbpckaaaDoorRecA
namespace Go.Proofs.YtmiohdibbpckaaaDoor
open Go.RowKit

theorem B3.gone {w w' : World} {b g : Nat} {x y z : Value} (h : B3 w b x y z) (hg : w.grownBy w' (some g)) (hne : b ≠ g) : B3 w' b x y z := by
  have e := hg.block b h.lt (by simpa using hne)
  unfold B3 World.cell? World.frozen? at *
  simp only [e]
  exact h
theorem OwI.gone {Q P g : Nat} {w w' : World} {v : Value} {z : List Int} (h : OwI Q P w v z) (hg : w.grownBy w' (some g)) (hQ : g < Q) : OwI Q P w' v z :=
  h.mid (Mid.grown (Q := g) (P := g + 1) hg (by rintro k ⟨⟩; omega)) (.inr hQ)

/-- A drawn proof. -/
def PrfPost (w : World) (g k : Nat) (e : Ending) (w' : World) : Prop :=
  ∃ (a b c : Value) (p : PrD), e = .returned (.agg #[a, b, c]) ∧ (OwI w.heap.size w'.heap.size w' a p.c ∧ OwI w.heap.size w'.heap.size w' b p.h ∧ OwI w.heap.size w'.heap.size w' c p.r) ∧
    (p.c.length ≤ 401 ∧ p.h.length ≤ 401 ∧ p.r.length ≤ 401) ∧ Cur w' g k ∧ w.grownBy w' (some g)

set_option maxRecDepth 100000 in
set_option maxHeartbeats 1600000 in
theorem proofLike_any (g k : Nat) (hk : k ≤ 700000000) (w : World) (hc : Cur w g k) :
    Calls Tryd.prog 59 #[.pointer (some ⟨g, 0, none⟩)] w (PrfPost w g (k + 120)) := by
  have hgl := hc.lt
  have hal := ba w (.cells #[.slice none 0 0, .slice none 0 0, .slice none 0 0] 40)
  have HC := Lib.hid (hc.below hal)
  have HX := Lib.hid (b3_new w (.slice none 0 0) (.slice none 0 0) (.slice none 0 0) 40)
  have HG := Lib.hid (grown_below hal (some g))
  clear hc hal
  go_enter Tryd.func59, Tryd.ntmps59
  go_wp2_with fail
  refine (digests_any g k (by omega) _ HC.out).mono ?_
  rintro e w1 ⟨a1, n1, c1, z1, rfl, ho1, hn1, hc1, hg1⟩
  have HO1 := Lib.hid ho1
  have HC1 := Lib.hid hc1
  have HX1 := Lib.hid (HX.out.gone hg1 (by omega))
  have HG1 := Lib.hid (grown_trans HG.out hg1)
  clear ho1 hc1 hg1
  go_wp2_with fail
  refine (digests_any g _ (by omega) _ HC1.out).mono ?_
  rintro e w2 ⟨a2, n2, c2, z2, rfl, ho2, hn2, hc2, hg2⟩
  have HO1_2 := Lib.hid (own_cur HO1.out hg2 (by simp; omega))
  have HO2 := Lib.hid ho2
  have HC2 := Lib.hid hc2
  have hw1 := HG1.out.size
  have HX2 := Lib.hid (HX1.out.gone hg2 (by omega))
  have HG2 := Lib.hid (grown_trans HG1.out hg2)
  clear ho2 hc2 hg2
  go_wp2_with fail
  refine (digests_any g _ (by omega) _ HC2.out).mono ?_
  rintro e w3 ⟨a3, n3, c3, z3, rfl, ho3, hn3, hc3, hg3⟩
  have HO1_3 := Lib.hid (own_cur HO1_2.out hg3 (by simp; omega))
  have HO2_3 := Lib.hid (own_cur HO2.out hg3 (by omega))
  have HO3 := Lib.hid ho3
  have HC3 := Lib.hid hc3
  have hw2 := HG2.out.size
  have HX3 := Lib.hid (HX2.out.gone hg3 (by omega))
  have HG3 := Lib.hid (grown_trans HG2.out hg3)
  have hw12 := HX1.out.lt
  have hw22 := HX2.out.lt
  have hw32 := HX3.out.lt
  have hsz13 := HG3.out.size
  clear ho3 hc3 hg3
  have hl1 : z1.length = n1 := by have := HO1_3.out.1; simpa using this
  have hl2 : z2.length = n2 := by have := HO2_3.out.1; simpa using this
  have hl3 : z3.length = n3 := by have := HO3.out.1; simpa using this
  subst hl1 hl2 hl3
  obtain ⟨x0, x1, x2, xf⟩ := HX3.out
  have xf0 := xf 0
  have xf1 := xf 1
  have xf2 := xf 2
  clear xf
  go_wp2
  (try simp only [Exit.inBlock, Exit.then])
  have hm := ((mid_cell w3 w.heap.size 0 (.slice a1 z1.length c1)).trans (mid_cell _ w.heap.size 1 (.slice a2 z2.length c2))).trans (mid_cell _ w.heap.size 2 (.slice a3 z3.length c3))
  have hgs := grown_trans (grown_trans (grown_setCell w3 ⟨w.heap.size, 0, none⟩ (.slice a1 z1.length c1)) (grown_setCell _ ⟨w.heap.size, 1, none⟩ (.slice a2 z2.length c2))) (grown_setCell _ ⟨w.heap.size, 2, none⟩ (.slice a3 z3.length c3))
  refine bodyPost_ret (v := .agg #[.slice a1 z1.length c1, .slice a2 z2.length c2, .slice a3 z3.length c3]) ?_ rfl ?_
  · rw [results_cell_one rfl]; go_simp
  · have q1 := (owI_mk (own_base (base' := w.heap.size + 1) HO1_3.out (by simp)) (by omega)).mid hm (.inr (by omega))
    have q2 := (owI_mk (own_base (base' := w.heap.size + 1) HO2_3.out (by omega)) (by omega)).mid hm (.inr (by omega))
    have q3 := (owI_mk (own_base (base' := w.heap.size + 1) HO3.out (by omega)) (by omega)).mid hm (.inr (by omega))
    exact ⟨_, _, _, ⟨z1, z2, z3⟩, rfl, ⟨q1.wide (by omega) q1.2.2.1 (Nat.le_refl _), q2.wide (by omega) q2.2.2.1 (Nat.le_refl _), q3.wide (by omega) q3.2.2.1 (Nat.le_refl _)⟩, ⟨hn1, hn2, hn3⟩,
      (HC3.out.mono (by omega)).above hgs hgl (by rintro q ⟨⟩; exact Nat.le_refl _), grown_own HG3.out hgs (by rintro q ⟨⟩; exact Nat.le_refl _)⟩

def DrawPrf (w : World) (e : Ending) (w' : World) : Prop :=
  ∃ (a b c : Value) (p : PrD), e = .returned (.agg #[a, b, c]) ∧ InP w'.heap.size w' (.agg #[a, b, c]) p ∧ (p.c.length ≤ 401 ∧ p.h.length ≤ 401 ∧ p.r.length ≤ 401) ∧ Below w.heap.size w w'

set_option maxRecDepth 100000 in
set_option maxHeartbeats 1600000 in
theorem drawEncodeProof_any (ad : Option Addr) (n cap : Nat) (w : World) (hb : IsB w ad n) :
    Calls Tryd.prog 17 #[.slice ad n cap] w (DrawPrf w) := by
  have hal := ba w (.cells #[.slice none 0 0, .slice none 0 0, .slice none 0 0] 40)
  have HX0 := b3_new w (.slice none 0 0) (.slice none 0 0) (.slice none 0 0) 40
  have hal2 := ba (w.alloc (.cells #[.slice none 0 0, .slice none 0 0, .slice none 0 0] 40)) (.cells #[.slice ad n cap, .int .i64 0, .int .u64 0] 64)
  have HC := Lib.hid (cur_at (w.alloc (.cells #[.slice none 0 0, .slice none 0 0, .slice none 0 0] 40)) (w.heap.size + 1) (by simp) ad n cap (hb.below hal) 64)
  have HX := Lib.hid (HX0.below hal2)
  have HB := Lib.hid (bt hal hal2)
  clear hb hal hal2 HX0
  go_enter Tryd.func17, Tryd.ntmps17
  go_wp2_with fail
  refine (proofLike_any (w.heap.size + 1) 0 (Nat.zero_le _) _ HC.out).mono ?_
  rintro e w1 ⟨a, b, c, p, rfl, ⟨o1, o2, o3⟩, hps, hc1, hg1⟩
  obtain ⟨a1, a2, rfl⟩ := own_shape o1.1
  obtain ⟨b1, b2, rfl⟩ := own_shape o2.1
  obtain ⟨c1, c2, rfl⟩ := own_shape o3.1
  have O1 := Lib.hid o1
  have O2 := Lib.hid o2
  have O3 := Lib.hid o3
  have HB1 := Lib.hid (below_at HB.out hg1 (by omega))
  have HX1 := Lib.hid (HX.out.gone hg1 (by omega))
  clear o1 o2 o3 hc1 hg1
  obtain ⟨x0, x1, x2, xf⟩ := HX1.out
  have xf0 := xf 0
  have xf1 := xf 1
  have xf2 := xf 2
  clear xf
  go_wp2
  (try simp only [Exit.inBlock, Exit.then])
  have hm := ((mid_cell w1 w.heap.size 0 (.slice a1 p.c.length a2)).trans (mid_cell _ w.heap.size 1 (.slice b1 p.h.length b2))).trans (mid_cell _ w.heap.size 2 (.slice c1 p.r.length c2))
  refine bodyPost_ret (v := .agg #[.slice a1 p.c.length a2, .slice b1 p.h.length b2, .slice c1 p.r.length c2]) ?_ rfl ?_
  · rw [results_cell_one rfl]; go_simp
  · have q1 := (O1.out.mid hm (.inr (by simp))).toIn
    have q2 := (O2.out.mid hm (.inr (by simp))).toIn
    have q3 := (O3.out.mid hm (.inr (by simp))).toIn
    exact ⟨_, _, _, p, rfl, ⟨_, _, _, rfl, q1.wide q1.1 (Nat.le_refl _), q2.wide q2.1 (Nat.le_refl _), q3.wide q3.1 (Nat.le_refl _)⟩, hps, ((HB1.out.setCell (p := ⟨w.heap.size, 0, none⟩) (Nat.le_refl _) _).setCell (p := ⟨w.heap.size, 1, none⟩) (Nat.le_refl _) _).setCell (p := ⟨w.heap.size, 2, none⟩) (Nat.le_refl _) _⟩

/-! ### Texts -/
set_option maxHeartbeats 3200000 in
theorem words_any (g k : Nat) (hk : k ≤ 900000000) (w : World) (hc : Cur w g k) :
    Calls Tryd.prog 74 #[.pointer (some ⟨g, 0, none⟩)] w (StrPost w g (k + 1000) 401) := by
  have hs := hc.lt
  obtain ⟨ss, hss⟩ : ∃ ss : List ByteArray, ss = [⟨#[]⟩, ⟨#[97, 98]⟩, ⟨#[118, 111, 116, 101, 32, 102, 111, 114, 32, 110, 111, 98, 111, 100, 121]⟩, ⟨#[97, 44, 98, 59, 99]⟩, ⟨#[10]⟩] := ⟨_, rfl⟩
  have hal := ba w (.cells (ss.map Value.string).toArray 9)
  have hz := strs_lit w ss 9
  have hm : ∀ s ∈ ss, s.size ≤ 40 := by subst hss; decide
  have hn : ss.length = 5 := by subst hss; rfl
  have HC := Lib.hid (hc.below hal)
  have HG := Lib.hid (grown_below hal (some g))
  have hof := of_any g k 5 w.heap.size ss 40 (by omega) hn (by decide) (by decide) (by omega) hm _ hz HC.out
  have HOF := Lib.hid hof
  clear hc hal hz hm hn hof
  go_enter Tryd.func74, Tryd.ntmps74
  go_wp2_with fail
  subst hss
  refine HOF.out.mono ?_
  rintro e w1 ⟨s, rfl, hsz, hc1, hg1⟩
  have HC1 := Lib.hid hc1
  have HG1 := Lib.hid (grown_trans HG.out hg1)
  clear hc1 hg1 HOF
  go_wp2_with fail
  refine (one_any g _ 16 (by omega) (by omega) _ HC1.out).mono ?_
  rintro e w2 ⟨b, rfl, hc2, hg2⟩
  have HC2 := Lib.hid hc2
  have HG2 := Lib.hid (grown_trans HG1.out hg2)
  clear hc2 hg2
  cases b
  · go_wp2
    go_ret
    exact ⟨s, rfl, by omega, HC2.out.mono (by omega), HG2.out⟩
  · go_wp2
    go_loopw [3] (fun S wr => ∃ q : ByteArray, S = .string q ∧ q.size ≤ 401 ∧ Cur wr g (k + 4 + 2 * q.size) ∧ w.grownBy wr (some g)) (fun S _ => match S with | .string q => 402 - q.size | _ => 0)
    case atStart => exact ⟨s, rfl, by omega, HC2.out.mono (by omega), HG2.out⟩
    case round =>
      obtain ⟨q, rfl, hq, hcr, hgr⟩ := hrel
      have HCr := Lib.hid hcr
      have HGr := Lib.hid hgr
      clear hcr hgr
      go_wp2_with fail
      refine (pick_any g _ 4 (by omega) (by omega) _ HCr.out).mono ?_
      rintro e w3 ⟨y, rfl, hy, hc3, hg3⟩
      have hy0 : 0 ≤ y := hy.1
      have hy1 : y ≤ 3 := by omega
      have HC3 := Lib.hid hc3
      have HG3 := Lib.hid (grown_trans HGr.out hg3)
      clear hc3 hg3 hy
      by_cases hlt : (q.size : Int) < 398 + y
      · obtain ⟨r, hr⟩ : ∃ r : ByteArray, r = q ++ ⟨#[122]⟩ := ⟨_, rfl⟩
        have hrs : r.size = q.size + 1 := by rw [hr, ByteArray.size_append]; rfl
        go_wp2
        rw [← hr]
        refine ⟨⟨r, rfl, by omega, HC3.out.mono (by omega), HG3.out⟩, ?_⟩
        show 402 - r.size < 402 - q.size
        omega
      · go_wp2
        go_ret
        exact ⟨q, rfl, by omega, HC3.out.mono (by omega), HG3.out⟩

theorem drawEncodeText_any (ad : Option Addr) (n cap : Nat) (w : World) (hb : IsB w ad n) :
    Calls Tryd.prog 33 #[.slice ad n cap] w fun e w' => ∃ s : ByteArray, e = .returned (.string s) ∧ s.size ≤ 401 ∧ Below w.heap.size w w' := by
  have HC := Lib.hid (cur_new w ad n cap hb 64)
  have hal := ba w (.cells #[.slice ad n cap, .int .i64 0, .int .u64 0] 64)
  have HB := Lib.hid hal
  clear hb hal
  go_enter Tryd.func33, Tryd.ntmps33
  go_wp2_with fail
  refine (words_any w.heap.size 0 (by omega) _ HC.out).mono ?_
  rintro e w1 ⟨s, rfl, hs, hc1, hg1⟩
  have HB1 := Lib.hid (below_cur HB.out hg1)
  clear hc1 hg1
  go_wp2
  go_ret
  exact ⟨s, rfl, hs, HB1.out⟩

/-! ### Lists of lists -/
def DrawJn (w : World) (e : Ending) (w' : World) : Prop :=
  ∃ (v : Value) (zss : List (List Int)), e = .returned v ∧ InS w'.heap.size w' v zss ∧ zss.length ≤ 3 ∧ nS zss ≤ 1203 ∧ Below w.heap.size w w'
set_option maxRecDepth 100000 in
set_option maxHeartbeats 3200000 in
theorem drawJoinRecords_any (ad : Option Addr) (n cap : Nat) (w : World) (hb : IsB w ad n) :
    Calls Tryd.prog 22 #[.slice ad n cap] w (DrawJn w) := by
  have HC := Lib.hid (cur_new w ad n cap hb 64)
  have hal := ba w (.cells #[.slice ad n cap, .int .i64 0, .int .u64 0] 64)
  have HB := Lib.hid hal
  obtain ⟨i0, hi, hz0, hz1, hz2⟩ := info_parts Tryd.infoSL
  clear hb hal
  go_enter Tryd.func22, Tryd.ntmps22
  go_wp2_with fail
  refine (pick_any w.heap.size 0 4 (by omega) (by omega) _ HC.out).mono ?_
  rintro e w1 ⟨x1, rfl, hx1, hc1, hg1⟩
  have hx10 : 0 ≤ x1 := hx1.1
  have hx11 : x1 ≤ 3 := by omega
  obtain ⟨j1, rfl⟩ := Int.eq_ofNat_of_zero_le hx10
  have HC1 := Lib.hid hc1
  have HB1 := Lib.hid (below_cur HB.out hg1)
  have hw1 := hc1.lt
  clear hc1 hg1 hx1
  go_wp2
  go_loopw [4, 5] (fun V K wr => ∃ (j k : Nat) (va : Option Addr) (vc : Nat) (vs : List Value) (acc : List (List Int)), (j ≤ 3 ∧ k + j ≤ 3) ∧ K = .int .i64 j ∧ V = .slice va k vc ∧ wr.ownsRow (w.heap.size + 1) 24 1 (.slice va k vc) k vs ∧ acc.length = k ∧ nS acc ≤ 401 * k ∧ (∀ (i : Nat) z, acc[i]? = some z → ∃ u, vs[i]? = some u ∧ OwI (w.heap.size + 1) wr.heap.size wr u z) ∧ Cur wr w.heap.size (2 + 40 * (3 - j)) ∧ Below w.heap.size w wr) (fun _ K _ => (intOf K).toNat)
  case atStart => exact ⟨j1, 0, none, 0, [], [], by omega, rfl, rfl, World.ownsRow_nil _ _ _ _, rfl, by simp [nS], (by intro i z h; simp at h), HC1.out.mono (by omega), HB1.out⟩
  case round =>
    obtain ⟨j, k, va, vc, vs, acc, ⟨hj0, hj1⟩, rfl, rfl, hown, hacc, hns, hrows, hcr, hbr⟩ := hrel
    have HO := Lib.hid hown
    have HCr := Lib.hid hcr
    have HBr := Lib.hid hbr
    have HROW := Lib.hid hrows
    have HNS := Lib.hid hns
    have HACC := Lib.hid hacc
    have hvl : vs.length = k := by have := hown.1; simpa using this
    have HVL := Lib.hid hvl
    have hwr := hcr.lt
    clear hown hcr hbr hrows hns hacc hvl
    by_cases hj : 0 < j
    · have hji : (0 : Int) < (j : Int) := by omega
      go_wp2_with fail
      refine (digests_any w.heap.size _ (by omega) _ HCr.out).mono ?_
      rintro e w2 ⟨a2, n2, c2, z2, rfl, ho2, hn2, hc2, hg2⟩
      have hsz2 := hg2.size
      have hl2 : z2.length = n2 := by have := ho2.1; simpa using this
      have hal := ba w2 (.cells #[.slice a2 n2 c2] 24)
      have HO1 := Lib.hid (own_below (own_cur HO.out hg2 (by omega)) hal)
      have HOA := Lib.hid ((owI_mk (own_base (base' := w.heap.size + 1) ho2 (by omega)) (by omega)).below hal)
      have HR1 := Lib.hid (fun (i : Nat) z (hz : acc[i]? = some z) => (fun ⟨u, hu, ho⟩ => ⟨u, hu, ((ho.gone hg2 (by omega)).below hal).wide (Nat.le_refl _) (Nat.le_trans hg2.size hal.size) (Nat.le_refl _)⟩ : _ → ∃ u, vs[i]? = some u ∧ OwI (w.heap.size + 1) _ _ u z) (HROW.out i z hz))
      have HC2 := Lib.hid (hc2.below hal)
      have HB2 := Lib.hid (bt (below_cur HBr.out hg2) hal)
      have hs1 : w.heap.size + 1 ≤ (w2.alloc (.cells #[.slice a2 n2 c2] 24)).heap.size := by have := hal.size; omega
      have HL2 := Lib.hid hl2
      have hsal := hal.size
      clear ho2 hc2 hg2 hal hl2
      go_wp2_with (at_builtin; refine wpList_append_own _ rfl _ _ 46 rfl (w.heap.size + 1) 24 i0 (.slice none 0 0) 1 24 Tryd.underlying46 hi hz0 hz1 hz2 rfl (by decide) _ k vs rfl HO1.out ⟨w2.heap.size, 0, none⟩ 1 1 [.slice a2 n2 c2] rfl rfl (cell_one_new _ _ _) (by intro u hu; simp at hu; subst hu; rfl) (by unfold maxLen; omega) (by omega) hs1 ?_; intro v' w3 hown' hgrow _; obtain ⟨va', vc', rfl⟩ := own_shape hown'; have HO3 := Lib.hid hown'; have HOA3 := Lib.hid (owI_out HOA.out HO1.out hgrow); have HR3 := Lib.hid (fun (i : Nat) z (hz : acc[i]? = some z) => (fun ⟨u, hu, ho⟩ => ⟨u, hu, (owI_out ho HO1.out hgrow).wide (Nat.le_refl _) hgrow.size (Nat.le_refl _)⟩ : _ → ∃ u, vs[i]? = some u ∧ OwI (w.heap.size + 1) w3.heap.size w3 u z) (HR1.out i z hz)); have HB3 := Lib.hid (HB2.out.grown hgrow HB2.out.size (fun q hq => by have := (HO1.out.lt q hq).1; omega)); have HC3 := Lib.hid (HC2.out.above hgrow (Nat.lt_succ_self _) (fun q hq => (HO1.out.lt q hq).1)); have hgs := hgrow.size; clear hown' hgrow)
      go_roundw
      case rel =>
        exact ⟨j - 1, k + 1, va', vc', vs ++ [.slice a2 n2 c2], acc ++ [z2], by omega, by rw [show ((j - 1 : Nat) : Int) = (j : Int) - 1 by omega], rfl, HO3.out, by simp [HACC.out], by have := HNS.out; have := HL2.out; rw [nS_append, show nS [z2] = z2.length by simp [nS]]; omega, rows_snoc HR3.out (by rw [HVL.out, HACC.out]) (HOA3.out.wide (Nat.le_refl _) (by omega) (Nat.le_refl _)), HC3.out.mono (by omega), HB3.out⟩
      case measure => simp only [intOf]; omega
    · have hji : ¬ (0 : Int) < (j : Int) := by omega
      go_wp2
      go_ret
      exact ⟨_, acc, rfl, inS_of_rows HO.out HACC.out HROW.out, by have := HACC.out; omega, by have := HNS.out; omega, HBr.out⟩

end Go.Proofs.YtmiohdibbpckaaaDoor

