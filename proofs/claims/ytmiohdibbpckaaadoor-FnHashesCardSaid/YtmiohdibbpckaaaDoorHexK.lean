/- What the laws of layer 3 draw: digests and labels. -/
import Derived.Test.YtmiohdibbpckaaaDoorDrG9
import Derived.Test.YtmiohdibbpckaaaDoorHshD
namespace Go.Proofs.YtmiohdibbpckaaaDoor
open Go.RowKit

def DigPost (w : World) (g k : Nat) (e : Ending) (w' : World) : Prop :=
  ∃ x : Int, e = .returned (.int .i64 x) ∧ (-1 ≤ x ∧ x ≤ 4611686018427387904) ∧ Cur w' g k ∧ w.grownBy w' (some g)

theorem hlist_nn (zs : List Int) : 0 ≤ hlist zs ∧ hlist zs ≤ 4611686018427387903 := hdig_bd _

set_option maxHeartbeats 1600000 in
theorem digest_any (g k : Nat) (hk : k ≤ 900000000) (w : World) (hc : Cur w g k) :
    Calls Tryd.prog 78 #[.pointer (some ⟨g, 0, none⟩)] w (DigPost w g (k + 4)) := by
  have HC := Lib.hid hc
  clear hc
  go_enter Tryd.func78, Tryd.ntmps78
  go_wp2_with fail
  refine (pick_any g k 16 (by omega) (by omega) _ HC.out).mono ?_
  rintro e w1 ⟨x, rfl, hx, hc1, hg1⟩
  have HC1 := Lib.hid hc1
  have HG1 := Lib.hid hg1
  clear hc1 hg1
  by_cases h0 : x = 0
  · subst h0
    have hal := ba w1 (.cells #[.int .i64 (-1), .int .i64 4611686018427387903, .int .i64 4611686018427387904, .int .i64 2147483648, .int .i64 2147483647, .int .i64 2147483647] 3)
    have hs := HC1.out.lt
    have HC2 := Lib.hid (HC1.out.below hal)
    have HG2 := Lib.hid (grown_trans HG1.out (grown_below hal (some g)))
    clear hal
    go_wp2_with fail
    refine (among_any g _ _ _ _ [-1, 4611686018427387903, 4611686018427387904, 2147483648, 2147483647, 2147483647] (by omega) rfl (by simp) (by simp) (by rintro a ⟨⟩; simp; omega) _ (ints_lit w1 [-1, 4611686018427387903, 4611686018427387904, 2147483648, 2147483647, 2147483647] 3) HC2.out).mono ?_
    rintro e w3 ⟨y, rfl, hy, hc3, hg3⟩
    have HY := Lib.hid (show -1 ≤ y ∧ y ≤ 4611686018427387904 from by simp at hy; omega)
    have HC3 := Lib.hid hc3
    have HG3 := Lib.hid (grown_trans HG2.out hg3)
    clear hc3 hg3 hy
    go_wp2
    go_ret
    exact ⟨y, rfl, HY.out, HC3.out, HG3.out⟩
  · by_cases h3 : x ≤ 3
    · have h123 : x = 1 ∨ x = 2 ∨ x = 3 := by omega
      rcases h123 with rfl | rfl | rfl
      all_goals (
        go_wp2_with fail
        refine (pick_any g _ 60000 (by omega) (by omega) _ HC1.out).mono ?_
        rintro e w2 ⟨y, rfl, hy, hc2, hg2⟩
        have hy0 : 0 ≤ y := hy.1
        have hy1 : y < 60000 := by omega
        have hal := ba w2 (.cells #[.int .i64 y] 3)
        have HC2 := Lib.hid (hc2.below hal)
        have HG2 := Lib.hid (grown_trans (grown_trans HG1.out hg2) (grown_below hal (some g)))
        clear hc2 hg2 hy hal
        go_wp2_with fail
        refine (shInts_any _ 1 1 [y] rfl (by decide) (by simp; omega) _ (ints_lit w2 [y] 3)).mono ?_
        rintro e w3 ⟨rfl, hb3⟩
        have HC3 := Lib.hid (HC2.out.below hb3)
        have HG3 := Lib.hid (grown_trans HG2.out (grown_below hb3 (some g)))
        clear hb3
        go_wp2
        go_ret
        exact ⟨_, rfl, by have := hlist_nn [y]; omega, HC3.out, HG3.out⟩)
    · have h1 : ¬ x = 1 := by omega
      have h2 : ¬ x = 2 := by omega
      have h4 : ¬ x = 3 := by omega
      go_wp2_with fail
      refine (pick_any g _ 200 (by omega) (by omega) _ HC1.out).mono ?_
      rintro e w2 ⟨y, rfl, hy, hc2, hg2⟩
      have HY := Lib.hid (show -1 ≤ y ∧ y ≤ 4611686018427387904 from by omega)
      have HC2 := Lib.hid hc2
      have HG2 := Lib.hid (grown_trans HG1.out hg2)
      clear hc2 hg2 hy
      go_wp2
      go_ret
      exact ⟨y, rfl, HY.out, HC2.out, HG2.out⟩

def StrPost (w : World) (g k : Nat) (most : Nat) (e : Ending) (w' : World) : Prop :=
  ∃ s : ByteArray, e = .returned (.string s) ∧ s.size ≤ most ∧ Cur w' g k ∧ w.grownBy w' (some g)

set_option maxHeartbeats 800000 in
theorem of_any (g k n b : Nat) (ss : List ByteArray) (most : Nat) (hk : k ≤ 100000000000) (hn : ss.length = n) (h0 : 0 < n) (hl : n ≤ 1000) (hne : b ≠ g) (hm : ∀ s ∈ ss, s.size ≤ most) (w : World)
    (hz : ∀ i (h : i < ss.length), w.cell? ⟨b, i, none⟩ = some (.string ss[i])) (hc : Cur w g k) :
    Calls Tryd.prog 87 #[.pointer (some ⟨g, 0, none⟩), .slice (some ⟨b, 0, none⟩) n n] w (StrPost w g (k + 2) most) := by
  have HC := Lib.hid hc
  have HN := Lib.hid hn
  have HM := Lib.hid hm
  clear hc hn hm
  go_enter Tryd.func87, Tryd.ntmps87
  go_wp2_with fail
  refine (pick_any g k n hk (by omega) _ HC.out).mono ?_
  rintro e w1 ⟨x, rfl, hx, hc1, hg1⟩
  have hx0 : 0 ≤ x := hx.1
  have hxn : x < (n : Int) := by omega
  obtain ⟨i, rfl⟩ := Int.eq_ofNat_of_zero_le hx0
  have hi : i < ss.length := by have := HN.out; omega
  have hcell : w1.cell? ⟨b, i, none⟩ = some (.string ss[i]) := hg1.cell (a := ⟨b, i, none⟩) (hz i hi) (by simpa using hne)
  have HS := Lib.hid (HM.out _ (List.getElem_mem hi))
  generalize ss[i] = s at hcell HS
  have HC1 := Lib.hid hc1
  have HG1 := Lib.hid hg1
  clear hc1 hg1 hx hz
  go_wp2
  go_ret
  exact ⟨s, rfl, HS.out, HC1.out, HG1.out⟩

theorem strs_lit (w : World) (ss : List ByteArray) (t : TypeId) : ∀ i (h : i < ss.length), (w.alloc (.cells (ss.map Value.string).toArray t)).cell? ⟨w.heap.size, i, none⟩ = some (.string ss[i]) := fun i h => by
  rw [World.cell?_alloc_at _ _ _ _ rfl]
  simp [h]

set_option maxHeartbeats 3200000 in
theorem label_any (g k : Nat) (hk : k ≤ 900000000) (w : World) (hc : Cur w g k) :
    Calls Tryd.prog 51 #[.pointer (some ⟨g, 0, none⟩)] w (StrPost w g (k + 200) 41) := by
  have hs := hc.lt
  obtain ⟨ss, hss⟩ : ∃ ss : List ByteArray, ss = [⟨#[]⟩, ⟨#[97]⟩, ⟨#[118, 111, 116, 101]⟩, ⟨#[109, 105, 120]⟩, ⟨#[98, 111, 97, 114, 100, 32, 49]⟩, ⟨#[107, 101, 121]⟩, ⟨#[108, 111, 110, 103, 32, 108, 97, 98, 101, 108, 32, 119, 105, 116, 104, 32, 115, 101, 118, 101, 114, 97, 108, 32, 119, 111, 114, 100, 115, 32, 105, 110, 32, 105, 116]⟩] := ⟨_, rfl⟩
  have hal := ba w (.cells (ss.map Value.string).toArray 9)
  have hz := strs_lit w ss 9
  have hm : ∀ s ∈ ss, s.size ≤ 40 := by subst hss; decide
  have hn : ss.length = 7 := by subst hss; rfl
  have HC := Lib.hid (hc.below hal)
  have HG := Lib.hid (grown_below hal (some g))
  have hof := of_any g k 7 w.heap.size ss 40 (by omega) hn (by decide) (by decide) (by omega) hm _ hz HC.out
  have HOF := Lib.hid hof
  clear hc hal hz hm hn hof
  go_enter Tryd.func51, Tryd.ntmps51
  go_wp2_with fail
  subst hss
  refine HOF.out.mono ?_
  rintro e w1 ⟨s, rfl, hsz, hc1, hg1⟩
  have HC1 := Lib.hid hc1
  have HG1 := Lib.hid (grown_trans HG.out hg1)
  clear hc1 hg1 HOF
  go_wp2_with fail
  refine (one_any g _ 16 (by omega) (by omega) _ HC1.out).mono ?_
  rintro e w2 ⟨b, rfl, hc2, hg2⟩
  have HC2 := Lib.hid hc2
  have HG2 := Lib.hid (grown_trans HG1.out hg2)
  clear hc2 hg2
  cases b
  · go_wp2
    go_ret
    exact ⟨s, rfl, by omega, HC2.out.mono (by omega), HG2.out⟩
  · go_wp2
    go_loopw [3] (fun S wr => ∃ q : ByteArray, S = .string q ∧ q.size ≤ 41 ∧ Cur wr g (k + 4 + 2 * q.size) ∧ w.grownBy wr (some g)) (fun S _ => match S with | .string q => 42 - q.size | _ => 0)
    case atStart => exact ⟨s, rfl, by omega, HC2.out.mono (by omega), HG2.out⟩
    case round =>
      obtain ⟨q, rfl, hq, hcr, hgr⟩ := hrel
      have HCr := Lib.hid hcr
      have HGr := Lib.hid hgr
      clear hcr hgr
      go_wp2_with fail
      refine (pick_any g _ 2 (by omega) (by omega) _ HCr.out).mono ?_
      rintro e w3 ⟨y, rfl, hy, hc3, hg3⟩
      have hy0 : 0 ≤ y := hy.1
      have hy1 : y ≤ 1 := by omega
      have HC3 := Lib.hid hc3
      have HG3 := Lib.hid (grown_trans HGr.out hg3)
      clear hc3 hg3 hy
      by_cases hlt : (q.size : Int) < 40 + y
      · obtain ⟨r, hr⟩ : ∃ r : ByteArray, r = q ++ ⟨#[120]⟩ := ⟨_, rfl⟩
        have hrs : r.size = q.size + 1 := by rw [hr, ByteArray.size_append]; rfl
        go_wp2
        rw [← hr]
        refine ⟨⟨r, rfl, by omega, HC3.out.mono (by omega), HG3.out⟩, ?_⟩
        show 42 - r.size < 42 - q.size
        omega
      · go_wp2
        go_ret
        exact ⟨q, rfl, by omega, HC3.out.mono (by omega), HG3.out⟩
end Go.Proofs.YtmiohdibbpckaaaDoor

