/- Points are drawn; DrawInterpolate, DrawPolyFromRoots. -/
import Derived.Test.YtipfckfjelignaaPolV
import Derived.Deep.AppendLies
namespace Go.Proofs.Ytipfckfjelignaa
open Go.RowKit

/-- Two rows that lie in different blocks. -/
def Apart (va va' : Option Addr) : Prop := ∀ a a', va = some a → va' = some a' → a.block ≠ a'.block
theorem Apart.symm {va va' : Option Addr} (h : Apart va va') : Apart va' va := fun a a' h1 h2 => (h a' a h2 h1).symm
theorem apart_ne {va va' : Option Addr} {n c : Nat} (h : Apart va va') : ∀ a', va' = some a' → some a'.block ≠ (Value.slice va n c).ownBlock := by
  intro a' ha' he
  cases va with
  | none => simp [Value.ownBlock] at he
  | some a =>
    simp only [Value.ownBlock, Option.some.injEq] at he
    exact h a a' rfl ha' he.symm
theorem apart_new {va va' : Option Addr} {n c g H : Nat} (h : Apart va va') (hat : (Value.slice va n c).ownBlock = some g ∨ g = H) (hb : ∀ a', va' = some a' → a'.block < H) : Apart (some ⟨g, 0, none⟩) va' := by
  rintro a a' ⟨⟩ ha'
  rcases hat with hat | rfl
  · cases va with
    | none => simp [Value.ownBlock] at hat
    | some a =>
      simp only [Value.ownBlock, Option.some.injEq] at hat
      show g ≠ a'.block
      rw [← hat]; exact h a a' rfl ha'
  · have := hb a' ha'
    show g ≠ a'.block
    omega
theorem own_lt {w : World} {base n cap m : Nat} {ad : Option Addr} {e : TypeId} {size : Nat} {xs : List Value} (h : w.ownsRow base e size (.slice ad n cap) m xs) : ∀ a, ad = some a → base ≤ a.block ∧ a.block < w.heap.size := by
  rintro a rfl
  exact h.lt a.block rfl

def PointsPost (w : World) (g : Nat) (e : Ending) (w' : World) : Prop :=
  ∃ (v v' : Value) (xs ys : List Int), e = .returned (.tuple #[v, v']) ∧ InI w'.heap.size w' v xs ∧ InI w'.heap.size w' v' ys ∧ xs.length ≤ 8 ∧ ys.length ≤ 8 ∧ w.grownBy w' (some g)

set_option maxRecDepth 20000 in
set_option maxHeartbeats 6400000 in
theorem points_any (g k : Nat) (q : Int) (hk : k ≤ 100000000) (hm0 : -5 ≤ q) (hm1 : q ≤ 2000000011) (w : World) (hc : Cur w g k) :
    Calls Try.prog 91 #[.pointer (some ⟨g, 0, none⟩), .int .i64 q] w (PointsPost w g) := by
  have HC := Lib.hid hc
  have hgl := hc.lt
  obtain ⟨i0, hi, hz0, hz1, hz2⟩ := info_parts Try.info3
  clear hc
  go_enter Try.func91, Try.ntmps91
  go_wp2_with fail
  refine (pick_any g k _ (by omega) (by omega) _ HC.out).mono ?_
  rintro e w1 ⟨x1, rfl, hx1, hc1, hg1⟩
  have hx10 : 0 ≤ x1 := hx1.1
  have hx11 : x1 ≤ 4 := by omega
  obtain ⟨j0, hj0⟩ : ∃ j0 : Nat, 1 + x1 = (j0 : Int) := ⟨(1 + x1).toNat, by omega⟩
  have hj1 : 1 ≤ j0 ∧ j0 ≤ 5 := by omega
  obtain ⟨hj1, hj5⟩ := hj1
  have HC1 := Lib.hid hc1
  have HG1 := Lib.hid hg1
  clear hc1 hg1 hx1
  go_wp2_with fail
  go_loopw [6, 7, 8] (fun V V' K wr => ∃ (j n m : Nat) (va va' : Option Addr) (vc vc' : Nat) (xs ys : List Int), (j ≤ j0 ∧ n + j ≤ j0 ∧ m + j ≤ j0) ∧ (j = j0 ∧ n = 0 ∨ 0 < m) ∧ V = .slice va n vc ∧ V' = .slice va' m vc' ∧ K = .int .i64 j ∧
    wr.ownsRow w.heap.size 3 1 (.slice va n vc) n (xs.map (Value.int .i64)) ∧ wr.ownsRow w.heap.size 3 1 (.slice va' m vc') m (ys.map (Value.int .i64)) ∧ Apart va va' ∧ Cur wr g (k + 2 + 6 * (j0 - j)) ∧ w.grownBy wr (some g)) (fun _ _ K _ => (intOf K).toNat)
  case atStart => exact ⟨j0, 0, 0, none, none, 0, 0, [], [], by omega, .inl ⟨rfl, rfl⟩, rfl, rfl, by rw [← hj0], World.ownsRow_nil _ _ _ _, World.ownsRow_nil _ _ _ _, (fun a a' h => by cases h), HC1.out.mono (by omega), HG1.out⟩
  case round =>
    obtain ⟨j, n, m, va, va', vc, vc', xs, ys, ⟨hja, hjb, hjc⟩, hst, rfl, rfl, rfl, hox, hoy, hap, hcr, hgr⟩ := hrel
    have HOX := Lib.hid hox
    have HOY := Lib.hid hoy
    have HAP := Lib.hid hap
    have HCr := Lib.hid hcr
    have HGr := Lib.hid hgr
    have HST := Lib.hid hst
    clear hox hoy hap hcr hgr hst HC1 HG1
    by_cases hj : 0 < j
    · have hji : (0 : Int) < (j : Int) := by omega
      go_wp2_with fail
      refine (l1Least_any _ _ _).mono ?_
      rintro e w' ⟨rfl, rfl⟩
      go_wp2_with fail
      refine (l1Most_any _ _ _).mono ?_
      rintro e w' ⟨rfl, rfl⟩
      go_wp2_with fail
      refine (pick_any g _ _ (by omega) (by omega) _ HCr.out).mono ?_
      rintro e w2 ⟨x, rfl, _, hc2, hg2⟩
      have HOX2 := Lib.hid (own_cur HOX.out hg2 hgl)
      have HOY2 := Lib.hid (own_cur HOY.out hg2 hgl)
      have HC2 := Lib.hid hc2
      have HG2 := Lib.hid (grown_trans HGr.out hg2)
      obtain ⟨hzx, hlx, _⟩ := ints_of_own_any HOX2.out
      have HZX := Lib.hid hzx
      have HLX := Lib.hid hlx
      clear hc2 hg2 hzx hlx HOX HOY HCr HGr
      go_wp2_with fail
      refine (l1Has_any va n vc xs x HLX.out (by omega) _ HZX.out).mono ?_
      rintro e w' ⟨rfl, rfl⟩
      by_cases hxm : x ∈ xs
      · have h0m : 0 < m := by
          rcases HST.out with ⟨_, h⟩ | h
          · have := HLX.out
            rw [h] at this
            rw [List.eq_nil_of_length_eq_zero this] at hxm
            simp at hxm
          · exact h
        rw [decide_eq_true hxm]
        clear hxm
        go_wp2_with fail
        refine (one_any g _ _ (by omega) (by omega) _ HC2.out).mono ?_
        rintro e w3 ⟨b, rfl, hc3, hg3⟩
        have HOX3 := Lib.hid (own_cur HOX2.out hg3 hgl)
        have HOY3 := Lib.hid (own_cur HOY2.out hg3 hgl)
        have HC3 := Lib.hid hc3
        have HG3 := Lib.hid (grown_trans HG2.out hg3)
        clear hc3 hg3 HOX2 HOY2 HC2 HG2 HZX
        cases b
        · go_wp2
          go_roundw
          case rel => exact ⟨j - 1, n, m, va, va', vc, vc', xs, ys, by omega, .inr h0m, rfl, rfl, by rw [show ((j - 1 : Nat) : Int) = (j : Int) - 1 by omega], HOX3.out, HOY3.out, HAP.out, HC3.out.mono (by omega), HG3.out⟩
          case measure => simp only [intOf]; omega
        · go_wp2_with (at_builtin
                       refine wpList_append_lies _ rfl _ _ 27 rfl w.heap.size 3 i0 (.int .i64 0) 1 8 Try.underlying27 hi hz0 hz1 hz2 rfl (by decide) _ _ _ rfl (HOX3.out.alloc _) ⟨w3.heap.size, 0, none⟩ 1 1 [.int .i64 x] rfl rfl (cell_one_new _ _ _) (ints_oneCell .i64 [x]) (by decide) (by unfold maxLen; omega) (by omega) (by have := HG3.out.size; simp; omega) (w3.heap.size + 1) (by simp) ?_
                       intro g5 c5 w5 hown5 hgr5 hat5 hlt5
                       have hr5 : ∀ q, (Value.slice va n vc).ownBlock = some q → w.heap.size ≤ q := fun q hq => (HOX3.out.lt q hq).1
                       have hal5 := ba w3 (.cells #[.int .i64 x] 3)
                       have HOX5 := Lib.hid (show w5.ownsRow w.heap.size 3 1 (.slice (some ⟨g5, 0, none⟩) (n + 1) c5) (n + 1) ((xs ++ [x]).map (Value.int .i64)) by rw [List.map_append]; exact hown5)
                       have HOY5 := Lib.hid (own_ne (HOY3.out.alloc (.cells #[.int .i64 x] 3)) hgr5 (apart_ne HAP.out))
                       have HAP5 := Lib.hid (apart_new HAP.out hat5 (fun a' ha' => by have := (own_lt HOY3.out a' ha').2; omega))
                       have HC5 := Lib.hid ((HC3.out.below hal5).above hgr5 hgl hr5)
                       have HG5 := Lib.hid (grown_own (grown_trans HG3.out (grown_below hal5 _)) hgr5 hr5)
                       clear hown5 hgr5 hat5 hlt5 hr5 hal5 HOX3 HOY3 HC3 HG3 HAP)
          go_wp2_with fail
          refine (l1Least_any _ _ _).mono ?_
          rintro e w' ⟨rfl, rfl⟩
          go_wp2_with fail
          refine (l1Most_any _ _ _).mono ?_
          rintro e w' ⟨rfl, rfl⟩
          go_wp2_with fail
          refine (pick_any g _ _ (by omega) (by omega) _ HC5.out).mono ?_
          rintro e w6 ⟨y, rfl, _, hc6, hg6⟩
          have HOX6 := Lib.hid (own_cur HOX5.out hg6 hgl)
          have HOY6 := Lib.hid (own_cur HOY5.out hg6 hgl)
          have HC6 := Lib.hid hc6
          have HG6 := Lib.hid (grown_trans HG5.out hg6)
          clear hc6 hg6 HOX5 HOY5 HC5 HG5
          go_wp2_with (at_builtin
                       refine wpList_append_lies _ rfl _ _ 27 rfl w.heap.size 3 i0 (.int .i64 0) 1 8 Try.underlying27 hi hz0 hz1 hz2 rfl (by decide) _ _ _ rfl (HOY6.out.alloc _) ⟨w6.heap.size, 0, none⟩ 1 1 [.int .i64 y] rfl rfl (cell_one_new _ _ _) (ints_oneCell .i64 [y]) (by decide) (by unfold maxLen; omega) (by omega) (by have := HG6.out.size; simp; omega) (w6.heap.size + 1) (by simp) ?_
                       intro g7 c7 w7 hown7 hgr7 hat7 hlt7
                       have hr7 : ∀ q, (Value.slice va' m vc').ownBlock = some q → w.heap.size ≤ q := fun q hq => (HOY6.out.lt q hq).1
                       have hal7 := ba w6 (.cells #[.int .i64 y] 3)
                       have HOY7 := Lib.hid (show w7.ownsRow w.heap.size 3 1 (.slice (some ⟨g7, 0, none⟩) (m + 1) c7) (m + 1) ((ys ++ [y]).map (Value.int .i64)) by rw [List.map_append]; exact hown7)
                       have HOX7 := Lib.hid (own_ne (HOX6.out.alloc (.cells #[.int .i64 y] 3)) hgr7 (apart_ne HAP5.out.symm))
                       have HAP7 := Lib.hid (apart_new HAP5.out.symm hat7 (fun a' ha' => by have := (own_lt HOX6.out a' ha').2; omega)).symm
                       have HC7 := Lib.hid ((HC6.out.below hal7).above hgr7 hgl hr7)
                       have HG7 := Lib.hid (grown_own (grown_trans HG6.out (grown_below hal7 _)) hgr7 hr7)
                       clear hown7 hgr7 hat7 hlt7 hr7 hal7 HOX6 HOY6 HC6 HG6 HAP5)
          go_roundw
          case rel => exact ⟨j - 1, n + 1, m + 1, _, _, c5, c7, xs ++ [x], ys ++ [y], by omega, .inr (by omega), rfl, rfl, by rw [show ((j - 1 : Nat) : Int) = (j : Int) - 1 by omega], HOX7.out, HOY7.out, HAP7.out, HC7.out.mono (by omega), HG7.out⟩
          case measure => simp only [intOf]; omega
      · rw [decide_eq_false hxm]
        clear hxm
        go_wp2_with (at_builtin
                     refine wpList_append_lies _ rfl _ _ 27 rfl w.heap.size 3 i0 (.int .i64 0) 1 8 Try.underlying27 hi hz0 hz1 hz2 rfl (by decide) _ _ _ rfl (HOX2.out.alloc _) ⟨w2.heap.size, 0, none⟩ 1 1 [.int .i64 x] rfl rfl (cell_one_new _ _ _) (ints_oneCell .i64 [x]) (by decide) (by unfold maxLen; omega) (by omega) (by have := HG2.out.size; simp; omega) (w2.heap.size + 1) (by simp) ?_
                     intro g5 c5 w5 hown5 hgr5 hat5 hlt5
                     have hr5 : ∀ q, (Value.slice va n vc).ownBlock = some q → w.heap.size ≤ q := fun q hq => (HOX2.out.lt q hq).1
                     have hal5 := ba w2 (.cells #[.int .i64 x] 3)
                     have HOX5 := Lib.hid (show w5.ownsRow w.heap.size 3 1 (.slice (some ⟨g5, 0, none⟩) (n + 1) c5) (n + 1) ((xs ++ [x]).map (Value.int .i64)) by rw [List.map_append]; exact hown5)
                     have HOY5 := Lib.hid (own_ne (HOY2.out.alloc (.cells #[.int .i64 x] 3)) hgr5 (apart_ne HAP.out))
                     have HAP5 := Lib.hid (apart_new HAP.out hat5 (fun a' ha' => by have := (own_lt HOY2.out a' ha').2; omega))
                     have HC5 := Lib.hid ((HC2.out.below hal5).above hgr5 hgl hr5)
                     have HG5 := Lib.hid (grown_own (grown_trans HG2.out (grown_below hal5 _)) hgr5 hr5)
                     clear hown5 hgr5 hat5 hlt5 hr5 hal5 HOX2 HOY2 HC2 HG2 HAP)
        go_wp2_with fail
        refine (l1Least_any _ _ _).mono ?_
        rintro e w' ⟨rfl, rfl⟩
        go_wp2_with fail
        refine (l1Most_any _ _ _).mono ?_
        rintro e w' ⟨rfl, rfl⟩
        go_wp2_with fail
        refine (pick_any g _ _ (by omega) (by omega) _ HC5.out).mono ?_
        rintro e w6 ⟨y, rfl, _, hc6, hg6⟩
        have HOX6 := Lib.hid (own_cur HOX5.out hg6 hgl)
        have HOY6 := Lib.hid (own_cur HOY5.out hg6 hgl)
        have HC6 := Lib.hid hc6
        have HG6 := Lib.hid (grown_trans HG5.out hg6)
        clear hc6 hg6 HOX5 HOY5 HC5 HG5
        go_wp2_with (at_builtin
                     refine wpList_append_lies _ rfl _ _ 27 rfl w.heap.size 3 i0 (.int .i64 0) 1 8 Try.underlying27 hi hz0 hz1 hz2 rfl (by decide) _ _ _ rfl (HOY6.out.alloc _) ⟨w6.heap.size, 0, none⟩ 1 1 [.int .i64 y] rfl rfl (cell_one_new _ _ _) (ints_oneCell .i64 [y]) (by decide) (by unfold maxLen; omega) (by omega) (by have := HG6.out.size; simp; omega) (w6.heap.size + 1) (by simp) ?_
                     intro g7 c7 w7 hown7 hgr7 hat7 hlt7
                     have hr7 : ∀ q, (Value.slice va' m vc').ownBlock = some q → w.heap.size ≤ q := fun q hq => (HOY6.out.lt q hq).1
                     have hal7 := ba w6 (.cells #[.int .i64 y] 3)
                     have HOY7 := Lib.hid (show w7.ownsRow w.heap.size 3 1 (.slice (some ⟨g7, 0, none⟩) (m + 1) c7) (m + 1) ((ys ++ [y]).map (Value.int .i64)) by rw [List.map_append]; exact hown7)
                     have HOX7 := Lib.hid (own_ne (HOX6.out.alloc (.cells #[.int .i64 y] 3)) hgr7 (apart_ne HAP5.out.symm))
                     have HAP7 := Lib.hid (apart_new HAP5.out.symm hat7 (fun a' ha' => by have := (own_lt HOX6.out a' ha').2; omega)).symm
                     have HC7 := Lib.hid ((HC6.out.below hal7).above hgr7 hgl hr7)
                     have HG7 := Lib.hid (grown_own (grown_trans HG6.out (grown_below hal7 _)) hgr7 hr7)
                     clear hown7 hgr7 hat7 hlt7 hr7 hal7 HOX6 HOY6 HC6 HG6 HAP5)
        go_roundw
        case rel => exact ⟨j - 1, n + 1, m + 1, _, _, c5, c7, xs ++ [x], ys ++ [y], by omega, .inr (by omega), rfl, rfl, by rw [show ((j - 1 : Nat) : Int) = (j : Int) - 1 by omega], HOX7.out, HOY7.out, HAP7.out, HC7.out.mono (by omega), HG7.out⟩
        case measure => simp only [intOf]; omega
    · have hji : (j : Int) ≤ 0 := by omega
      have h0m : 0 < m := by
        rcases HST.out with ⟨h, _⟩ | h
        · omega
        · exact h
      obtain ⟨gy, cy, hvy, _, hgy⟩ := HOY.out.form h0m
      simp only [Value.slice.injEq] at hvy
      obtain ⟨rfl, _, rfl⟩ := hvy
      go_wp2_with fail
      refine (pick_any g _ _ (by omega) (by omega) _ HCr.out).mono ?_
      rintro e w2 ⟨x, rfl, hx, hc2, hg2⟩
      have hx0 : 0 ≤ x := hx.1
      have hx1 : x ≤ 19 := by omega
      have HOX2 := Lib.hid (own_cur HOX.out hg2 hgl)
      have HOY2 := Lib.hid (own_cur HOY.out hg2 hgl)
      have HC2 := Lib.hid hc2
      have HG2 := Lib.hid (grown_trans HGr.out hg2)
      clear hc2 hg2 hx HOX HOY HCr HGr
      by_cases h0 : x = 0
      · have h0b : (x == 0) = true := by simp [h0]
        clear h0
        go_wp2_with (at_builtin
                     refine wpList_append_lies _ rfl _ _ 27 rfl w.heap.size 3 i0 (.int .i64 0) 1 8 Try.underlying27 hi hz0 hz1 hz2 rfl (by decide) _ _ _ rfl (HOY2.out.alloc _) ⟨w2.heap.size, 0, none⟩ 1 1 [.int .i64 0] rfl rfl (cell_one_new _ _ _) (ints_oneCell .i64 [0]) (by decide) (by unfold maxLen; omega) (by omega) (by have := HG2.out.size; simp; omega) (w2.heap.size + 1) (by simp) ?_
                     intro g3 c3 w3 hown3 hgr3 hat3 hlt3)
        have HOX3 := Lib.hid (own_ne (HOX2.out.alloc (.cells #[.int .i64 0] 3)) hgr3 (apart_ne HAP.out.symm))
        have HOY3 := Lib.hid (show w3.ownsRow w.heap.size 3 1 (.slice (some ⟨g3, 0, none⟩) (m + 1) c3) (m + 1) ((ys ++ [0]).map (Value.int .i64)) by rw [List.map_append]; exact hown3)
        have HG3 := Lib.hid (grown_own (grown_trans HG2.out (grown_below (ba w2 (.cells #[.int .i64 0] 3)) _)) hgr3 (fun q hq => (HOY2.out.lt q hq).1))
        clear hown3 hgr3 hat3 hlt3
        go_wp2
        go_ret2
        exact ⟨_, _, xs, ys ++ [0], rfl, own_inI HOX3.out, own_inI HOY3.out, by rw [own_len HOX3.out]; omega, by rw [own_len HOY3.out]; omega, HG3.out⟩
      · have h0b : (x == 0) = false := by simp [h0]
        clear h0
        by_cases h1 : x = 1
        · have h1b : (x == 1) = true := by simp [h1]
          clear h1
          go_wp2_with fail
          go_ret2
          exact ⟨_, _, [], ys, rfl, own_inI (World.ownsRow_nil _ w.heap.size _ _), own_inI HOY2.out, by simp, by rw [own_len HOY2.out]; omega, HG2.out⟩
        · have h1b : (x == 1) = false := by simp [h1]
          clear h1
          by_cases h2 : x = 2
          · have h2b : (x == 2) = true := by simp [h2]
            clear h2
            go_wp2_with fail
            have hal := ba w2 (.cells ([q, -1].map (Value.int .i64)).toArray 3)
            refine (among_any g _ _ _ _ [q, -1] (by omega) rfl (by simp) (by simp) (by rintro a ⟨⟩; have := HC2.out.lt; simp; omega) _ (ints_lit w2 [q, -1] 3) (HC2.out.below hal)).mono ?_
            rintro e w3 ⟨y, rfl, _, hc3, hg3⟩
            have HOX3 := Lib.hid (own_cur (own_below HOX2.out hal) hg3 hgl)
            have HOY3 := Lib.hid (own_cur (own_below HOY2.out hal) hg3 hgl)
            have HG3 := Lib.hid (grown_trans HG2.out (grown_trans (grown_below hal _) hg3))
            clear hc3 hg3 hal
            obtain ⟨⟨u, hcu⟩, hfu⟩ := own_cell (j := 0) HOY3.out h0m
            have HS := Lib.hid (own_set (j := 0) HOY3.out y)
            have HX4 := Lib.hid (own_ne HOX3.out (grown_cell w3 ⟨gy, 0, none⟩ (.int .i64 y)) (fun a ha => by have := HAP.out a _ ha rfl; simpa using this))
            have HG4 := Lib.hid (grown_own HG3.out (grown_cell w3 ⟨gy, 0, none⟩ (.int .i64 y)) (fun q hq => by cases hq; exact (own_lt HOY3.out _ rfl).1))
            go_wp2
            go_ret2
            exact ⟨_, _, xs, ys.set 0 y, rfl, own_inI HX4.out, own_inI HS.out, by rw [own_len HX4.out]; omega, by rw [own_len HS.out]; omega, HG4.out⟩
          · have h2b : (x == 2) = false := by simp [h2]
            clear h2
            go_wp2_with fail
            go_ret2
            exact ⟨_, _, xs, ys, rfl, own_inI HOX2.out, own_inI HOY2.out, by rw [own_len HOX2.out]; omega, by rw [own_len HOY2.out]; omega, HG2.out⟩

set_option maxHeartbeats 1600000 in
theorem drawInterpolate_any (ad : Option Addr) (n cap : Nat) (w : World) (hb : IsB w ad n) :
    Calls Try.prog 36 #[.slice ad n cap] w (DrawPQ w) := by
  have HC := Lib.hid (cur_new w ad n cap hb 75)
  have HB := Lib.hid (ba w (.cells #[.slice ad n cap, .int .i64 0, .int .u64 0] 75))
  clear hb
  go_enter Try.func36, Try.ntmps36
  go_wp2_with fail
  refine (field_any w.heap.size 0 (by omega) _ HC.out).mono ?_
  rintro e w1 ⟨q, rfl, ⟨hq0, hq1⟩, hc1, hg1⟩
  have HC1 := Lib.hid hc1
  have HB1 := Lib.hid (below_cur HB.out hg1)
  clear hc1 hg1
  go_wp2_with fail
  refine (points_any w.heap.size _ q (by omega) (by omega) hq1 _ HC1.out).mono ?_
  rintro e w2 ⟨v, v', xs, ys, rfl, hx, hy, hlx, hly, hg2⟩
  have HB2 := Lib.hid (below_cur HB1.out hg2)
  have HX := Lib.hid hx
  have HY := Lib.hid hy
  clear hg2 hx hy
  go_wp2
  go_ret3
  exact ⟨q, v, v', xs, ys, rfl, ⟨hq0, hq1⟩, HX.out, HY.out, by omega, by omega, HB2.out⟩

/-- A drawn number and a drawn list. -/
def DrawP1 (w : World) (e : Ending) (w' : World) : Prop :=
  ∃ (q : Int) (v : Value) (fs : List Int), e = .returned (.tuple #[.int .i64 q, v]) ∧ (1 ≤ q ∧ q ≤ 2000000011) ∧ InI w'.heap.size w' v fs ∧ fs.length ≤ 30 ∧ Below w.heap.size w w'

set_option maxHeartbeats 1600000 in
theorem drawDegreeOf_any (ad : Option Addr) (n cap : Nat) (w : World) (hb : IsB w ad n) :
    Calls Try.prog 101 #[.slice ad n cap] w (DrawP1 w) := by
  have HC := Lib.hid (cur_new w ad n cap hb 75)
  have HB := Lib.hid (ba w (.cells #[.slice ad n cap, .int .i64 0, .int .u64 0] 75))
  obtain ⟨i0, hi, hz0, hz1, hz2⟩ := info_parts Try.info3
  clear hb
  go_enter Try.func101, Try.ntmps101
  go_wp2_with fail
  refine (field_any w.heap.size 0 (by omega) _ HC.out).mono ?_
  rintro e w1 ⟨q, rfl, ⟨hq0, hq1⟩, hc1, hg1⟩
  have HC1 := Lib.hid hc1
  have HB1 := Lib.hid (below_cur HB.out hg1)
  clear hc1 hg1
  go_wp2_with fail
  refine (polynomial_any w.heap.size _ q 5 (by omega) (by omega) (by omega) hq1 _ HC1.out).mono ?_
  rintro e w2 ⟨a2, n2, c2, fs, rfl, hown2, hn2, hc2, hg2⟩
  have HC2 := Lib.hid hc2
  have HB2 := Lib.hid (below_cur HB1.out hg2)
  have HO2 := Lib.hid hown2
  clear hc2 hg2 hown2
  go_wp2_with fail
  refine (one_any w.heap.size _ _ (by omega) (by omega) _ HC2.out).mono ?_
  rintro e w3 ⟨b, rfl, hc3, hg3⟩
  have HO3 := Lib.hid (own_base (base' := w.heap.size) (own_cur HO2.out hg3 HC1.out.lt) HB1.out.size)
  have HB3 := Lib.hid (below_cur HB2.out hg3)
  clear hc3 hg3 HO2
  cases b
  · go_wp2
    go_ret2
    exact ⟨q, _, fs, rfl, ⟨hq0, hq1⟩, own_inI HO3.out, by rw [own_len HO3.out]; omega, HB3.out⟩
  · go_wp2_with (at_builtin
                 refine wpList_append_own _ rfl _ _ 27 rfl w.heap.size 3 i0 (.int .i64 0) 1 8 Try.underlying27 hi hz0 hz1 hz2 rfl (by decide) _ _ _ rfl (HO3.out.alloc _) ⟨w3.heap.size, 0, none⟩ 2 2 [.int .i64 0, .int .i64 0] rfl rfl ?c1 (ints_oneCell .i64 [0, 0]) (by unfold maxLen; omega) (by omega) (by have := HB3.out.size; simp; omega) ?_)
    case c1 =>
      intro j u hj
      match j with
      | 0 =>
        simp only [List.getElem?_cons_zero, Option.some.injEq] at hj
        subst hj
        rw [show Addr.add ⟨w3.heap.size, 0, none⟩ 0 = ⟨w3.heap.size, 0, none⟩ by simp [Addr.add]]
        rw [World.cell?_alloc_at _ _ _ _ rfl]; rfl
      | 1 =>
        simp only [List.getElem?_cons_succ, List.getElem?_cons_zero, Option.some.injEq] at hj
        subst hj
        rw [show Addr.add ⟨w3.heap.size, 0, none⟩ 1 = ⟨w3.heap.size, 1, none⟩ by simp [Addr.add]]
        rw [World.cell?_alloc_at _ _ _ _ rfl]; rfl
      | j + 2 => simp at hj
    intro v' w4 hown4 hgr4 _
    obtain ⟨va4, vc4, rfl⟩ := own_shape hown4
    have HO4 := Lib.hid (show w4.ownsRow w.heap.size 3 1 (.slice va4 (n2 + 2) vc4) (n2 + 2) ((fs ++ [0, 0]).map (Value.int .i64)) by rw [List.map_append]; exact hown4)
    have HB4 := Lib.hid ((HB3.out.alloc HB3.out.size (.cells #[.int .i64 0, .int .i64 0] 3)).grown hgr4 (Nat.le_trans HB3.out.size (by simp)) (fun q hq => (HO3.out.lt q hq).1))
    clear hown4 hgr4
    go_wp2
    go_ret2
    exact ⟨q, _, fs ++ [0, 0], rfl, ⟨hq0, hq1⟩, own_inI HO4.out, by rw [own_len HO4.out]; omega, HB4.out⟩

theorem drawPolyFromRoots_any (ad : Option Addr) (n cap : Nat) (w : World) (hb : IsB w ad n) :
    Calls Try.prog 39 #[.slice ad n cap] w (DrawP1 w) := by
  go_enter Try.func39, Try.ntmps39
  go_wp2_with fail
  refine (drawDegreeOf_any ad n cap _ hb).mono ?_
  rintro e w1 ⟨q, v, fs, rfl, hq, hf, hl, hb1⟩
  have HQ := Lib.hid hq
  have HF := Lib.hid hf
  have HB1 := Lib.hid hb1
  clear hq hf hb1
  go_wp2
  go_ret2
  exact ⟨q, v, fs, rfl, HQ.out, HF.out, hl, HB1.out⟩

end Go.Proofs.Ytipfckfjelignaa

