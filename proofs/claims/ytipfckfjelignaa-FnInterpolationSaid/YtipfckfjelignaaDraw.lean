/- The lists that a law draws. -/
import Derived.Test.YtipfckfjelignaaCur
import Derived.Test.YtipfckfjelignaaInvAll
namespace Go.Proofs.Ytipfckfjelignaa
open Go.RowKit

theorem grown_own {w a b : World} {g : Nat} {r : Option Nat} (h : w.grownBy a (some g)) (k : a.grownBy b r) (hr : ∀ q, r = some q → w.heap.size ≤ q) : w.grownBy b (some g) :=
  ⟨k.os.trans h.os, k.tape.trans h.tape, k.output.trans h.output, Nat.le_trans h.size k.size,
    fun i hi hne => (k.block i (Nat.lt_of_lt_of_le hi h.size) (fun e => by have := hr i e.symm; omega)).trans (h.block i hi hne)⟩

/-- What is owned from 'base' on stays so while the cursor's block, below it, is written. -/
theorem own_cur {w w' : World} {base g k n cap : Nat} {e : TypeId} {size : Nat} {ad : Option Addr} {xs : List Value} (h : w.ownsRow base e size (.slice ad k cap) n xs) (hg : w.grownBy w' (some g)) (hb : g < base) : w'.ownsRow base e size (.slice ad k cap) n xs :=
  own_ne h hg (fun a ha => by
    have := (h.lt a.block (by subst ha; rfl)).1
    simp; omega)

/-- Rows above the cursor's block are written: the cursor stays. -/
theorem Cur.above {w w' : World} {g k B : Nat} {r : Option Nat} (h : Cur w g k) (hg : w.grownBy w' r) (hB : g < B) (hr : ∀ q, r = some q → B ≤ q) : Cur w' g k := by
  have hne : some g ≠ r := by rintro rfl; have := hr g rfl; omega
  have hl := h.lt
  obtain ⟨ad, n, cap, pos, seed, c0, c1, c2, f1, f2, hs, hp, hb, hlt⟩ := h
  have hblk := hg.block g hl hne
  refine ⟨ad, n, cap, pos, seed, hg.cell (a := ⟨g, 0, none⟩) c0 hne, hg.cell (a := ⟨g, 1, none⟩) c1 hne, hg.cell (a := ⟨g, 2, none⟩) c2 hne, ?_, ?_, hs, hp, ?_, hlt⟩
  · rw [World.frozen?_of_block (w := w) (a := ⟨g, 1, none⟩) hblk]; exact f1
  · rw [World.frozen?_of_block (w := w) (a := ⟨g, 2, none⟩) hblk]; exact f2
  · rcases hb with rfl | ⟨b, off, rfl, hbl, hc⟩
    · exact .inl rfl
    · by_cases h0 : n = 0
      · exact .inl h0
      · refine .inr ⟨b, off, rfl, Nat.lt_of_lt_of_le hbl hg.size, fun i hi => ?_⟩
        obtain ⟨z, hz, hcz⟩ := hc i hi
        have hbg : b < g := hlt _ rfl h0
        exact ⟨z, hz, hg.cell (a := ⟨b, off + i, none⟩) hcz (by rintro rfl; have := hr b rfl; omega)⟩

def ResPost (w : World) (g k most : Nat) (e : Ending) (w' : World) : Prop :=
  ∃ (ad : Option Addr) (n cap : Nat) (zs : List Int), e = .returned (.slice ad n cap) ∧ w'.ownsRow w.heap.size 3 1 (.slice ad n cap) n (zs.map (Value.int .i64)) ∧ n ≤ most + 1 ∧ Cur w' g k ∧ w.grownBy w' (some g)


set_option maxHeartbeats 3200000 in
theorem residues_any (g k : Nat) (m : Int) (most : Nat) (hk : k ≤ 1000000000) (hm : most ≤ 200) (hm0 : -5 ≤ m) (hm1 : m ≤ 2000000001) (w : World) (hc : Cur w g k) :
    Calls Try.prog 113 #[.pointer (some ⟨g, 0, none⟩), .int .i64 m, .int .i64 most] w (ResPost w g (k + 2 * most + 6) most) := by
  have HC := Lib.hid hc
  have hgl := hc.lt
  obtain ⟨i0, hi, hz0, hz1, hz2⟩ := info_parts Try.info3
  clear hc
  go_enter Try.func113, Try.ntmps113
  go_wp2_with fail
  refine (pick_any g k _ (by omega) (by omega) _ HC.out).mono ?_
  rintro e w1 ⟨x1, rfl, hx1, hc1, hg1⟩
  have hx10 : 0 ≤ x1 := hx1.1
  have hx11 : x1 ≤ (most : Int) := by omega
  obtain ⟨j1, rfl⟩ := Int.eq_ofNat_of_zero_le hx10
  have HC1 := Lib.hid hc1
  have HG1 := Lib.hid hg1
  clear hc1 hg1 hx1
  go_wp2
  go_loopw [7, 8] (fun V K wr => ∃ (j n : Nat) (va : Option Addr) (vc : Nat) (zs : List Int), (j ≤ most ∧ n + j ≤ most) ∧ K = .int .i64 j ∧ V = .slice va n vc ∧ wr.ownsRow w.heap.size 3 1 (.slice va n vc) n (zs.map (Value.int .i64)) ∧ Cur wr g (k + 2 + 2 * (most - j)) ∧ w.grownBy wr (some g)) (fun _ K _ => (intOf K).toNat)
  case atStart => exact ⟨j1, 0, none, 0, [], by omega, rfl, rfl, World.ownsRow_nil _ _ _ _, HC1.out.mono (by omega), HG1.out⟩
  case round =>
    obtain ⟨j, n, va, vc, zs, ⟨hj0, hj1⟩, rfl, rfl, hown, hcr, hgr⟩ := hrel
    have HO := Lib.hid hown
    have HCr := Lib.hid hcr
    have HGr := Lib.hid hgr
    clear hown hcr hgr
    by_cases hj : 0 < j
    · have hji : (0 : Int) < (j : Int) := by omega
      go_wp2_with fail
      refine (l1Least_any _ _ _).mono ?_
      rintro e w' ⟨rfl, rfl⟩
      go_wp2_with fail
      refine (l1Most_any _ _ _).mono ?_
      rintro e w' ⟨rfl, rfl⟩
      go_wp2_with fail
      refine (pick_any g _ _ (by omega) (by omega) _ HCr.out).mono ?_
      rintro e w2 ⟨x, rfl, _, hc2, hg2⟩
      have HO2 := Lib.hid (own_cur HO.out hg2 hgl)
      have HC2 := Lib.hid hc2
      have HG2 := Lib.hid (grown_trans HGr.out hg2)
      clear hc2 hg2
      go_wp2_with (at_builtin; refine wpList_append_own _ rfl _ _ 27 rfl w.heap.size 3 i0 (.int .i64 0) 1 8 Try.underlying27 hi hz0 hz1 hz2 rfl (by decide) _ _ _ rfl (HO2.out.alloc _) ⟨w2.heap.size, 0, none⟩ 1 1 [.int .i64 x] rfl rfl (cell_one_new _ _ _) (ints_oneCell .i64 [x]) (by unfold maxLen; omega) (by omega) ?_ ?_)
      · have := HG2.out.size; simp; omega
      · intro v' w3 hown' hgrow _
        obtain ⟨va', vc', rfl⟩ := own_shape hown'
        have HO3 := Lib.hid hown'
        have hr : ∀ q, (Value.slice va n vc).ownBlock = some q → w.heap.size ≤ q := fun q hq => (HO2.out.lt q hq).1
        have hal := (Below.refl w2.heap.size w2).alloc (Nat.le_refl _) (.cells #[.int .i64 x] 3)
        have HC3 := Lib.hid ((HC2.out.below hal).above hgrow hgl hr)
        have HG3 := Lib.hid (grown_own (grown_trans HG2.out (grown_below hal _)) hgrow hr)
        clear hown' hgrow hr hal
        go_wp2
        go_roundw
        case rel => exact ⟨j - 1, n + 1, va', vc', zs ++ [x], by omega, by rw [show ((j - 1 : Nat) : Int) = (j : Int) - 1 by omega], rfl, by rw [List.map_append]; exact HO3.out, HC3.out.mono (by omega), HG3.out⟩
        case measure => simp only [intOf]; omega
    · have hji : (j : Int) ≤ 0 := by omega
      go_wp2_with fail
      refine (one_any g _ _ (by omega) (by omega) _ HCr.out).mono ?_
      rintro e w2 ⟨b, rfl, hc2, hg2⟩
      have HO2 := Lib.hid (own_cur HO.out hg2 hgl)
      have HC2 := Lib.hid hc2
      have HG2 := Lib.hid (grown_trans HGr.out hg2)
      clear hc2 hg2
      cases b
      · go_wp2
        go_ret
        exact ⟨va, n, vc, zs, rfl, HO2.out, by omega, HC2.out.mono (by omega), HG2.out⟩
      · go_wp2_with fail
        have hal := (Below.refl w2.heap.size w2).alloc (Nat.le_refl _) (.cells #[.int .i64 (-1), .int .i64 m] 3)
        refine (among_any g _ _ _ _ [-1, m] (by omega) rfl (by simp) (by simp) (by rintro a ⟨⟩; have := HC2.out.lt; simp; omega) _ (ints_lit w2 [-1, m] 3) (HC2.out.below hal)).mono ?_
        rintro e w4 ⟨x, rfl, _, hc4, hg4⟩
        have HO4 := Lib.hid (own_cur (own_below HO2.out hal) hg4 hgl)
        have HC4 := Lib.hid hc4
        have HG4 := Lib.hid (grown_trans HG2.out (grown_trans (grown_below hal _) hg4))
        clear hc4 hg4 hal
        go_wp2_with (at_builtin; refine wpList_append_own _ rfl _ _ 27 rfl w.heap.size 3 i0 (.int .i64 0) 1 8 Try.underlying27 hi hz0 hz1 hz2 rfl (by decide) _ _ _ rfl (HO4.out.alloc _) ⟨w4.heap.size, 0, none⟩ 1 1 [.int .i64 x] rfl rfl (cell_one_new _ _ _) (ints_oneCell .i64 [x]) (by unfold maxLen; omega) (by omega) ?_ ?_)
        · have := HG4.out.size; simp; omega
        · intro v' w3 hown' hgrow _
          obtain ⟨va', vc', rfl⟩ := own_shape hown'
          have HO3 := Lib.hid hown'
          have hr : ∀ q, (Value.slice va n vc).ownBlock = some q → w.heap.size ≤ q := fun q hq => (HO4.out.lt q hq).1
          have hal := (Below.refl w4.heap.size w4).alloc (Nat.le_refl _) (.cells #[.int .i64 x] 3)
          have HC3 := Lib.hid ((HC4.out.below hal).above hgrow hgl hr)
          have HG3 := Lib.hid (grown_own (grown_trans HG4.out (grown_below hal _)) hgrow hr)
          clear hown' hgrow hr hal
          go_wp2
          go_ret
          exact ⟨va', n + 1, vc', zs ++ [x], rfl, by rw [List.map_append]; exact HO3.out, by omega, HC3.out.mono (by omega), HG3.out⟩


/-- A cursor over an argument's bytes, in a block of its own. -/
theorem cur_new (w : World) (ad : Option Addr) (n cap : Nat) (hb : IsB w ad n) (t : TypeId) : Cur (w.alloc (.cells #[.slice ad n cap, .int .i64 0, .int .u64 0] t)) w.heap.size 0 := by
  refine ⟨ad, n, cap, 0, 0, ?_, ?_, ?_, ?_, ?_, ⟨by decide, by decide⟩, Nat.le_refl _, hb.below ((Below.refl _ _).alloc (Nat.le_refl _) _), fun a ha h0 => ?_⟩
  · rw [World.cell?_alloc_at _ _ _ _ rfl]; rfl
  · rw [World.cell?_alloc_at _ _ _ _ rfl]; rfl
  · rw [World.cell?_alloc_at _ _ _ _ rfl]; rfl
  · exact World.frozen?_alloc_at _ _ _ _ rfl
  · exact World.frozen?_alloc_at _ _ _ _ rfl
  · rcases hb with h | ⟨b, off, rfl, hbl, _⟩
    · exact absurd h h0
    · cases ha; exact hbl

theorem below_cur {w a b : World} (h : Below w.heap.size w a) (hg : a.grownBy b (some w.heap.size)) : Below w.heap.size w b :=
  h.grown hg h.size (fun k hk => by cases hk; exact Nat.le_refl _)

def DrawTwo (w : World) (e : Ending) (w' : World) : Prop :=
  ∃ x y : Int, e = .returned (.tuple #[.int .i64 x, .int .i64 y]) ∧ (-1 ≤ x ∧ x ≤ 60000) ∧ (-5 ≤ y ∧ y ≤ 2000000001) ∧ Below w.heap.size w w'

set_option maxHeartbeats 800000 in
theorem drawInverseMod_any (ad : Option Addr) (n cap : Nat) (w : World) (hb : IsB w ad n) :
    Calls Try.prog 10 #[.slice ad n cap] w (DrawTwo w) := by
  have HC := Lib.hid (cur_new w ad n cap hb 75)
  have HB := Lib.hid ((Below.refl w.heap.size w).alloc (Nat.le_refl _) (.cells #[.slice ad n cap, .int .i64 0, .int .u64 0] 75))
  clear hb
  go_enter Try.func10, Try.ntmps10
  go_wp2_with fail
  refine (modulus_any w.heap.size 0 (by omega) _ HC.out).mono ?_
  rintro e w1 ⟨m, a, rfl, hm, ha, _, hg1⟩
  have HB1 := Lib.hid (below_cur HB.out hg1)
  have HR := Lib.hid (And.intro hm ha)
  clear hg1 hm ha
  go_wp2
  go_ret2
  exact ⟨a, m, rfl, HR.out.2, HR.out.1, HB1.out⟩

theorem own_base {w : World} {base base' : Nat} {e : TypeId} {size : Nat} {v : Value} {n : Nat} {xs : List Value} (h : w.ownsRow base e size v n xs) (hb : base' ≤ base) : w.ownsRow base' e size v n xs := by
  refine ⟨h.1, ?_⟩
  rcases h.2 with h1 | ⟨g, cap, cur, h1, h2, h3⟩
  · exact .inl h1
  · exact .inr ⟨g, cap, cur, h1, Nat.le_trans hb h2, h3⟩

/-- A drawn list, in rows of the call's own, and a number. -/
def DrawList (w : World) (e : Ending) (w' : World) : Prop :=
  ∃ (ad : Option Addr) (n cap : Nat) (zs : List Int) (m : Int), e = .returned (.tuple #[.slice ad n cap, .int .i64 m]) ∧ w'.ownsRow w.heap.size 3 1 (.slice ad n cap) n (zs.map (Value.int .i64)) ∧ n ≤ 201 ∧ (-5 ≤ m ∧ m ≤ 2000000001) ∧ Below w.heap.size w w'

set_option maxHeartbeats 1600000 in
theorem drawSumMod_any (ad : Option Addr) (n cap : Nat) (w : World) (hb : IsB w ad n) :
    Calls Try.prog 59 #[.slice ad n cap] w (DrawList w) := by
  have HC := Lib.hid (cur_new w ad n cap hb 75)
  have HB := Lib.hid ((Below.refl w.heap.size w).alloc (Nat.le_refl _) (.cells #[.slice ad n cap, .int .i64 0, .int .u64 0] 75))
  obtain ⟨i0, hi, hz0, hz1, hz2⟩ := info_parts Try.info3
  have HZ2 := Lib.hid hz2
  clear hb hz2
  go_enter Try.func59, Try.ntmps59
  go_wp2_with fail
  refine (modulus_any w.heap.size 0 (by omega) _ HC.out).mono ?_
  rintro e w1 ⟨m, a, rfl, hm, _, hc1, hg1⟩
  have HC1 := Lib.hid hc1
  have HB1 := Lib.hid (below_cur HB.out hg1)
  obtain ⟨hm0, hm1⟩ := hm
  clear hg1 hc1
  go_wp2_with fail
  refine (one_any w.heap.size _ _ (by omega) (by omega) _ HC1.out).mono ?_
  rintro e w2 ⟨b, rfl, hc2, hg2⟩
  have HC2 := Lib.hid hc2
  have HB2 := Lib.hid (below_cur HB1.out hg2)
  clear hc2 hg2
  cases b
  · go_wp2_with fail
    refine (residues_any w.heap.size _ m 8 (by omega) (by omega) hm0 hm1 _ HC2.out).mono ?_
    rintro e w3 ⟨ar, nr, cr, zs, rfl, hown, hnr, _, hg3⟩
    have HB3 := Lib.hid (below_cur HB2.out hg3)
    have HO := Lib.hid (own_base hown HB2.out.size)
    clear hown hg3
    go_wp2
    go_ret2
    exact ⟨ar, nr, cr, zs, m, rfl, HO.out, by omega, ⟨hm0, hm1⟩, HB3.out⟩
  · go_wp2_with fail
    refine (pick_any w.heap.size _ _ (by omega) (by omega) _ HC2.out).mono ?_
    rintro e w3 ⟨x, rfl, hx, _, hg3⟩
    have hx0 : 0 ≤ x := hx.1
    have hx1 : x ≤ 1 := by omega
    obtain ⟨j, rfl⟩ := Int.eq_ofNat_of_zero_le hx0
    have HB3 := Lib.hid (below_cur HB2.out hg3)
    clear hg3 hx
    go_wp2_with (at_make; refine wpList_make_full _ rfl _ _ 27 rfl w3.heap.size 3 i0 (.int .i64 0) 1 Try.underlying27 hi hz0 hz1 .i64 .i64 _ _ (200 + j) rfl rfl (by simp) (by simp) (by rw [HZ2.out]; omega) (by unfold maxLen; omega) (Nat.le_refl _) ?_; intro w4 hown hgrow)
    go_ret2
    refine ⟨_, 200 + j, 200 + j, List.replicate (200 + j) 0, m, rfl, ?_, by omega, ⟨hm0, hm1⟩, HB3.out.grown hgrow HB3.out.size (by simp)⟩
    have h := hown
    rw [show Value.cells (.int .i64 0) = #[.int .i64 0] from rfl, Nat.mul_one, toList_madeCells_one] at h
    rw [List.map_replicate]
    exact own_base h HB3.out.size


set_option maxHeartbeats 1600000 in
theorem drawInvertAll_any (ad : Option Addr) (n cap : Nat) (w : World) (hb : IsB w ad n) :
    Calls Try.prog 13 #[.slice ad n cap] w (DrawList w) := by
  have HC := Lib.hid (cur_new w ad n cap hb 75)
  have hb0 := (Below.refl w.heap.size w).alloc (Nat.le_refl _) (.cells #[.slice ad n cap, .int .i64 0, .int .u64 0] 75)
  have HBy := Lib.hid (hb.below hb0)
  have HB := Lib.hid hb0
  clear hb hb0
  go_enter Try.func13, Try.ntmps13
  go_wp2_with fail
  refine (drawSumMod_any ad n cap _ HBy.out).mono ?_
  rintro e w1 ⟨ar, nr, cr, zs, m, rfl, hown, hnr, hm, hb1⟩
  have HC1 := Lib.hid (HC.out.below hb1)
  have HO1 := Lib.hid (own_base (base' := w.heap.size + 1) hown (by simp))
  have HB1 := Lib.hid (HB.out.trans (hb1.mono HB.out.size))
  obtain ⟨hm0, hm1⟩ := hm
  clear hown hb1
  go_wp2_with fail
  refine (one_any w.heap.size _ _ (by omega) (by omega) _ HC1.out).mono ?_
  rintro e w2 ⟨b, rfl, _, hg2⟩
  have HB2 := Lib.hid (below_cur HB1.out hg2)
  have HO2 := Lib.hid (own_base (base' := w.heap.size) (own_cur HO1.out hg2 (by omega)) (by omega))
  clear hg2
  cases b
  · go_wp2
    go_ret2
    exact ⟨ar, nr, cr, zs, m, rfl, HO2.out, hnr, ⟨hm0, hm1⟩, HB2.out⟩
  · go_wp2
    go_ret2
    exact ⟨ar, nr, cr, zs, 1000003, rfl, HO2.out, hnr, ⟨by decide, by decide⟩, HB2.out⟩

end Go.Proofs.Ytipfckfjelignaa

