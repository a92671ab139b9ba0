/- ElementsOf of the program, which sorts, and of the reference, which inserts. -/
import Derived.Test.YtkpfmpndaenclaaSrt
import Derived.Test.YtkpfmpndaenclaaGrpB
import Derived.Test.YtkpfmpndaenclaaG6
import Derived.Ground.NamesProg
import Derived.Shelf.Lay
import Derived.Shelf.Sort.Plain
namespace Go.Proofs
open Go.Shelf
shelf_lay Lays.n189 Nm 189 at Try as Try.laysSort
end Go.Proofs
namespace Go.Proofs.Ytkpfmpndaenclaa
open Go.RowKit Go.Sort Go.Shelf

/-- The sort, on a row of one's own. -/
theorem sort_own (base g n cap : Nat) (zs : List Int) (hl : n ≤ 1000000) (w : World) (hown : w.ownsRow base 3 1 (.slice (some ⟨g, 0, none⟩) n cap) n (zs.map (Value.int .i64))) :
    Calls Try.prog 79 #[.slice (some ⟨g, 0, none⟩) n cap] w fun e w' => e = .returned (.tuple #[]) ∧ w'.ownsRow base 3 1 (.slice (some ⟨g, 0, none⟩) n cap) n ((sortL zs).map (Value.int .i64)) ∧ w.grownBy w' (some g) := by
  have hn : zs.length = n := by have := hown.1; simpa using this
  subst hn
  rcases hown.2 with ⟨h1, _⟩ | ⟨g', cap', cur, h1, h2, h3, h4, h5, h6, h7⟩
  · cases h1
  · simp only [Value.slice.injEq, Option.some.injEq, Addr.mk.injEq, and_true, true_and] at h1
    obtain ⟨rfl, rfl⟩ := h1
    rw [Nat.mul_one] at h7
    have hH := holds_of_blockI h3 h7
    have hblk : g < w.heap.size := by
      rcases Nat.lt_or_ge g w.heap.size with h | h
      · exact h
      · rw [Array.getElem?_eq_none h] at h3; cases h3
    refine (Any.slices_Sort_int Try.laysSort g 0 cap zs w hH hblk (by omega)).mono ?_
    rintro e w' ⟨rfl, k, os, rfl⟩
    exact ⟨rfl, ownsRow_sortedI (sortL_length zs) h2 h3 h4 h5 h6, grownBy_sortedI _⟩

def elsL (p g q : Nat) : List Int := (List.range q).map fun i => ((g ^ i % p : Nat) : Int)
theorem elsL_length (p g q : Nat) : (elsL p g q).length = q := by simp [elsL]
theorem elsL_get (p g q k : Nat) (h : k < (elsL p g q).length) : (elsL p g q)[k] = ((g ^ k % p : Nat) : Int) := by simp [elsL]
theorem elsL_take (p g q k : Nat) (h : k < q) : (elsL p g q).take (k + 1) = (elsL p g q).take k ++ [((g ^ k % p : Nat) : Int)] := by
  rw [List.take_succ_eq_append_getElem (by rw [elsL_length]; exact h), elsL_get]

/-- ElementsOf's condition and what it answers. -/
def elsOk (P Q G : Int) : Bool := goodB P Q G && decide (Q ≤ 2000)
def elsV (P Q G : Int) : List Int := if elsOk P Q G then sortL (elsL P.toNat G.toNat Q.toNat) else []
theorem elsV_length {P Q G : Int} : (elsV P Q G).length ≤ 2000 := by
  unfold elsV
  split
  · rename_i h
    rw [sortL_length, elsL_length]
    unfold elsOk at h
    rw [Bool.and_eq_true, decide_eq_true_eq] at h
    omega
  · simp

set_option maxRecDepth 100000 in
set_option maxHeartbeats 1600000 in
theorem elementsOf_any (P Q G : Int) (w : World) :
    Calls Try.prog 29 #[gv P Q G] w (ListOut w (elsV P Q G) (elsOk P Q G)) := by
  by_cases hbig : 2000 < Q
  · have e1 : elsOk P Q G = false := by unfold elsOk; rw [decide_eq_false (by omega), Bool.and_false]
    have e2 : elsV P Q G = [] := by simp [elsV, e1]
    rw [e1, e2]
    clear e1 e2
    go_enter Try.func29, Try.ntmps29
    go_wp2
    go_ret2
    exact listOut_nil _ _ (ba _ _)
  · cases hg : goodB P Q G
    · have e1 : elsOk P Q G = false := by simp [elsOk, hg]
      have e2 : elsV P Q G = [] := by simp [elsV, e1]
      rw [e1, e2]
      have HG := Lib.hid hg
      clear hg e1 e2
      go_enter Try.func29, Try.ntmps29
      go_wp2_with fail
      refine (isValidGroup_any _ _ _ _).mono ?_
      rw [HG.out]
      rintro e w1 ⟨rfl, hb1⟩
      have HB1 := Lib.hid (bt (ba _ _) hb1)
      clear hb1
      go_wp2
      go_ret2
      exact listOut_nil _ _ HB1.out
    · have e1 : elsOk P Q G = true := by unfold elsOk; rw [hg, decide_eq_true (by omega)]; rfl
      have H0 := Lib.hid (gr_new w P Q G 24)
      have HG := Lib.hid hg
      obtain ⟨p, q, g, rfl, rfl, rfl, hp, hq, _, g2, gp, _, p3, ple, _⟩ := good_nat hg
      have e2 : elsV p q g = sortL (elsL p g q) := by simp [elsV, e1]
      rw [e1, e2]
      have hq2 := hq.1
      have hpi : 0 < (p : Int) := by omega
      clear hg e1 e2 hp hq
      obtain ⟨i0, hi, hz0, hz1, hz2⟩ := info_parts Try.info3
      have HZ2 := Lib.hid hz2
      clear hz2
      go_enter Try.func29, Try.ntmps29
      go_wp2_with fail
      refine (isValidGroup_any _ _ _ _).mono ?_
      rw [HG.out]
      rintro e w1 ⟨rfl, hb1⟩
      have HB1 := Lib.hid (bt (ba _ _) hb1)
      have H1 := Lib.hid (H0.out.below hb1)
      obtain ⟨c0, c1, c2⟩ := H1.out
      clear hb1
      go_wp2_with (at_make; refine wpList_make_full _ rfl _ _ 36 rfl w.heap.size 3 i0 (.int .i64 0) 1 Try.underlying36 hi hz0 hz1 .i64 .i64 _ _ q rfl rfl rfl rfl (by rw [HZ2.out]; omega) (by unfold maxLen; omega) HB1.out.size ?_; intro w2 hown hgrow)
      have HG1 := Lib.hid hgrow
      have HO1 := Lib.hid hown
      have H2 := Lib.hid (show GR w2 w.heap.size p q g from ⟨hgrow.cell (a := ⟨w.heap.size, 0, none⟩) c0 (by simp), hgrow.cell (a := ⟨w.heap.size, 1, none⟩) c1 (by simp), hgrow.cell (a := ⟨w.heap.size, 2, none⟩) c2 (by simp)⟩)
      have HB2 := Lib.hid (HB1.out.grown hgrow HB1.out.size (by simp))
      have hb0 : w.heap.size < w1.heap.size := H1.out.lt
      clear hown hgrow c0 c1 c2
      go_loopw [5, 6, 20] (fun Y _ K wr => ∃ k : Nat, k ≤ q ∧ Y = .int .i64 (g ^ k % p : Nat) ∧ K = .int .i64 k ∧ wr.ownsRow w.heap.size 3 1 (.slice (some ⟨w1.heap.size, 0, none⟩) q q) q ((over (elsL p g q) (List.replicate q 0) k).map (Value.int .i64)) ∧ Below w.heap.size w wr ∧ GR wr w.heap.size p q g) (fun _ _ K _ => q - (intOf K).toNat)
      case atStart =>
        refine ⟨0, Nat.zero_le _, by rw [Nat.pow_zero, Nat.mod_eq_of_lt (by omega)]; rfl, rfl, ?_, HB2.out, H2.out⟩
        rw [over_zero]
        have h := HO1.out
        rw [show Value.cells (.int .i64 0) = #[.int .i64 0] from rfl, Nat.mul_one, toList_madeCells_one] at h
        simpa using h
      case round =>
        obtain ⟨k, hk, rfl, rfl, hown, hbel, hgr⟩ := hrel
        by_cases hkq : k < q
        · obtain ⟨⟨u, hcu⟩, hfu⟩ := own_cell hown hkq
          have hlt := H0.out.lt
          obtain ⟨c0, c1, c2⟩ := hgr
          have hy := Nat.mod_lt (g ^ k) (show p > 0 by omega)
          have hst := Num.pow_step g k p
          have HO := Lib.hid (inv_store hown (x := ((g ^ k % p : Nat) : Int)) (fun h => elsL_get p g q k h) (by rw [elsL_length]; exact hkq) (by simpa using hkq))
          have HB := Lib.hid hbel
          have HGR := Lib.hid (show GR wr w.heap.size p q g from ⟨c0, c1, c2⟩)
          generalize hY : g ^ k % p = y at *
          obtain ⟨⟨e1, e2⟩, _, f1, _, f3, _⟩ := pow_facts (r := y) (q := g) (m := p) (by omega) (by omega) (by omega)
          have D1 := Lib.hid f1
          have HS := Lib.hid hst
          have hne : ¬ w1.heap.size = w.heap.size := by omega
          have hne2 : ¬ w.heap.size = w1.heap.size := by omega
          clear f1 hst hY hown hbel
          go_wp2
          go_roundw
          case rel => exact ⟨k + 1, by omega, by rw [D1.out, HS.out], by go_num, HO.out, HB.out.setCell (Nat.le_of_lt hb0) _, HGR.out.other _ _ hne⟩
          case measure => simp only [intOf]; omega
        · obtain rfl : k = q := by omega
          have hrow : wr.ownsRow w.heap.size 3 1 (.slice (some ⟨w1.heap.size, 0, none⟩) k k) k ((elsL p g k).map (Value.int .i64)) := by
            rwa [over_all _ _ (by rw [elsL_length]; omega) (by simp)] at hown
          have HR := Lib.hid hrow
          have HB := Lib.hid hbel
          clear hown hbel hrow hgr
          go_wp2_with fail
          refine (sort_own w.heap.size w1.heap.size k k (elsL p g k) (by omega) _ HR.out).mono ?_
          rintro e w3 ⟨rfl, hown3, hgrow3⟩
          have HO3 := Lib.hid hown3
          have HB3 := Lib.hid (HB.out.grown hgrow3 HB.out.size (fun q hq => by cases hq; exact Nat.le_of_lt hb0))
          clear hown3 hgrow3
          go_wp2
          go_ret2
          exact ⟨_, _, _, rfl, HO3.out, HB3.out⟩

/-- The group's first powers, as a list without doubles. -/
theorem elsL_ne {p q g k : Nat} (hp : Num.Pr p) (hq : Num.Pr q) (h1 : 2 ≤ g) (h2 : g < p) (h3 : g ^ q % p = 1) (hk : k < q) : ∀ x ∈ (elsL p g q).take k, x ≠ ((g ^ k % p : Nat) : Int) := by
  intro x hx he
  obtain ⟨i, hi, rfl⟩ := List.mem_iff_getElem.1 hx
  have hi' : i < k := by simp at hi; omega
  rw [List.getElem_take, elsL_get] at he
  exact Num.pow_ne hp hq h1 h2 h3 hi' hk (Int.ofNat.inj he)

set_option maxRecDepth 100000 in
set_option maxHeartbeats 1600000 in
theorem sElementsOf_any (P Q G : Int) (w : World) :
    Calls Try.prog 30 #[gv P Q G] w (ListOut w (elsV P Q G) (elsOk P Q G)) := by
  cases hg : goodB P Q G
  · have e1 : elsOk P Q G = false := by simp [elsOk, hg]
    have e2 : elsV P Q G = [] := by simp [elsV, e1]
    rw [e1, e2]
    have HG := Lib.hid hg
    clear hg e1 e2
    go_enter Try.func30, Try.ntmps30
    go_wp2_with fail
    refine (l2Good_any _ _ _ _).mono ?_
    rw [HG.out]
    rintro e w1 ⟨rfl, hb1⟩
    have HB1 := Lib.hid (bt (ba _ _) hb1)
    clear hb1
    go_wp2
    go_ret2
    exact listOut_nil _ _ HB1.out
  · have H0 := Lib.hid (gr_new w P Q G 24)
    have HG := Lib.hid hg
    by_cases hbig : 2000 < Q
    · have e1 : elsOk P Q G = false := by unfold elsOk; rw [decide_eq_false (by omega), Bool.and_false]
      have e2 : elsV P Q G = [] := by simp [elsV, e1]
      rw [e1, e2]
      clear hg e1 e2
      go_enter Try.func30, Try.ntmps30
      go_wp2_with fail
      refine (l2Good_any _ _ _ _).mono ?_
      rw [HG.out]
      rintro e w1 ⟨rfl, hb1⟩
      have HB1 := Lib.hid (bt (ba _ _) hb1)
      obtain ⟨c0, c1, c2⟩ := H0.out.below hb1
      clear hb1
      go_wp2
      go_ret2
      exact listOut_nil _ _ HB1.out
    · have e1 : elsOk P Q G = true := by unfold elsOk; rw [hg, decide_eq_true (by omega)]; rfl
      obtain ⟨p, q, g, rfl, rfl, rfl, hp, hq, _, g2, gp, gq, p3, ple, _⟩ := good_nat hg
      have e2 : elsV p q g = sortL (elsL p g q) := by simp [elsV, e1]
      rw [e1, e2]
      have hq2 := hq.1
      have HNE := Lib.hid (fun (k : Nat) (hk : k < q) => elsL_ne hp hq g2 gp gq hk)
      clear hg e1 e2 hp hq
      go_enter Try.func30, Try.ntmps30
      go_wp2_with fail
      refine (l2Good_any _ _ _ _).mono ?_
      rw [HG.out]
      rintro e w1 ⟨rfl, hb1⟩
      have HB1 := Lib.hid (bt (ba _ _) hb1)
      have H1 := Lib.hid (H0.out.below hb1)
      obtain ⟨c0, c1, c2⟩ := H1.out
      clear hb1
      go_wp2
      have hb0 : w.heap.size ≤ w1.heap.size := HB1.out.size
      go_loopw [4, 5] (fun O E wr => ∃ (k : Nat) (va : Option Addr) (vc : Nat) (zs : List Int), k ≤ q ∧ O = .slice va k vc ∧ E = .int .i64 k ∧ wr.ownsRow w.heap.size 3 1 (.slice va k vc) k (zs.map (Value.int .i64)) ∧ (zs.Pairwise (· < ·) ∧ zs.Perm ((elsL p g q).take k) ∧ (k = 0 → va = none)) ∧ Below w.heap.size w wr ∧ GR wr w.heap.size p q g) (fun _ E _ => q - (intOf E).toNat)
      case atStart => exact ⟨0, none, 0, [], Nat.zero_le _, rfl, rfl, World.ownsRow_nil _ _ _ _, ⟨List.Pairwise.nil, by simp, fun _ => rfl⟩, HB1.out, H1.out⟩
      case round =>
        obtain ⟨k, va, vc, zs, hk, rfl, rfl, hown, ⟨hs, hp, hva⟩, hbel, hgr⟩ := hrel
        by_cases hkq : k < q
        · obtain ⟨hzr, hzn, _⟩ := ints_of_own_any hown
          have hx : ∀ i, i < k → zs.getD i 0 ≠ ((g ^ k % p : Nat) : Int) := by
            intro i hi
            refine HNE.out k hkq _ (hp.mem_iff.1 ?_)
            rw [show zs.getD i 0 = zs[i]'(by omega) by simp [show i < zs.length by omega]]
            exact List.getElem_mem _
          have hv : Num.pow (g : Int) (k : Int) (p : Int) = ((g ^ k % p : Nat) : Int) := Num.pow_eq (by omega)
          have htk := elsL_take p g q k hkq
          have HTK := Lib.hid htk
          have HS := Lib.hid hs
          have HP := Lib.hid hp
          have HX := Lib.hid hx
          have HO := Lib.hid hown
          have HB := Lib.hid hbel
          have HGR := Lib.hid hgr
          have HE := Lib.hid (gExp_any p q g g k (by omega) (by omega) (by omega) (by omega) (by omega) (by omega) (by omega) (by omega))
          have HV := Lib.hid hv
          obtain ⟨c0, c1, c2⟩ := hgr
          have hnext : ∀ (W : World), Below wr.heap.size wr W → Calls Try.prog 80 #[.slice va k vc, .int .i64 ((g ^ k % p : Nat) : Int)] W (PutOut W zs ((g ^ k % p : Nat) : Int)) := by
            intro W hW
            rcases hown.2 with ⟨h1, h2⟩ | ⟨b, cap, cur, h1, h2, h3, h4, h5, _⟩
            · simp only [Value.slice.injEq] at h1
              obtain ⟨rfl, _, rfl⟩ := h1
              subst h2
              have : zs = [] := List.length_eq_zero_iff.1 hzn
              subst this
              exact l1Put_nil _ W
            · simp only [Value.slice.injEq] at h1
              obtain ⟨rfl, _, rfl⟩ := h1
              rcases Nat.eq_zero_or_pos k with h0 | h0
              · cases hva h0
              · have hb := (hown.lt b rfl).2
                refine l1Put_some b k _ zs _ hzn h0 h4 (by omega) hx W (Nat.lt_of_lt_of_le hb hW.size) (fun i hi => ?_)
                rw [hW.cell (p := ⟨b, i, none⟩) hb, hown.cellAt i (by omega)]
                simp [show i < zs.length by omega]
          have HN := Lib.hid hnext
          clear hs hp hx hown hbel hv htk hnext hzr hva
          go_wp2_with fail
          refine (HE.out _).mono ?_
          rw [HV.out]
          rintro e w2 ⟨rfl, hb2⟩
          have HB2 := Lib.hid hb2
          clear hb2
          go_wp2_with fail
          refine (HN.out _ HB2.out).mono ?_
          rintro e w3 ⟨j, va', vc', rfl, hj1, hj2, hj3, hown3, hb3⟩
          rw [hzn] at hown3
          have hpl := put_place HS.out hj1 hj2 hj3
          have HO3 := Lib.hid (own_base (base' := w.heap.size) hown3 (Nat.le_trans HB.out.size HB2.out.size))
          have HSP := Lib.hid (And.intro (put_sorted HS.out hpl.1 hpl.2) (put_perm (k := j) (x := ((g ^ k % p : Nat) : Int)) HP.out))
          have HB3 := Lib.hid ((HB.out.trans (HB2.out.mono HB.out.size)).trans (hb3.mono (Nat.le_trans HB.out.size HB2.out.size)))
          have HG3 := Lib.hid ((HGR.out.below HB2.out).below hb3)
          clear hown3 hb3 hpl
          rw [hzn]
          go_wp2
          go_roundw
          case rel => exact ⟨k + 1, va', vc', _, by omega, rfl, by go_num, HO3.out, ⟨HSP.out.1, by rw [HTK.out]; exact HSP.out.2, fun h => by omega⟩, HB3.out, HG3.out⟩
          case measure => simp only [intOf]; omega
        · obtain rfl : k = q := by omega
          have he : sortL (elsL p g k) = zs := sortL_eq hs (by rwa [List.take_of_length_le (by rw [elsL_length]; exact Nat.le_refl _)] at hp)
          have HE := Lib.hid he
          have HO := Lib.hid hown
          have HB := Lib.hid hbel
          obtain ⟨c0, c1, c2⟩ := hgr
          clear he hs hp hown hbel hva
          go_wp2
          go_ret2
          exact ⟨_, _, _, rfl, by rw [HE.out]; exact HO.out, HB.out⟩

end Go.Proofs.Ytkpfmpndaenclaa

