/- What the laws of layer 2 draw: groups, exponents, elements. -/
import Derived.Test.YtdnofcpobpoehaaG5b
import Derived.Test.YtdnofcpobpoehaaG2
import Derived.Test.YtdnofcpobpoehaaDrawP
namespace Go.Proofs.Ytdnofcpobpoehaa
open Go.RowKit

namespace Num
def triF (n : Nat) : Nat → Nat → Bool
  | 0, _ => true
  | f + 1, p => if p * p ≤ n then (if n % p = 0 then false else triF n f (p + 1)) else true
theorem triF_eq (n : Nat) : ∀ f p, 0 < p → n + 1 - p ≤ f → triF n f p = tri n p := by
  intro f
  induction f with
  | zero =>
    intro p hp hf
    have : p * 1 ≤ p * p := Nat.mul_le_mul_left p hp
    rw [tri_end (by omega)]; rfl
  | succ f ih =>
    intro p hp hf
    unfold triF
    by_cases h : p * p ≤ n
    · rw [if_pos h]
      by_cases hm : n % p = 0
      · rw [if_pos hm, tri_hit h hp hm]
      · rw [if_neg hm, tri_go h hp hm]
        exact ih (p + 1) (by omega) (by omega)
    · rw [if_neg h, tri_end h]
theorem prB_val (n : Nat) (h2 : 2 ≤ n) (b : Bool) (h : triF n (n + 1) 2 = b) : prB (n : Int) = b := by
  unfold prB
  rw [decide_eq_true (by omega), Int.toNat_natCast, Bool.true_and, ← triF_eq n (n + 1) 2 (by omega) (by omega)]
  exact h
end Num

theorem mk_good {q : Int} (h : mkB q = true) : goodB (mkVP q) (mkVQ q) (mkVG q) = true ∧ mkVQ q = q := by
  have h' := h
  unfold mkB at h'
  rw [Bool.and_eq_true, Bool.and_eq_true, inB_true, decide_eq_true_eq] at h'
  obtain ⟨⟨⟨q2, q3⟩, hpr⟩, hne⟩ := h'
  obtain ⟨q, rfl⟩ := Int.eq_ofNat_of_zero_le (show 0 ≤ q by omega)
  rw [Int.toNat_natCast] at hne
  obtain ⟨k1, k2, k3⟩ := mk_found (p := Num.mkP q (q + 1)) (by omega) rfl hne
  obtain ⟨g1, g2, g3⟩ := Num.genG_spec k1 (show 2 ≤ q by omega) k3
  have hp2 := k1.1
  have hqp : q ≤ Num.mkP q (q + 1) - 1 := Nat.le_of_dvd (by omega) k3
  have hpp := (Num.mkP_spec (q := q) (by omega) 2000000001 (q + 1) (by omega) (by omega) ⟨1, by omega⟩ hne).1
  have e1 : mkVP (q : Int) = (Num.mkP q (q + 1) : Nat) := by simp [mkVP, h]
  have e2 : mkVQ (q : Int) = q := by simp [mkVQ, h]
  have e3 : mkVG (q : Int) = (Num.genG (Num.mkP q (q + 1)) q : Nat) := by simp [mkVG, h]
  refine ⟨?_, e2⟩
  rw [e1, e2, e3]
  generalize Num.mkP q (q + 1) = p at *
  refine goodB_true.2 ⟨by omega, by omega, ?_, by omega, ?_, hpr, hpp⟩
  · rw [show (p : Int) - 1 = ((p - 1 : Nat) : Int) by omega, ← Int.natCast_emod, Nat.mod_eq_zero_of_dvd k3]; rfl
  · rw [Num.pow_eq (by omega), g3]; rfl

theorem mkB_of (q p : Nat) (hq : 2 ≤ q ∧ q ≤ 1000000) (hpr : Num.prB (q : Int) = true) (h : Num.mkP q (q + 1) = p) (h0 : p ≠ 0) : mkB (q : Int) = true := by
  unfold mkB
  rw [inB_true.2 (by omega), hpr, Int.toNat_natCast, h, decide_eq_true h0]; rfl

def tinies : List Int := [3, 5, 5, 7, 11, 11, 13, 23]
theorem tiny_ok : ∀ q ∈ tinies, mkB q = true ∧ 3 ≤ q ∧ q ≤ 23 := by
  have go : ∀ (q p : Nat), 0 < q → 2 ≤ p → p ≤ 2000000000 → Num.triF p (p + 1) 2 = false → Num.mkP q p = Num.mkP q (p + q) := fun q p h1 h2 h3 h4 => Num.mkP_go h1 h3 (Num.prB_val p h2 _ h4)
  have hit : ∀ (q p : Nat), 0 < q → 2 ≤ p → p ≤ 2000000000 → Num.triF p (p + 1) 2 = true → Num.mkP q p = p := fun q p h1 h2 h3 h4 => Num.mkP_hit h1 h3 (Num.prB_val p h2 _ h4)
  have t3 : mkB (3 : Nat) = true := mkB_of 3 7 (by decide) (Num.prB_val 3 (by decide) _ (by decide)) ((go 3 4 (by decide) (by decide) (by decide) (by decide)).trans (hit 3 7 (by decide) (by decide) (by decide) (by decide))) (by decide)
  have t5 : mkB (5 : Nat) = true := mkB_of 5 11 (by decide) (Num.prB_val 5 (by decide) _ (by decide)) ((go 5 6 (by decide) (by decide) (by decide) (by decide)).trans (hit 5 11 (by decide) (by decide) (by decide) (by decide))) (by decide)
  have t7 : mkB (7 : Nat) = true := mkB_of 7 29 (by decide) (Num.prB_val 7 (by decide) _ (by decide)) ((go 7 8 (by decide) (by decide) (by decide) (by decide)).trans ((go 7 15 (by decide) (by decide) (by decide) (by decide)).trans ((go 7 22 (by decide) (by decide) (by decide) (by decide)).trans (hit 7 29 (by decide) (by decide) (by decide) (by decide))))) (by decide)
  have t11 : mkB (11 : Nat) = true := mkB_of 11 23 (by decide) (Num.prB_val 11 (by decide) _ (by decide)) ((go 11 12 (by decide) (by decide) (by decide) (by decide)).trans (hit 11 23 (by decide) (by decide) (by decide) (by decide))) (by decide)
  have t13 : mkB (13 : Nat) = true := mkB_of 13 53 (by decide) (Num.prB_val 13 (by decide) _ (by decide)) ((go 13 14 (by decide) (by decide) (by decide) (by decide)).trans ((go 13 27 (by decide) (by decide) (by decide) (by decide)).trans ((go 13 40 (by decide) (by decide) (by decide) (by decide)).trans (hit 13 53 (by decide) (by decide) (by decide) (by decide))))) (by decide)
  have t23 : mkB (23 : Nat) = true := mkB_of 23 47 (by decide) (Num.prB_val 23 (by decide) _ (by decide)) ((go 23 24 (by decide) (by decide) (by decide) (by decide)).trans (hit 23 47 (by decide) (by decide) (by decide) (by decide))) (by decide)
  intro q hq
  simp only [tinies, List.mem_cons, List.not_mem_nil, or_false] at hq
  rcases hq with rfl | rfl | rfl | rfl | rfl | rfl | rfl | rfl
  · exact ⟨t3, by decide, by decide⟩
  · exact ⟨t5, by decide, by decide⟩
  · exact ⟨t5, by decide, by decide⟩
  · exact ⟨t7, by decide, by decide⟩
  · exact ⟨t11, by decide, by decide⟩
  · exact ⟨t11, by decide, by decide⟩
  · exact ⟨t13, by decide, by decide⟩
  · exact ⟨t23, by decide, by decide⟩

theorem GR.grown {w w' : World} {b g : Nat} {P Q G : Int} (h : GR w b P Q G) (hg : w.grownBy w' (some g)) (hne : b ≠ g) : GR w' b P Q G := by
  obtain ⟨c0, c1, c2⟩ := h
  exact ⟨hg.cell (a := ⟨b, 0, none⟩) c0 (by simpa using hne), hg.cell (a := ⟨b, 1, none⟩) c1 (by simpa using hne), hg.cell (a := ⟨b, 2, none⟩) c2 (by simpa using hne)⟩

theorem frozen_grown {w w' : World} {g b i : Nat} (hg : w.grownBy w' (some g)) (hl : b < w.heap.size) (hne : b ≠ g) : w'.frozen? ⟨b, i, none⟩ = w.frozen? ⟨b, i, none⟩ := by
  have h := hg.block b hl (by simpa using hne)
  unfold World.frozen?
  simp only [h]
theorem ints_at (w : World) (b : Nat) (hb : w.heap.size = b) (zs : List Int) (t : TypeId) : IsInts (w.alloc (.cells (zs.map (Value.int .i64)).toArray t)) (some ⟨b, 0, none⟩) zs := by
  subst hb; exact ints_lit w zs t

theorem grown_set {w W : World} {r : Option Nat} (h : w.grownBy W r) (a : Addr) (v : Value) (ha : w.heap.size ≤ a.block) : w.grownBy (W.setCell a v) r :=
  ⟨h.os, h.tape, h.output, by simpa using h.size, fun i hi hr => (heap_setCell_other W a i v (fun e => by omega)).trans (h.block i hi hr)⟩
theorem Cur.other {w : World} {g k : Nat} (h : Cur w g k) (a : Addr) (v : Value) (ha : g < a.block) : Cur (w.setCell a v) g k := by
  obtain ⟨ad, n, cap, pos, seed, c0, c1, c2, f1, f2, hs, hp, hb, hne⟩ := h
  have ne : ∀ i, a ≠ (⟨g, i, none⟩ : Addr) := fun i e => by rw [e] at ha; exact absurd ha (Nat.lt_irrefl _)
  refine ⟨ad, n, cap, pos, seed, ?_, ?_, ?_, ?_, ?_, hs, hp, ?_, hne⟩
  · rw [World.cell?_setCell_other _ _ _ _ (ne 0)]; exact c0
  · rw [World.cell?_setCell_other _ _ _ _ (ne 1)]; exact c1
  · rw [World.cell?_setCell_other _ _ _ _ (ne 2)]; exact c2
  · rw [World.frozen?_setCell]; exact f1
  · rw [World.frozen?_setCell]; exact f2
  · rcases hb with h | ⟨b, off, h1, h2, h3⟩
    · exact .inl h
    · by_cases h0 : n = 0
      · exact .inl h0
      · refine .inr ⟨b, off, h1, by simpa using h2, fun i hi => ?_⟩
        obtain ⟨z, hz, hcz⟩ := h3 i hi
        have hbg := hne _ h1 h0
        refine ⟨z, hz, ?_⟩
        rw [World.cell?_setCell_other _ _ _ _ (fun e => by rw [e] at ha; simp at ha hbg; omega)]
        exact hcz
/-- A result that is a group is written into its own variable: the cursor and the rest stay. -/
theorem res_set {w W : World} {g k b : Nat} {P Q G : Int} (hc : Cur W g k) (hg : w.grownBy W (some g)) (hb : g < b) (hw : w.heap.size ≤ b) :
    Cur (((W.setCell ⟨b, 0, none⟩ (.int .i64 P)).setCell ⟨b, 1, none⟩ (.int .i64 Q)).setCell ⟨b, 2, none⟩ (.int .i64 G)) g k ∧
    w.grownBy (((W.setCell ⟨b, 0, none⟩ (.int .i64 P)).setCell ⟨b, 1, none⟩ (.int .i64 Q)).setCell ⟨b, 2, none⟩ (.int .i64 G)) (some g) :=
  ⟨((hc.other _ _ hb).other _ _ hb).other _ _ hb, grown_set (grown_set (grown_set hg _ _ hw) _ _ hw) _ _ hw⟩

theorem Cur.drew {w : World} {g k : Nat} (h : Cur w g k) : Cur w.drew g k := by
  have := h.below ((Below.refl w.heap.size w).drew)
  exact this
theorem grown_drew (w : World) (r : Option Nat) : w.grownBy w.drew r := ⟨rfl, rfl, rfl, Nat.le_refl _, fun _ _ _ => rfl⟩

def TinyPost (w : World) (g k : Nat) (e : Ending) (w' : World) : Prop :=
  ∃ P Q G : Int, e = .returned (gv P Q G) ∧ goodB P Q G = true ∧ (3 ≤ Q ∧ Q ≤ 23) ∧ Cur w' g k ∧ w.grownBy w' (some g)

set_option maxHeartbeats 1600000 in
theorem tiny_any (g k : Nat) (hk : k ≤ 10000000000) (w : World) (hc : Cur w g k) :
    Calls Try.prog 164 #[.pointer (some ⟨g, 0, none⟩)] w (TinyPost w g (k + 2)) := by
  have HC := Lib.hid hc
  clear hc
  go_enter Try.func164, Try.ntmps164
  go_wp2_with fail
  have hb2 := bt (ba w (.cells #[.int .i64 0, .int .i64 0, .int .i64 0] 29)) (ba _ (.cells (tinies.map (Value.int .i64)).toArray 3))
  have HR0 := Lib.hid (((own3_new w 0 0 0 29).below (ba _ (.cells (tinies.map (Value.int .i64)).toArray 3))))
  refine (among_any g _ _ _ _ tinies (by omega) rfl (by decide) (by decide) (by rintro a ⟨⟩; have := HC.out.lt; simp; omega) _ (ints_at (w.alloc (.cells #[.int .i64 0, .int .i64 0, .int .i64 0] 29)) _ (by simp) tinies 3) (HC.out.below hb2)).mono ?_
  rintro e w1 ⟨q, rfl, hq, hc1, hg1⟩
  have hgl := HC.out.lt
  have HC1 := Lib.hid hc1
  have HG1 := Lib.hid (grown_trans (grown_below hb2 _) hg1)
  have HR1 := Lib.hid (show Own3 w1 w.heap.size 0 0 0 from ⟨HR0.out.1.grown hg1 (by omega), fun i => by
    have hl := HR0.out.1.lt
    rw [frozen_grown hg1 hl (by omega)]; exact HR0.out.2 i⟩)
  obtain ⟨t1, t2, t3⟩ := tiny_ok q hq
  obtain ⟨u1, u2⟩ := mk_good t1
  have HT := Lib.hid (And.intro u1 u2)
  have HM := Lib.hid t1
  clear hc1 hg1 hq hb2 t1 u1 u2
  go_wp2_with fail
  refine (sMakeGroup_any _ _).mono ?_
  rintro e w2 ⟨rfl, hb2⟩
  have HC2 := Lib.hid (HC1.out.below hb2)
  have HG2 := Lib.hid (grown_trans HG1.out (grown_below hb2 _))
  have HR2 := Lib.hid (HR1.out.below hb2)
  clear hb2
  obtain ⟨⟨c0, c1, c2⟩, hf⟩ := HR2.out.below (ba w2 (.cells #[.int .i64 (mkVP q), .int .i64 (mkVQ q), .int .i64 (mkVG q)] 29))
  have f0 := hf 0
  have f1 := hf 1
  have f2 := hf 2
  clear hf
  go_wp2
  (try simp only [Exit.inBlock, Exit.then])
  refine bodyPost_ret (v := gv (mkVP q) (mkVQ q) (mkVG q)) ?_ rfl ⟨mkVP q, mkVQ q, mkVG q, rfl, HT.out.1, by rw [HT.out.2]; exact ⟨t2, t3⟩, ?_⟩
  · rw [results_cell_one rfl]; go_simp
  · have hal := ba w2 (.cells #[.int .i64 (mkVP q), .int .i64 (mkVQ q), .int .i64 (mkVG q)] 29)
    exact res_set (HC2.out.below hal) (grown_trans HG2.out (grown_below hal _)) hgl (Nat.le_refl _)

/-- A good group's modulus: the two greatest numbers of the range are no primes. -/
theorem good_le {P Q G : Int} (h : goodB P Q G = true) : P ≤ 1999999998 := by
  obtain ⟨⟨_, p1⟩, _, _, _, _, _, hp⟩ := goodB_true.1 h
  by_cases h1 : P = 2000000000
  · subst h1
    have h2 := Num.prB_val 2000000000 (by decide) false (by decide +kernel)
    rw [show ((2000000000 : Nat) : Int) = 2000000000 from rfl] at h2
    rw [h2] at hp
    exact absurd hp (by decide)
  by_cases h1 : P = 1999999999
  · subst h1
    have h2 := Num.prB_val 1999999999 (by decide) false (by decide +kernel)
    rw [show ((1999999999 : Nat) : Int) = 1999999999 from rfl] at h2
    rw [h2] at hp
    exact absurd hp (by decide)
  omega

/-- A drawn group's ranges. -/
def DR (P Q G : Int) : Prop := (0 ≤ P ∧ P ≤ 1999999998) ∧ (0 ≤ Q ∧ Q ≤ 1000000000) ∧ 0 ≤ G ∧ G ≤ 2000000000
def GroupPost (w : World) (g k : Nat) (e : Ending) (w' : World) : Prop :=
  ∃ P Q G : Int, e = .returned (gv P Q G) ∧ DR P Q G ∧ Cur w' g k ∧ w.grownBy w' (some g)

theorem mk_range (q : Int) : DR (mkVP q) (mkVQ q) (mkVG q) := by
  cases h : mkB q
  · obtain ⟨e1, e2, e3⟩ := mk_off h
    rw [e1, e2, e3]
    exact ⟨by omega, by omega, by omega⟩
  · obtain ⟨h1, h2⟩ := mk_good h
    have h3 := goodB_true.1 h1
    have h5 := good_le h1
    have h4 : q ≤ 1000000 := by
      unfold mkB at h
      rw [Bool.and_eq_true, Bool.and_eq_true, inB_true] at h
      omega
    rw [h2] at h3 ⊢
    exact ⟨by omega, by omega, by omega⟩

end Go.Proofs.Ytdnofcpobpoehaa

