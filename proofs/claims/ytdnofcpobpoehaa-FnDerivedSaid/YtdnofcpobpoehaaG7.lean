/- ProductOfPowers and ExpOf of the program and of the reference. -/
import Derived.Test.YtdnofcpobpoehaaG6b
import Derived.Deep.RegionHeld
namespace Go.Proofs.Ytdnofcpobpoehaa
open Go.RowKit

/-- ProductOfPowers' condition and what it answers. -/
def popB (P Q G : Int) (zs es : List Int) : Bool := goodB P Q G && decide (es.length = zs.length) && decide (zs.length ≤ 24) && powsOk P Q zs es
def popV (P Q G : Int) (zs es : List Int) : Int := if popB P Q G zs es then powsFrom P 1 zs es else 0
theorem pop_off {P Q G : Int} {zs es : List Int} (h : popB P Q G zs es = false) : popV P Q G zs es = 0 := by simp [popV, h]

set_option maxHeartbeats 1600000 in
theorem productOfPowers_any (P Q G : Int) (ad ad' : Option Addr) (n n' cap cap' : Nat) (zs es : List Int) (hn : zs.length = n) (hn' : es.length = n') (hl : n ≤ 1152921504606846976) (hl' : n' ≤ 1152921504606846976) (w : World) (hz : IsInts w ad zs) (hz' : IsInts w ad' es) :
    Calls Try.prog 103 #[gv P Q G, .slice ad n cap, .slice ad' n' cap'] w fun e w' => e = .returned (.tuple #[.int .i64 (popV P Q G zs es), .bool (popB P Q G zs es)]) ∧ Below w.heap.size w w' := by
  cases hg : goodB P Q G
  · have e1 : popB P Q G zs es = false := by simp [popB, hg]
    rw [pop_off e1, e1]
    have HG := Lib.hid hg
    clear hg e1
    go_enter Try.func103, Try.ntmps103
    go_wp2_with fail
    refine (isValidGroup_any _ _ _ _).mono ?_
    rw [HG.out]
    rintro e w1 ⟨rfl, hb1⟩
    have HB1 := Lib.hid (bt (ba _ _) hb1)
    clear hb1
    go_wp2
    go_ret2
    exact ⟨rfl, HB1.out⟩
  · have hmo := good_mo hg
    have HG := Lib.hid hg
    have H0 := Lib.hid (gr_new w P Q G 29)
    by_cases hnn : n = n'
    · by_cases h24 : n ≤ 24
      · have e1 : popB P Q G zs es = powsOk P Q zs es := by unfold popB; rw [hg, decide_eq_true (by omega), decide_eq_true (by omega)]; rfl
        have e2 : popV P Q G zs es = powsVal P Q zs es := by unfold popV powsVal; rw [e1]
        rw [e1, e2]
        subst hnn
        have HM := Lib.hid (fun (W : World) (h1 : IsInts W ad zs) (h2 : IsInts W ad' es) => multiplyPowers_any P Q G hmo ad ad' n cap cap' zs es hn hn' h24 W h1 h2)
        have HZ := Lib.hid hz
        have HZ' := Lib.hid hz'
        have h24i : (n : Int) ≤ 24 := by omega
        clear hg e1 e2 hn hn' hz hz' hmo
        go_enter Try.func103, Try.ntmps103
        go_wp2_with fail
        refine (isValidGroup_any _ _ _ _).mono ?_
        rw [HG.out]
        rintro e w1 ⟨rfl, hb1⟩
        have HB1 := Lib.hid (bt (ba _ _) hb1)
        obtain ⟨c0, c1, c2⟩ := H0.out.below hb1
        clear hb1
        go_wp2_with fail
        refine (HM.out _ (HZ.out.below HB1.out (Nat.le_refl _)) (HZ'.out.below HB1.out (Nat.le_refl _))).mono ?_
        rintro e w2 ⟨rfl, hb2⟩
        have HB2 := Lib.hid (bt HB1.out hb2)
        clear hb2
        go_wp2
        go_ret2
        exact ⟨rfl, HB2.out⟩
      · have e1 : popB P Q G zs es = false := by unfold popB; rw [decide_eq_false (show ¬ zs.length ≤ 24 by omega)]; simp
        rw [pop_off e1, e1]
        subst hnn
        have h24i : (24 : Int) < (n : Int) := by omega
        clear hg e1
        go_enter Try.func103, Try.ntmps103
        go_wp2_with fail
        refine (isValidGroup_any _ _ _ _).mono ?_
        rw [HG.out]
        rintro e w1 ⟨rfl, hb1⟩
        have HB1 := Lib.hid (bt (ba _ _) hb1)
        clear hb1
        go_wp2
        go_ret2
        exact ⟨rfl, HB1.out⟩
    · have e1 : popB P Q G zs es = false := by unfold popB; rw [decide_eq_false (show ¬ es.length = zs.length by omega)]; simp
      rw [pop_off e1, e1]
      have hnni : ((n : Int) != (n' : Int)) = true := by simp; omega
      clear hg e1 hn hn'
      go_enter Try.func103, Try.ntmps103
      go_wp2_with fail
      refine (isValidGroup_any _ _ _ _).mono ?_
      rw [HG.out]
      rintro e w1 ⟨rfl, hb1⟩
      have HB1 := Lib.hid (bt (ba _ _) hb1)
      clear hb1
      go_wp2
      go_ret2
      exact ⟨rfl, HB1.out⟩

/-- ExpOf's condition and what it answers. -/
def expB (P Q G x e : Int) : Bool := goodB P Q G && (elB P Q x && exB Q e)
def expV (P Q G x e : Int) : Int := if expB P Q G x e then Num.pow x e P else 0
theorem pop_one (P Q G x e : Int) : popB P Q G [x] [e] = expB P Q G x e ∧ popV P Q G [x] [e] = expV P Q G x e := by
  have h1 : popB P Q G [x] [e] = expB P Q G x e := by simp [popB, expB, powsOk]
  refine ⟨h1, ?_⟩
  unfold popV expV
  rw [h1]
  cases h : expB P Q G x e
  · rfl
  · simp only [if_true, powsFrom]
    unfold expB at h
    rw [Bool.and_eq_true] at h
    obtain ⟨⟨p0, p1⟩, _⟩ := good_mo h.1
    have := pow_lt x e P p0
    rw [Int.one_mul]
    exact Int.emod_eq_of_lt this.1 this.2

theorem ints_spot7 (w : World) (b : Nat) (hb : w.heap.size = b) (zs : List Int) (t : TypeId) : IsInts (w.alloc (.cells (zs.map (Value.int .i64)).toArray t)) (some ⟨b, 0, none⟩) zs := by
  subst hb; exact ints_lit w zs t

theorem exps_iff {Q : Int} {es : List Int} (h : allIn es 0 (Q - 1) = true) : ∀ e ∈ es, 0 ≤ e ∧ e < Q := by
  unfold allIn at h
  rw [List.all_eq_true] at h
  exact fun e he => by have := inB_true.1 (h e he); omega
theorem powsFrom_step {P acc t : Int} {z e : Int} {zs es : List Int} {k : Nat} (h : zs.drop k = z :: zs.drop (k + 1)) (h' : es.drop k = e :: es.drop (k + 1)) (ht : t = powsFrom P acc (zs.drop k) (es.drop k)) :
    t = powsFrom P (acc * Num.pow z e P % P) (zs.drop (k + 1)) (es.drop (k + 1)) := by
  rw [h, h'] at ht; exact ht

theorem gExp_ex (P Q G x e : Int) (h1 : 0 ≤ x) (h2 : x ≤ 2000000000) (h3 : 0 ≤ e) (h4 : e < Q) (h5 : 2 ≤ P) (h6 : P ≤ 2000000000) (h7 : 2 ≤ Q) (h8 : Q ≤ 2000000000) (w : World) :
    Calls Try.prog 119 #[gv P Q G, .int .i64 x, .int .i64 e] w fun e' w' => e' = .returned (.int .i64 (Num.pow x e P)) ∧ Below w.heap.size w w' := gExp_any P Q G x e h1 h2 h3 h4 h5 h6 h7 h8 w

set_option maxRecDepth 100000 in
set_option maxHeartbeats 3200000 in
theorem gProd_any (P Q G : Int) (ad ad' : Option Addr) (n cap cap' : Nat) (zs es : List Int) (hn : zs.length = n) (hn' : es.length = n) (hl : n ≤ 24) (h2 : 2 ≤ P) (h3 : P ≤ 2000000000) (h4 : 2 ≤ Q) (h5 : Q ≤ 2000000000) (hr : ∀ z ∈ zs, 0 ≤ z ∧ z < P) (hr' : ∀ e ∈ es, 0 ≤ e ∧ e < Q) (w : World) (hz : IsInts w ad zs) (hz' : IsInts w ad' es) :
    Calls Try.prog 122 #[gv P Q G, .slice ad n cap, .slice ad' n cap'] w fun e w' => e = .returned (.int .i64 (powsFrom P 1 zs es)) ∧ Below w.heap.size w w' := by
  have HR := Lib.hid hr
  have HR' := Lib.hid hr'
  clear hr hr'
  go_enter Try.func122, Try.ntmps122
  go_wp2
  go_loopw [7, 8, 9, 12] (fun A _ _ K wr => ∃ (k : Nat) (a : Int), k ≤ n ∧ (0 ≤ a ∧ a < P) ∧ A = .int .i64 a ∧ K = .int .i64 k ∧ powsFrom P 1 zs es = powsFrom P a (zs.drop k) (es.drop k) ∧ Below w.heap.size w wr ∧ GR wr w.heap.size P Q G) (fun _ _ _ K _ => n - (intOf K).toNat)
  case atStart => exact ⟨0, 1, Nat.zero_le _, ⟨by decide, by omega⟩, rfl, rfl, rfl, ba _ _, gr_new _ _ _ _ _⟩
  case round =>
    obtain ⟨k, a, hk, ⟨ha0, ha1⟩, rfl, rfl, he, hbel, hgr⟩ := hrel
    by_cases hkn : k < n
    · obtain ⟨b, off, z, rfl, hb, hc, hd⟩ := (hz.below hbel (Nat.le_refl _)).at (k := k) (by omega)
      obtain ⟨b', off', x, rfl, hb', hc', hd'⟩ := (hz'.below hbel (Nat.le_refl _)).at (k := k) (by omega)
      have HS := Lib.hid (powsFrom_step hd hd' he)
      obtain ⟨hz0, hz1⟩ := HR.out z (mem_drop hd)
      obtain ⟨hx0, hx1⟩ := HR'.out x (mem_drop hd')
      obtain ⟨v0, v1⟩ := pow_lt z x P h2
      obtain ⟨m0, m1⟩ := prod_bd (a := a) (z := Num.pow z x P) (by omega) (by omega) (by omega) (by omega)
      have hp1 : 0 ≤ a * Num.pow z x P % P := Int.emod_nonneg _ (by omega)
      have hp2 : a * Num.pow z x P % P < P := Int.emod_lt_of_pos _ (by omega)
      have HB := Lib.hid hbel
      have HG := Lib.hid hgr
      have HK := Lib.hid (show ∀ W, Below wr.heap.size wr W → GR W w.heap.size P Q G from fun W h => hgr.below h)
      obtain ⟨c0, c1, c2⟩ := hgr
      clear he hd hd' hbel
      go_wp2_with fail
      first
        | (go_region_with (first | (go_at_call 119; refine (gExp_any P Q G z x hz0 (by omega) hx0 hx1 h2 h3 h4 h5 _).mono ?_; rintro e1 w1 ⟨rfl, hb1⟩; have HB1 := Lib.hid (show Below wr.heap.size wr w1 from by first | exact hb1 | exact bt ((Below.refl _ _).drew) hb1); obtain ⟨d0, d1, d2⟩ := HK.out w1 HB1.out)))
        | fail "the region"
      all_goals
        (go_wp2
         go_roundw
         case rel => exact ⟨k + 1, _, by omega, ⟨hp1, hp2⟩, rfl, by go_num, HS.out, HB.out.trans (HB1.out.mono HB.out.size), HK.out w1 HB1.out⟩
         case measure => simp only [intOf]; omega)
    · have HE := Lib.hid he
      have HB := Lib.hid hbel
      clear he hbel
      go_wp2
      go_ret
      refine ⟨?_, HB.out⟩
      rw [HE.out, List.drop_of_length_le (by omega), List.drop_of_length_le (by omega)]; rfl

theorem pows_all {P Q G : Int} {zs es : List Int} (hg : goodB P Q G = true) (h24 : zs.length ≤ 24) (hl : es.length = zs.length) : popB P Q G zs es = (allEl P Q zs && allIn es 0 (Q - 1)) := by
  unfold popB
  rw [hg, decide_eq_true hl, decide_eq_true h24, powsOk_all P Q zs es hl.symm]; rfl

end Go.Proofs.Ytdnofcpobpoehaa

