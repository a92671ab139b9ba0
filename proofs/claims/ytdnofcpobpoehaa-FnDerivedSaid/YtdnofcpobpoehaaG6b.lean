/- The product of powers that a deferred closure hands out. -/
import Derived.Test.YtdnofcpobpoehaaG6
namespace Go.Proofs.Ytdnofcpobpoehaa
open Go.RowKit

set_option maxRecDepth 100000 in
set_option maxHeartbeats 6400000 in
theorem multiplyPowers_most (P Q G : Int) (hm : Mo P Q) (ad ad' : Option Addr) (n cap cap' : Nat) (zs es : List Int) (hn : zs.length = n) (hn' : es.length = n) (hl : n ≤ 100) (w : World) (hz : IsInts w ad zs) (hz' : IsInts w ad' es) :
    Calls Try.prog 150 #[gv P Q G, .slice ad n cap, .slice ad' n cap'] w fun e w' => e = .returned (.tuple #[.int .i64 (powsVal P Q zs es), .bool (powsOk P Q zs es)]) ∧ Below w.heap.size w w' := by
  obtain ⟨⟨p0, p1⟩, q0, q1⟩ := hm
  have hmf : ∀ (fn : Fn) (first cap : Array Value) (w : World), (Instr.makeFunc fn first cap).run Try.prog w = .ok (.func fn first cap) w := fun _ _ _ _ => rfl
  go_enter_defers Try.func150, Try.ntmps150
  go_wp2
  go_loopw [10, 11, 17] (fun _ _ K wr => ∃ (k : Nat) (a : Int), k ≤ n ∧ (0 ≤ a ∧ a < P) ∧ K = .int .i64 k ∧ (powsOk P Q zs es = powsOk P Q (zs.drop k) (es.drop k) ∧ powsFrom P 1 zs es = powsFrom P a (zs.drop k) (es.drop k)) ∧ Below w.heap.size w wr ∧ GR wr w.heap.size P Q G ∧ Box wr (w.heap.size + 1) (.int .i64 0) ∧ Box wr (w.heap.size + 1 + 1) (.bool false) ∧ Box wr (w.heap.size + 1 + 1 + 1) (.int .i64 a)) (fun _ _ K _ => n - (intOf K).toNat)
  case atStart =>
    have hs1 : (w.alloc (.cells #[.int .i64 P, .int .i64 Q, .int .i64 G] 29)).heap.size = w.heap.size + 1 := by simp
    have hs2 : ((w.alloc (.cells #[.int .i64 P, .int .i64 Q, .int .i64 G] 29)).alloc (.cells #[.int .i64 0] 3)).heap.size = w.heap.size + 1 + 1 := by simp
    have hs3 : (((w.alloc (.cells #[.int .i64 P, .int .i64 Q, .int .i64 G] 29)).alloc (.cells #[.int .i64 0] 3)).alloc (.cells #[.bool false] 4)).heap.size = w.heap.size + 1 + 1 + 1 := by simp
    refine ⟨0, 1, Nat.zero_le _, ⟨by decide, by omega⟩, rfl, ⟨rfl, rfl⟩, bt (bt (bt (ba _ _) (ba _ _)) (ba _ _)) (ba _ _), (((gr_new w P Q G _).below (ba _ _)).below (ba _ _)).below (ba _ _), ?_, ?_, ?_⟩
    · have h := box_new (w.alloc (.cells #[.int .i64 P, .int .i64 Q, .int .i64 G] 29)) (.int .i64 0) 3
      rw [hs1] at h
      exact (h.below (ba _ _)).below (ba _ _)
    · have h := box_new ((w.alloc (.cells #[.int .i64 P, .int .i64 Q, .int .i64 G] 29)).alloc (.cells #[.int .i64 0] 3)) (.bool false) 4
      rw [hs2] at h
      exact h.below (ba _ _)
    · have h := box_new (((w.alloc (.cells #[.int .i64 P, .int .i64 Q, .int .i64 G] 29)).alloc (.cells #[.int .i64 0] 3)).alloc (.cells #[.bool false] 4)) (.int .i64 1) 3
      rw [hs3] at h
      exact h
  case round =>
    obtain ⟨k, a, hk, ⟨ha0, ha1⟩, rfl, ⟨hu, ht⟩, hbel, hgr, hb1, hb2, hb3⟩ := hrel
    by_cases hkn : k < n
    · obtain ⟨b, off, z, rfl, hb, hc, hd⟩ := (hz.below hbel (Nat.le_refl _)).at (k := k) (by omega)
      obtain ⟨b', off', e, rfl, hb', hc', hd'⟩ := (hz'.below hbel (Nat.le_refl _)).at (k := k) (by omega)
      obtain ⟨s1, s2, s3, s4⟩ := pows_step (P := P) (Q := Q) hd hd' hu ht
      have HS1 := Lib.hid s1
      have HS2 := Lib.hid s2
      have HS3 := Lib.hid s3
      have HS4 := Lib.hid s4
      have HB := Lib.hid hbel
      have HX1 := Lib.hid hb1
      have HX2 := Lib.hid hb2
      have HX3 := Lib.hid hb3
      have hgk : ∀ W, Below wr.heap.size wr W → GR W w.heap.size P Q G ∧ W.cell? ⟨b', off' + k, none⟩ = some (.int .i64 e) ∧ Box W (w.heap.size + 1 + 1 + 1) (.int .i64 a) := fun W h =>
        ⟨hgr.below h, by rw [h.cell (p := ⟨b', off' + k, none⟩) hb']; exact hc', hb3.below h⟩
      have HK := Lib.hid hgk
      have hks : ∀ W, Below wr.heap.size wr W → W.cell? ⟨w.heap.size, 0, none⟩ = some (.int .i64 P) ∧ W.cell? ⟨w.heap.size, 1, none⟩ = some (.int .i64 Q) ∧ W.cell? ⟨w.heap.size, 2, none⟩ = some (.int .i64 G) ∧ W.cell? ⟨b', off' + k, none⟩ = some (.int .i64 e) := fun W h => by
        obtain ⟨⟨x0, x1, x2⟩, x3, _⟩ := HK.out W h
        exact ⟨x0, x1, x2, x3⟩
      have HKS := Lib.hid hks
      obtain ⟨c0, c1, c2⟩ := hgr
      clear hks hgk hbel hd hd' hz hz' hu ht s1 s2 s3 s4 hb1 hb2 hb3
      cases h1 : elB P Q z
      · have HF := Lib.hid (HS1.out h1)
        have H1 := Lib.hid h1
        clear h1
        go_wp2_with fail
        refine wp_region_noPanic ?_
        first
          | (go_region_with (first | (go_at_call 90; refine (hasElement_any _ _ _ _ ⟨⟨p0, p1⟩, q0, q1⟩ _).mono ?_; rw [H1.out]; rintro e w1 ⟨rfl, hb1⟩; have HB1 := Lib.hid (show Below wr.heap.size wr w1 from by first | exact hb1 | exact bt ((Below.refl _ _).drew) hb1); obtain ⟨⟨d0, d1, d2⟩, d3, d4, d5⟩ := HK.out w1 HB1.out)))
          | fail "the region"
        all_goals
          (refine NoPanic.normal ?_
           have HBX := Lib.hid HB1.out
           obtain ⟨r0, r1⟩ := HX1.out.below HBX.out
           obtain ⟨k0, k1⟩ := HX2.out.below HBX.out
           go_wp2
           have X1 := ((HX1.out.below HBX.out).set (.int .i64 0)).other ⟨w.heap.size + 1 + 1, 0, none⟩ (.bool false) (by simp)
           have X2 := ((HX2.out.below HBX.out).other ⟨w.heap.size + 1, 0, none⟩ (.int .i64 0) (by simp)).set (.bool false)
           have X3 := ((HX3.out.below HBX.out).other ⟨w.heap.size + 1, 0, none⟩ (.int .i64 0) (by simp)).other ⟨w.heap.size + 1 + 1, 0, none⟩ (.bool false) (by simp)
           refine door _ _ w.heap.size 0 a false X1 X2 X3 rfl rfl ⟨?_, ?_⟩
           · rw [show powsVal P Q zs es = 0 by unfold powsVal; rw [HF.out]; rfl, HF.out]; rfl
           · exact ((HB.out.trans (HBX.out.mono HB.out.size)).setCell (Nat.le_succ _) _).setCell (Nat.le_trans (Nat.le_succ _) (Nat.le_succ _)) _)
      · obtain ⟨⟨z0, z1⟩, _⟩ := elB_true.1 h1
        have H1 := Lib.hid h1
        clear h1
        cases h2 : exB Q e
        · have HF := Lib.hid (HS2.out h2)
          have H2 := Lib.hid h2
          clear h2
          go_wp2_with fail
          refine wp_region_noPanic ?_
          first
            | (go_region_with (first | (go_at_call 90; refine (hasElement_any _ _ _ _ ⟨⟨p0, p1⟩, q0, q1⟩ _).mono ?_; rw [H1.out]; rintro e w1 ⟨rfl, hb1⟩; have HB1 := Lib.hid (show Below wr.heap.size wr w1 from by first | exact hb1 | exact bt ((Below.refl _ _).drew) hb1); obtain ⟨⟨d0, d1, d2⟩, d3, d4, d5⟩ := HK.out w1 HB1.out) | (go_at_call 125; refine (hasExponent_any _ _ _ _ _).mono ?_; rw [H2.out]; rintro e w2 ⟨rfl, hb2⟩; have HB2 := Lib.hid (show Below wr.heap.size wr w2 from by first | exact bt HB1.out hb2 | exact bt (HB1.out.drew) hb2))))
            | fail "the region"
          all_goals
            (refine NoPanic.normal ?_
             have HBX := Lib.hid HB2.out
             obtain ⟨r0, r1⟩ := HX1.out.below HBX.out
             obtain ⟨k0, k1⟩ := HX2.out.below HBX.out
             go_wp2
             have X1 := ((HX1.out.below HBX.out).set (.int .i64 0)).other ⟨w.heap.size + 1 + 1, 0, none⟩ (.bool false) (by simp)
             have X2 := ((HX2.out.below HBX.out).other ⟨w.heap.size + 1, 0, none⟩ (.int .i64 0) (by simp)).set (.bool false)
             have X3 := ((HX3.out.below HBX.out).other ⟨w.heap.size + 1, 0, none⟩ (.int .i64 0) (by simp)).other ⟨w.heap.size + 1 + 1, 0, none⟩ (.bool false) (by simp)
             refine door _ _ w.heap.size 0 a false X1 X2 X3 rfl rfl ⟨?_, ?_⟩
             · rw [show powsVal P Q zs es = 0 by unfold powsVal; rw [HF.out]; rfl, HF.out]; rfl
             · exact ((HB.out.trans (HBX.out.mono HB.out.size)).setCell (Nat.le_succ _) _).setCell (Nat.le_trans (Nat.le_succ _) (Nat.le_succ _)) _)
        · obtain ⟨e0, e1⟩ := exB_true.1 h2
          have HF := Lib.hid (HS3.out H1.out h2)
          have H2 := Lib.hid h2
          obtain ⟨v0, v1⟩ := pow_lt z e P p0
          obtain ⟨m0, m1⟩ := prod_bd (a := a) (z := Num.pow z e P) (by omega) (by omega) (by omega) (by omega)
          have hp1 : 0 ≤ a * Num.pow z e P % P := Int.emod_nonneg _ (by omega)
          have hp2 : a * Num.pow z e P % P < P := Int.emod_lt_of_pos _ (by omega)
          clear h2
          go_wp2_with fail
          refine wp_region_noPanic ?_
          first
            | (go_region_with (first | (go_at_call 90; refine (hasElement_any _ _ _ _ ⟨⟨p0, p1⟩, q0, q1⟩ _).mono ?_; rw [H1.out]; rintro e w1 ⟨rfl, hb1⟩; have HB1 := Lib.hid (show Below wr.heap.size wr w1 from by first | exact hb1 | exact bt ((Below.refl _ _).drew) hb1); obtain ⟨⟨d0, d1, d2⟩, d3, d4, d5⟩ := HK.out w1 HB1.out) | (go_at_call 125; refine (hasExponent_any _ _ _ _ _).mono ?_; rw [H2.out]; rintro e w2 ⟨rfl, hb2⟩; have HB2 := Lib.hid (show Below wr.heap.size wr w2 from by first | exact bt HB1.out hb2 | exact bt (HB1.out.drew) hb2))))
            | fail "the region"
          all_goals
            (refine NoPanic.normal ?_
             obtain ⟨⟨x0, x1, x2⟩, x3, x4, x5⟩ := HK.out w2 HB2.out
             clear d0 d1 d2 d3 d4 d5
             go_wp2_with fail
             refine wp_region_noPanic ?_)
          all_goals
            (first
              | (go_region_with (first | (go_at_call 132; refine (power_any _ _ _ _ _ (by omega) (by omega) (by omega) (by omega) (by omega) (by omega) _).mono ?_; rintro e w3 ⟨rfl, hb3⟩; have HB3 := Lib.hid (show Below wr.heap.size wr w3 from by first | exact bt HB2.out hb3 | exact bt (HB2.out.drew) hb3); obtain ⟨⟨y0, y1, y2⟩, y3, y4, y5⟩ := HK.out w3 HB3.out)))
              | fail "the product's region")
          all_goals
            (refine NoPanic.normal ?_
             go_wp2
             go_roundw
             case rel => exact ⟨k + 1, _, by omega, ⟨hp1, hp2⟩, by go_num, ⟨HF.out, HS4.out⟩, (HB.out.trans (HB3.out.mono HB.out.size)).setCell (Nat.le_add_right w.heap.size 3) _, (HK.out w3 HB3.out).1.other _ _ (show w.heap.size + 1 + 1 + 1 ≠ w.heap.size by omega), (HX1.out.below HB3.out).other _ _ (show w.heap.size + 1 + 1 + 1 ≠ w.heap.size + 1 by omega), (HX2.out.below HB3.out).other _ _ (show w.heap.size + 1 + 1 + 1 ≠ w.heap.size + 1 + 1 by omega), (HK.out w3 HB3.out).2.2.set _⟩
             case measure => simp only [intOf]; omega)
    · have hl0 : zs.drop k = [] := List.drop_of_length_le (by omega)
      have hl1 : es.drop k = [] := List.drop_of_length_le (by omega)
      rw [hl0, hl1] at hu ht
      have HU := Lib.hid (show powsOk P Q zs es = true from hu)
      have HT := Lib.hid (show powsFrom P 1 zs es = a from ht)
      have HB := Lib.hid hbel
      have HX1 := Lib.hid hb1
      have HX2 := Lib.hid hb2
      have HX3 := Lib.hid hb3
      obtain ⟨r0, r1⟩ := hb1
      obtain ⟨k0, k1⟩ := hb2
      clear hu ht hl0 hl1 hbel hb3 hgr
      go_wp2
      have X1 := (HX1.out.set (.int .i64 0)).other ⟨w.heap.size + 1 + 1, 0, none⟩ (.bool true) (by simp)
      have X2 := (HX2.out.other ⟨w.heap.size + 1, 0, none⟩ (.int .i64 0) (by simp)).set (.bool true)
      have X3 := (HX3.out.other ⟨w.heap.size + 1, 0, none⟩ (.int .i64 0) (by simp)).other ⟨w.heap.size + 1 + 1, 0, none⟩ (.bool true) (by simp)
      refine door _ _ w.heap.size 0 a true X1 X2 X3 rfl rfl ⟨?_, ?_⟩
      · rw [show powsVal P Q zs es = a by unfold powsVal; rw [HU.out]; exact HT.out, HU.out]; rfl
      · exact ((HB.out.setCell (Nat.le_succ _) _).setCell (Nat.le_trans (Nat.le_succ _) (Nat.le_succ _)) _).setCell (Nat.le_succ _) _

theorem multiplyPowers_any (P Q G : Int) (hm : Mo P Q) (ad ad' : Option Addr) (n cap cap' : Nat) (zs es : List Int) (hn : zs.length = n) (hn' : es.length = n) (hl : n ≤ 24) (w : World) (hz : IsInts w ad zs) (hz' : IsInts w ad' es) :
    Calls Try.prog 150 #[gv P Q G, .slice ad n cap, .slice ad' n cap'] w fun e w' => e = .returned (.tuple #[.int .i64 (powsVal P Q zs es), .bool (powsOk P Q zs es)]) ∧ Below w.heap.size w w' :=
  multiplyPowers_most P Q G hm ad ad' n cap cap' zs es hn hn' (by omega) w hz hz'

end Go.Proofs.Ytdnofcpobpoehaa

