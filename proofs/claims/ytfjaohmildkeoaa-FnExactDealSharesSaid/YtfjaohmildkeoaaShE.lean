/- Chapter 11: the shares of a polynomial; DealShares of both. -/
import Derived.Test.YtfjaohmildkeoaaShD
namespace Go.Proofs.Ytfjaohmildkeoaa
open Go.RowKit
set_option linter.unusedVariables false
set_option linter.unusedSimpArgs false

/-! ### The shares of a polynomial -/
theorem gr_belowB {w w' : World} {b B : Nat} {P Q G : Int} (h : GR w b P Q G) (hb : Below B w w') (hl : b < B) : GR w' b P Q G :=
  ⟨(hb.cell (p := ⟨b, 0, none⟩) hl).trans h.1, (hb.cell (p := ⟨b, 1, none⟩) hl).trans h.2.1, (hb.cell (p := ⟨b, 2, none⟩) hl).trans h.2.2⟩
theorem over_at {xs ys : List Int} {k : Nat} (hx : k ≤ xs.length) : (over xs ys k)[k]? = ys[k]? := by
  unfold over
  rw [List.getElem?_append_right (by simp; omega), List.length_take, Nat.min_eq_left hx, Nat.sub_self, List.getElem?_drop, Nat.add_zero]
set_option maxRecDepth 100000 in
set_option maxHeartbeats 1600000 in
theorem sharesOf_any (P Q G : Int) (h7 : 7 < Q) (hQ : Q ≤ 2000000000) (ad : Option Addr) (m cap : Nat) (f : List Int) (hm : f.length = m) (hl : m ≤ 1000000) (hf : ∀ z ∈ f, 0 ≤ z ∧ z < Q) (n : Nat) (hn : n ≤ 7) (w : World) (hz : IsInts w ad f) :
    Calls Try.prog 103 #[gv P Q G, .slice ad m cap, .int .i64 n] w fun e w' => ∃ g, e = .returned (.slice (some ⟨g, 0, none⟩) n n) ∧ w'.ownsRow w.heap.size 3 1 (.slice (some ⟨g, 0, none⟩) n n) n ((shV Q f n).map (Value.int .i64)) ∧ Below w.heap.size w w' := by
  have HF := Lib.hid hf
  have HM := Lib.hid hm
  have HZ := Lib.hid hz
  have HG0 := Lib.hid (gr_atS w w.heap.size rfl P Q G 24)
  clear hf hm hz
  go_enter Try.func103, Try.ntmps103
  go_wp2_with fail
  refine (firstTrustees_any n (by omega) _).mono ?_
  rintro e W1 ⟨g, rfl, hown, hb⟩
  have hs1 : (w.alloc (.cells #[.int .i64 P, .int .i64 Q, .int .i64 G] 24)).heap.size = w.heap.size + 1 := by simp
  rw [hs1] at hown hb
  have HO := Lib.hid hown
  have HB1 := Lib.hid hb
  have HG1 := Lib.hid (gr_belowB HG0.out hb (by omega))
  have HL1 := Lib.hid (show w.heap.size + 1 ≤ W1.heap.size by have := hb.size; simpa using this)
  have HW1 := Lib.hid (show Below w.heap.size w W1 from (ba w _).trans (hb.mono (by omega)))
  clear hown hb HG0 hs1
  go_wp2_with fail
  go_loopw [8, 9, 14] (fun _ _ K wr => ∃ k : Nat, k ≤ n ∧ K = .int .i64 k ∧ wr.ownsRow (w.heap.size + 1) 3 1 (.slice (some ⟨g, 0, none⟩) n n) n ((over (shV Q f n) (iota n) k).map (Value.int .i64)) ∧ Below (w.heap.size + 1) W1 wr) (fun _ _ K _ => n - (intOf K).toNat)
  case atStart => exact ⟨0, Nat.zero_le _, rfl, by rw [over_zero]; exact HO.out, Below.refl _ _⟩
  case round =>
    obtain ⟨k, hk, rfl, hownr, hbel⟩ := hrel
    have HB := Lib.hid hbel
    clear hbel
    by_cases hkn : k < n
    · have hit : (iota n)[k]? = some ((k : Int) + 1) := by
        rw [List.getElem?_eq_getElem (by rw [iota_length]; exact hkn), iota_get]
      obtain ⟨hcu, hfu⟩ := own_at hownr (j := k) hkn ((over_at (by rw [shV_length]; omega)).trans hit)
      have HR := Lib.hid hownr
      have HGr := Lib.hid (gr_belowB HG1.out HB.out (Nat.lt_succ_self _))
      obtain ⟨q0, q1, q2⟩ := HGr.out
      have HV := Lib.hid (show ∀ h : k < (shV Q f n).length, (shV Q f n)[k] = pev Q ((k : Int) + 1) f from fun h => evAll_get (rest := (iota n).drop (k + 1)) (by rw [← iota_get (n := n) (k := k) (by rw [iota_length]; exact hkn)]; exact List.drop_eq_getElem_cons _) h)
      clear hownr hit
      go_wp2_with fail
      refine (valueAt_any Q ad m cap f ((k : Int) + 1) HM.out (by omega) (by omega) hQ (by omega) (by omega) HF.out _ (HZ.out.below (HW1.out.trans (HB.out.mono (Nat.le_succ _))) (Nat.le_refl _))).mono ?_
      rintro e w3 ⟨rfl, hb3⟩
      have ho3 := own_below HR.out hb3
      obtain ⟨⟨u, hcu3⟩, hfu3⟩ := own_cell ho3 hkn
      have HO3 := Lib.hid (inv_store ho3 HV.out (by rw [shV_length]; exact hkn) (by rw [iota_length]; exact hkn))
      have HB3 := Lib.hid (HB.out.trans (hb3.mono (Nat.le_trans HL1.out HB.out.size)))
      clear hb3 ho3 q0 q1 q2 hcu hfu
      go_wp2
      go_roundw
      case rel => exact ⟨k + 1, by omega, by go_num, HO3.out, HB3.out.setCell (by have := (HO3.out.lt g rfl).1; exact this) _⟩
      case measure => simp only [intOf]; omega
    · have HR := Lib.hid hownr
      clear hownr
      go_wp2
      go_ret
      refine ⟨g, rfl, ?_, HW1.out.trans (HB.out.mono (by omega))⟩
      have h := HR.out
      rw [over_all _ _ (by rw [shV_length]; omega) (by rw [iota_length]; omega)] at h
      exact own_rebase h (fun q hq => by have := (h.lt q hq).1; omega)

/-! ### DealShares -/
def dsB (P Q G : Int) (cs : List Int) (n : Int) : Bool := trB P Q G && (inB n 1 7 && (inB (cs.length : Int) 1 n && allIn cs 0 (Q - 1)))
def pwL (P G : Int) (cs : List Int) : List Int := cs.map fun a => Num.pow G a P
theorem pwL_length (P G : Int) (cs : List Int) : (pwL P G cs).length = cs.length := by simp [pwL]
theorem pwL_get {P G : Int} {cs rest : List Int} {a : Int} {k : Nat} (h : cs.drop k = a :: rest) (hk : k < (pwL P G cs).length) : (pwL P G cs)[k] = Num.pow G a P := by
  obtain ⟨hk', he⟩ := head_of_drop h
  simp [pwL, he]
theorem pwL_take {P G : Int} {cs rest : List Int} {a : Int} {k : Nat} (h : cs.drop k = a :: rest) : (pwL P G cs).take (k + 1) = (pwL P G cs).take k ++ [Num.pow G a P] := by
  obtain ⟨hk', _⟩ := head_of_drop h
  rw [List.take_succ_eq_append_getElem (by rw [pwL_length]; exact hk'), pwL_get h]
def dsR (P Q G : Int) (cs : List Int) (n : Int) : DlD := if dsB P Q G cs n then ⟨pwL P G cs, shV Q cs n.toNat⟩ else ⟨[], []⟩
theorem dsB_true {P Q G : Int} {cs : List Int} {n : Int} : dsB P Q G cs n = true ↔ trB P Q G = true ∧ (1 ≤ n ∧ n ≤ 7) ∧ (1 ≤ (cs.length : Int) ∧ (cs.length : Int) ≤ n) ∧ allIn cs 0 (Q - 1) = true := by
  unfold dsB; rw [Bool.and_eq_true, Bool.and_eq_true, Bool.and_eq_true, inB_true, inB_true]
theorem dsB_off {P Q G : Int} {cs : List Int} {n : Int} (h : ¬ (trB P Q G = true ∧ (1 ≤ n ∧ n ≤ 7) ∧ (1 ≤ (cs.length : Int) ∧ (cs.length : Int) ≤ n) ∧ allIn cs 0 (Q - 1) = true)) : dsB P Q G cs n = false := by
  rw [← Bool.not_eq_true, dsB_true]; exact h
theorem dsR_bound (P Q G : Int) (cs : List Int) (n : Int) : (dsR P Q G cs n).n ≤ 14 := by
  unfold dsR
  split
  · rename_i h
    have := dsB_true.1 h
    simp only [DlD.n, pwL_length, shV_length]; omega
  · simp [DlD.n]
def AnsD (w : World) (d : DlD) (ok : Bool) (e : Ending) (w' : World) : Prop := ∃ v, e = .returned (.tuple #[v, .bool ok]) ∧ OwD w.heap.size w'.heap.size w' v d ∧ Below w.heap.size w w'
theorem mid_two7 (w : World) (b : Nat) (x y : Value) : Mid b (b + 1) w ((w.setCell ⟨b, 0, none⟩ x).setCell ⟨b, 1, none⟩ y) := (mid_cell w b 0 x).trans (mid_cell _ b 1 y)
theorem allIn_pw {Q : Int} {cs : List Int} (h : allIn cs 0 (Q - 1) = true) : ∀ z ∈ cs, 0 ≤ z ∧ z < Q := allIn_res7 h

set_option maxRecDepth 100000 in
set_option maxHeartbeats 3200000 in
theorem dealShares_any (P Q G : Int) (n : Int) (ad : Option Addr) (cap : Nat) (cs : List Int) (hl : cs.length ≤ 1048576) {w : World} (hz : IsInts w ad cs) :
    Calls Try.prog 38 #[gv P Q G, .slice ad cs.length cap, .int .i64 n] w (AnsD w (dsR P Q G cs n) (dsB P Q G cs n)) := by
  have G_0 := Lib.hid ((gr_atS w w.heap.size rfl P Q G 24).below (ba (w.alloc (.cells #[.int .i64 P, .int .i64 Q, .int .i64 G] 24)) (.cells #[.slice none 0 0, .slice none 0 0] 34)))
  have Z_0 := Lib.hid (v2_at (w.alloc (.cells #[.int .i64 P, .int .i64 Q, .int .i64 G] 24)) (w.heap.size + 1) (by simp) (.slice none 0 0) (.slice none 0 0) 34)
  have HB_0 := Lib.hid (show Below w.heap.size w ((w.alloc (.cells #[.int .i64 P, .int .i64 Q, .int .i64 G] 24)).alloc (.cells #[.slice none 0 0, .slice none 0 0] 34)) from bt (ba _ _) (ba _ _))
  have C_0 := Lib.hid (LZ.below hz HB_0.out)
  clear hz
  cases h0 : trB P Q G
  · have K0 := Lib.hid (show trB P Q G = false from h0)
    have E1 := Lib.hid (show dsB P Q G cs n = false from dsB_off (fun h => by rw [h0] at h; exact absurd h.1 (by simp)))
    have E2 := Lib.hid (show dsR P Q G cs n = ⟨[], []⟩ by simp [dsR, E1.out])
    rw [E1.out, E2.out]
    clear h0
    obtain ⟨gG0, gG1, gG2⟩ := G_0.out
    obtain ⟨zZ0, zZ1, zfZ⟩ := Z_0.out
    have zfZ0 := zfZ 0
    have zfZ1 := zfZ 1
    clear zfZ
    go_enter Try.func38, Try.ntmps38
    go_wp2_with fail
    refine (hasTrustees_any P Q G _).mono ?_
    rw [K0.out]
    rintro e v1 ⟨rfl, hb⟩
    have HB_1 := Lib.hid (bt HB_0.out hb)
    have G_1 := Lib.hid (G_0.out.below hb)
    have Z_1 := Lib.hid (Z_0.out.below hb)
    have C_1 := Lib.hid (C_0.out.below hb)
    clear hb gG0 gG1 gG2 zZ0 zZ1 zfZ0 zfZ1
    obtain ⟨gG0, gG1, gG2⟩ := G_1.out
    obtain ⟨zZ0, zZ1, zfZ⟩ := Z_1.out
    have zfZ0 := zfZ 0
    have zfZ1 := zfZ 1
    clear zfZ
    go_wp2
    (try simp only [Exit.inBlock, Exit.then])
    refine bodyPost_ret (v := .tuple #[.agg #[.slice none 0 0, .slice none 0 0], .bool false]) ?_ rfl ?_
    · rw [results_cell_tmp rfl]; go_simp
    · have hm5 := mid_two7 v1 (w.heap.size + 1) (.slice none 0 0) (.slice none 0 0)
      exact ⟨_, rfl, owD_nil _ _ (Nat.le_trans HB_1.out.size hm5.size), HB_1.out.trans (hm5.toBelow (by omega) HB_1.out.size)⟩
  have K0 := Lib.hid (show trB P Q G = true from h0)
  by_cases h1 : ¬ (n ≤ 7)
  · have B1 : 7 < n := by omega
    have E1 := Lib.hid (show dsB P Q G cs n = false from dsB_off (fun h => by omega))
    have E2 := Lib.hid (show dsR P Q G cs n = ⟨[], []⟩ by simp [dsR, E1.out])
    rw [E1.out, E2.out]
    clear h0 h1
    obtain ⟨gG0, gG1, gG2⟩ := G_0.out
    obtain ⟨zZ0, zZ1, zfZ⟩ := Z_0.out
    have zfZ0 := zfZ 0
    have zfZ1 := zfZ 1
    clear zfZ
    go_enter Try.func38, Try.ntmps38
    go_wp2_with fail
    refine (hasTrustees_any P Q G _).mono ?_
    rw [K0.out]
    rintro e v1 ⟨rfl, hb⟩
    have HB_1 := Lib.hid (bt HB_0.out hb)
    have G_1 := Lib.hid (G_0.out.below hb)
    have Z_1 := Lib.hid (Z_0.out.below hb)
    have C_1 := Lib.hid (C_0.out.below hb)
    clear hb gG0 gG1 gG2 zZ0 zZ1 zfZ0 zfZ1
    obtain ⟨gG0, gG1, gG2⟩ := G_1.out
    obtain ⟨zZ0, zZ1, zfZ⟩ := Z_1.out
    have zfZ0 := zfZ 0
    have zfZ1 := zfZ 1
    clear zfZ
    go_wp2
    (try simp only [Exit.inBlock, Exit.then])
    refine bodyPost_ret (v := .tuple #[.agg #[.slice none 0 0, .slice none 0 0], .bool false]) ?_ rfl ?_
    · rw [results_cell_tmp rfl]; go_simp
    · have hm5 := mid_two7 v1 (w.heap.size + 1) (.slice none 0 0) (.slice none 0 0)
      exact ⟨_, rfl, owD_nil _ _ (Nat.le_trans HB_1.out.size hm5.size), HB_1.out.trans (hm5.toBelow (by omega) HB_1.out.size)⟩
  replace h1 := Decidable.not_not.1 h1
  have B1 : n ≤ 7 := by exact h1
  by_cases h2 : ¬ (cs.length ≠ 0)
  · have B2 : ((cs.length : Int) == 0) = true := by have := Decidable.not_not.1 h2; simp [this]
    have E1 := Lib.hid (show dsB P Q G cs n = false from dsB_off (fun h => by omega))
    have E2 := Lib.hid (show dsR P Q G cs n = ⟨[], []⟩ by simp [dsR, E1.out])
    rw [E1.out, E2.out]
    clear h0 h1 h2
    obtain ⟨gG0, gG1, gG2⟩ := G_0.out
    obtain ⟨zZ0, zZ1, zfZ⟩ := Z_0.out
    have zfZ0 := zfZ 0
    have zfZ1 := zfZ 1
    clear zfZ
    go_enter Try.func38, Try.ntmps38
    go_wp2_with fail
    refine (hasTrustees_any P Q G _).mono ?_
    rw [K0.out]
    rintro e v1 ⟨rfl, hb⟩
    have HB_1 := Lib.hid (bt HB_0.out hb)
    have G_1 := Lib.hid (G_0.out.below hb)
    have Z_1 := Lib.hid (Z_0.out.below hb)
    have C_1 := Lib.hid (C_0.out.below hb)
    clear hb gG0 gG1 gG2 zZ0 zZ1 zfZ0 zfZ1
    obtain ⟨gG0, gG1, gG2⟩ := G_1.out
    obtain ⟨zZ0, zZ1, zfZ⟩ := Z_1.out
    have zfZ0 := zfZ 0
    have zfZ1 := zfZ 1
    clear zfZ
    go_wp2
    (try simp only [Exit.inBlock, Exit.then])
    refine bodyPost_ret (v := .tuple #[.agg #[.slice none 0 0, .slice none 0 0], .bool false]) ?_ rfl ?_
    · rw [results_cell_tmp rfl]; go_simp
    · have hm5 := mid_two7 v1 (w.heap.size + 1) (.slice none 0 0) (.slice none 0 0)
      exact ⟨_, rfl, owD_nil _ _ (Nat.le_trans HB_1.out.size hm5.size), HB_1.out.trans (hm5.toBelow (by omega) HB_1.out.size)⟩
  replace h2 := Decidable.not_not.1 h2
  have B2 : ((cs.length : Int) == 0) = false := by simp; intro h; exact h2 (by simp [h])
  by_cases h3 : ¬ ((cs.length : Int) ≤ n)
  · have B3 : n < (cs.length : Int) := by omega
    have E1 := Lib.hid (show dsB P Q G cs n = false from dsB_off (fun h => by omega))
    have E2 := Lib.hid (show dsR P Q G cs n = ⟨[], []⟩ by simp [dsR, E1.out])
    rw [E1.out, E2.out]
    clear h0 h1 h2 h3
    obtain ⟨gG0, gG1, gG2⟩ := G_0.out
    obtain ⟨zZ0, zZ1, zfZ⟩ := Z_0.out
    have zfZ0 := zfZ 0
    have zfZ1 := zfZ 1
    clear zfZ
    go_enter Try.func38, Try.ntmps38
    go_wp2_with fail
    refine (hasTrustees_any P Q G _).mono ?_
    rw [K0.out]
    rintro e v1 ⟨rfl, hb⟩
    have HB_1 := Lib.hid (bt HB_0.out hb)
    have G_1 := Lib.hid (G_0.out.below hb)
    have Z_1 := Lib.hid (Z_0.out.below hb)
    have C_1 := Lib.hid (C_0.out.below hb)
    clear hb gG0 gG1 gG2 zZ0 zZ1 zfZ0 zfZ1
    obtain ⟨gG0, gG1, gG2⟩ := G_1.out
    obtain ⟨zZ0, zZ1, zfZ⟩ := Z_1.out
    have zfZ0 := zfZ 0
    have zfZ1 := zfZ 1
    clear zfZ
    go_wp2
    (try simp only [Exit.inBlock, Exit.then])
    refine bodyPost_ret (v := .tuple #[.agg #[.slice none 0 0, .slice none 0 0], .bool false]) ?_ rfl ?_
    · rw [results_cell_tmp rfl]; go_simp
    · have hm5 := mid_two7 v1 (w.heap.size + 1) (.slice none 0 0) (.slice none 0 0)
      exact ⟨_, rfl, owD_nil _ _ (Nat.le_trans HB_1.out.size hm5.size), HB_1.out.trans (hm5.toBelow (by omega) HB_1.out.size)⟩
  replace h3 := Decidable.not_not.1 h3
  have B3 : (cs.length : Int) ≤ n := by exact h3
  cases h4 : exsB Q cs
  · have K4 := Lib.hid (show exsB Q cs = false from h4)
    have E1 := Lib.hid (show dsB P Q G cs n = false from dsB_off (fun h => by rw [exsB_short (by omega)] at h4; rw [h4] at h; exact absurd h.2.2.2 (by simp)))
    have E2 := Lib.hid (show dsR P Q G cs n = ⟨[], []⟩ by simp [dsR, E1.out])
    rw [E1.out, E2.out]
    clear h0 h1 h2 h3 h4
    obtain ⟨gG0, gG1, gG2⟩ := G_0.out
    obtain ⟨zZ0, zZ1, zfZ⟩ := Z_0.out
    have zfZ0 := zfZ 0
    have zfZ1 := zfZ 1
    clear zfZ
    go_enter Try.func38, Try.ntmps38
    go_wp2_with fail
    refine (hasTrustees_any P Q G _).mono ?_
    rw [K0.out]
    rintro e v1 ⟨rfl, hb⟩
    have HB_1 := Lib.hid (bt HB_0.out hb)
    have G_1 := Lib.hid (G_0.out.below hb)
    have Z_1 := Lib.hid (Z_0.out.below hb)
    have C_1 := Lib.hid (C_0.out.below hb)
    clear hb gG0 gG1 gG2 zZ0 zZ1 zfZ0 zfZ1
    obtain ⟨gG0, gG1, gG2⟩ := G_1.out
    obtain ⟨zZ0, zZ1, zfZ⟩ := Z_1.out
    have zfZ0 := zfZ 0
    have zfZ1 := zfZ 1
    clear zfZ
    go_wp2_with fail
    refine (areExponents_any P Q G ad cs.length cap cs rfl (by omega) _ C_1.out).mono ?_
    rw [K4.out]
    rintro e v2 ⟨rfl, hb⟩
    have HB_2 := Lib.hid (bt HB_1.out hb)
    have G_2 := Lib.hid (G_1.out.below hb)
    have Z_2 := Lib.hid (Z_1.out.below hb)
    have C_2 := Lib.hid (C_1.out.below hb)
    clear hb gG0 gG1 gG2 zZ0 zZ1 zfZ0 zfZ1
    obtain ⟨gG0, gG1, gG2⟩ := G_2.out
    obtain ⟨zZ0, zZ1, zfZ⟩ := Z_2.out
    have zfZ0 := zfZ 0
    have zfZ1 := zfZ 1
    clear zfZ
    go_wp2
    (try simp only [Exit.inBlock, Exit.then])
    refine bodyPost_ret (v := .tuple #[.agg #[.slice none 0 0, .slice none 0 0], .bool false]) ?_ rfl ?_
    · rw [results_cell_tmp rfl]; go_simp
    · have hm5 := mid_two7 v2 (w.heap.size + 1) (.slice none 0 0) (.slice none 0 0)
      exact ⟨_, rfl, owD_nil _ _ (Nat.le_trans HB_2.out.size hm5.size), HB_2.out.trans (hm5.toBelow (by omega) HB_2.out.size)⟩
  have K4 := Lib.hid (show exsB Q cs = true from h4)
  have E1 := Lib.hid (show dsB P Q G cs n = true from dsB_true.2 ⟨h0, ⟨by omega, h1⟩, ⟨by omega, h3⟩, by rw [← exsB_short (by omega)]; exact h4⟩)
  have E2 := Lib.hid (show dsR P Q G cs n = ⟨pwL P G cs, shV Q cs n.toNat⟩ by simp [dsR, E1.out])
  rw [E1.out, E2.out]
  obtain ⟨hd0, ⟨hd1, hd2⟩, ⟨hd3, hd4⟩, hd5⟩ := dsB_true.1 E1.out
  obtain ⟨hgd, hmo2, hq7⟩ := trB_of hd0
  have hbg := goodB_true.1 hgd
  have hP2 : 2 ≤ P := by omega
  have hP3 : P ≤ 2000000000 := by omega
  have hQ3 : Q ≤ 2000000000 := by omega
  have hG0 : 0 ≤ G := by omega
  have hG1 : G ≤ 2000000000 := by omega
  have HRS := Lib.hid (allIn_pw hd5)
  clear h0 h1 h2 h3 h4 hbg hgd hd0 hd5 E1 E2
  obtain ⟨n, rfl⟩ := Int.eq_ofNat_of_zero_le (show 0 ≤ n by omega)
  rw [Int.toNat_natCast]
  obtain ⟨i0, hi0, hz0, hz1, hz2⟩ := info_parts Try.info3
  have HZ2 := Lib.hid hz2
  clear hz2
  obtain ⟨gG0, gG1, gG2⟩ := G_0.out
  obtain ⟨zZ0, zZ1, zfZ⟩ := Z_0.out
  have zfZ0 := zfZ 0
  have zfZ1 := zfZ 1
  clear zfZ
  go_enter Try.func38, Try.ntmps38
  go_wp2_with fail
  refine (hasTrustees_any P Q G _).mono ?_
  rw [K0.out]
  rintro e v1 ⟨rfl, hb⟩
  have HB_1 := Lib.hid (bt HB_0.out hb)
  have G_1 := Lib.hid (G_0.out.below hb)
  have Z_1 := Lib.hid (Z_0.out.below hb)
  have C_1 := Lib.hid (C_0.out.below hb)
  clear hb gG0 gG1 gG2 zZ0 zZ1 zfZ0 zfZ1
  obtain ⟨gG0, gG1, gG2⟩ := G_1.out
  obtain ⟨zZ0, zZ1, zfZ⟩ := Z_1.out
  have zfZ0 := zfZ 0
  have zfZ1 := zfZ 1
  clear zfZ
  go_wp2_with fail
  refine (areExponents_any P Q G ad cs.length cap cs rfl (by omega) _ C_1.out).mono ?_
  rw [K4.out]
  rintro e v2 ⟨rfl, hb⟩
  have HB_2 := Lib.hid (bt HB_1.out hb)
  have G_2 := Lib.hid (G_1.out.below hb)
  have Z_2 := Lib.hid (Z_1.out.below hb)
  have C_2 := Lib.hid (C_1.out.below hb)
  clear hb gG0 gG1 gG2 zZ0 zZ1 zfZ0 zfZ1
  obtain ⟨gG0, gG1, gG2⟩ := G_2.out
  obtain ⟨zZ0, zZ1, zfZ⟩ := Z_2.out
  have zfZ0 := zfZ 0
  have zfZ1 := zfZ 1
  clear zfZ
  go_wp2_with (at_make
               refine wpList_make_full _ rfl _ _ 25 rfl v2.heap.size 3 i0 (.int .i64 0) 1 Try.underlying25 hi0 hz0 hz1 .i64 .i64 _ _ cs.length rfl rfl rfl rfl (by rw [HZ2.out]; omega) (by unfold maxLen; omega) (Nat.le_refl _) ?_
               intro w2 hown hgrow
               have HOW := Lib.hid (made_zeros hown)
               have HB2 := Lib.hid ((Below.refl v2.heap.size v2).grown hgrow (Nat.le_refl _) (by simp))
               clear hown hgrow)
  go_loopw [9, 10, 41] (fun _ _ K wr => ∃ k : Nat, k ≤ cs.length ∧ K = .int .i64 k ∧ wr.ownsRow v2.heap.size 3 1 (.slice (some ⟨v2.heap.size, 0, none⟩) cs.length cs.length) cs.length ((over (pwL P G cs) (List.replicate cs.length 0) k).map (Value.int .i64)) ∧ Below v2.heap.size v2 wr) (fun _ _ K _ => cs.length - (intOf K).toNat)
  case atStart => exact ⟨0, Nat.zero_le _, rfl, by rw [over_zero]; exact HOW.out, HB2.out⟩
  case round =>
    obtain ⟨k, hk, rfl, hownr, hbel⟩ := hrel
    have HOr := Lib.hid hownr
    have HBr := Lib.hid hbel
    have HLV := Lib.hid Z_2.out.lt
    have HGr := Lib.hid (G_2.out.below hbel)
    have HCr := Lib.hid (C_2.out.below hbel)
    have HZr := Lib.hid (Z_2.out.below hbel)
    clear hownr hbel HOW HB2
    by_cases hkn : k < cs.length
    · obtain ⟨b, off, a, rfl, hb, hcx, hd⟩ := (show IsInts wr ad cs from HCr.out).at (k := k) hkn
      obtain ⟨ha0, ha1⟩ := HRS.out a (mem_drop hd)
      have HGT := Lib.hid (fun h => pwL_get (P := P) (G := G) hd h)
      obtain ⟨q0, q1, q2⟩ := HGr.out
      clear hd
      go_wp2_with fail
      refine (power_any P Q G G a hG0 hG1 ha0 (by omega) hP2 hP3 _).mono ?_
      rintro e w3 ⟨rfl, hb3⟩
      have ho3 := own_below HOr.out hb3
      obtain ⟨⟨u, hcu3⟩, hfu3⟩ := own_cell ho3 hkn
      have HO3 := Lib.hid (inv_store ho3 HGT.out (by rw [pwL_length]; exact hkn) (by simpa using hkn))
      have HB3 := Lib.hid (HBr.out.trans (hb3.mono HBr.out.size))
      clear hb3 ho3 q0 q1 q2
      go_wp2
      go_roundw
      case rel => exact ⟨k + 1, by omega, by go_num, HO3.out, HB3.out.setCell (Nat.le_refl _) _⟩
      case measure => simp only [intOf]; omega
    · have hown := HOr.out
      rw [over_all _ _ (by rw [pwL_length]; omega) (by simp; omega)] at hown
      have HO1 := Lib.hid (show OwI v2.heap.size wr.heap.size wr _ (pwL P G cs) from owI_mk hown HBr.out.size)
      obtain ⟨q0, q1, q2⟩ := HGr.out
      obtain ⟨y0, y1, yf⟩ := HZr.out
      have yf0 := yf 0
      have yf1 := yf 1
      clear hown HOr yf
      go_wp2_with fail
      refine (sharesOf_any P Q G hq7 hQ3 ad cs.length cap cs rfl (by omega) HRS.out n (by omega) _ HCr.out).mono ?_
      rintro e w4 ⟨g, rfl, hown, hb4⟩
      have HO4 := Lib.hid (HO1.out.below hb4)
      have HS4 := Lib.hid (owI_mk hown hb4.size)
      have HZ4 := Lib.hid (HZr.out.below hb4)
      have HB4 := Lib.hid (bt (bt HB_2.out HBr.out) hb4)
      clear hown hb4 q0 q1 q2 y0 y1 yf0 yf1
      obtain ⟨y0, y1, yf⟩ := HZ4.out
      have yf0 := yf 0
      have yf1 := yf 1
      clear yf
      go_wp2
      (try simp only [Exit.inBlock, Exit.then])
      refine bodyPost_ret (v := .tuple #[.agg #[.slice (some ⟨v2.heap.size, 0, none⟩) cs.length cs.length, .slice (some ⟨g, 0, none⟩) n n], .bool true]) ?_ rfl ?_
      · rw [results_cell_tmp rfl]; go_simp
      · have hm5 := mid_two7 w4 (w.heap.size + 1) (.slice (some ⟨v2.heap.size, 0, none⟩) cs.length cs.length) (.slice (some ⟨g, 0, none⟩) n n)
        have hlv := HLV.out
        have hlr := HO4.out.2.2.2
        have h1 := HO4.out.mid hm5 (.inr (by omega))
        have h2 := HS4.out.mid hm5 (.inr (by omega))
        exact ⟨_, rfl, ⟨_, _, wr.heap.size, rfl, h1.wide (by omega) (Nat.le_refl _) h1.2.2.1, h2.wide (Nat.le_refl _) hm5.size (Nat.le_refl _)⟩, HB4.out.trans (hm5.toBelow (by omega) HB4.out.size)⟩

/-! ### DealShares of the reference -/
/-- What lies there while a dealing is built: the group's box, the answer's, the dealing's. -/
def SD (w0 w : World) (P Q G : Int) (A B : Value) : Prop :=
  GR w w0.heap.size P Q G ∧ V2 w (w0.heap.size + 1) (.slice none 0 0) (.slice none 0 0) ∧ V2 w (w0.heap.size + 2) A B ∧ Below w0.heap.size w0 w
theorem gr_mid7 {w w' : World} {A B b : Nat} {P Q G : Int} (h : GR w b P Q G) (hm : Mid A B w w') (ho : b < A) : GR w' b P Q G := by
  have he := hm.block b h.lt (.inl ho)
  exact ⟨(World.cell?_of_block (a := ⟨b, 0, none⟩) he).trans h.1, (World.cell?_of_block (a := ⟨b, 1, none⟩) he).trans h.2.1, (World.cell?_of_block (a := ⟨b, 2, none⟩) he).trans h.2.2⟩
theorem SD.mid {w0 w w' : World} {P Q G : Int} {A B : Value} {N M : Nat} (h : SD w0 w P Q G A B) (hm : Mid N M w w') (hN : w0.heap.size + 3 ≤ N) : SD w0 w' P Q G A B :=
  ⟨gr_mid7 h.1 hm (by omega), h.2.1.mid hm (.inl (by omega)), h.2.2.1.mid hm (.inl (by omega)), h.2.2.2.trans (hm.toBelow (by omega) h.2.2.2.size)⟩
theorem SD.below {w0 w w' : World} {P Q G : Int} {A B : Value} (h : SD w0 w P Q G A B) (hb : Below w.heap.size w w') : SD w0 w' P Q G A B :=
  ⟨h.1.below hb, h.2.1.below hb, h.2.2.1.below hb, bt h.2.2.2 hb⟩
theorem SD.set0 {w0 w : World} {P Q G : Int} {A B : Value} (h : SD w0 w P Q G A B) (v : Value) : SD w0 (w.setCell ⟨w0.heap.size + 2, 0, none⟩ v) P Q G v B :=
  ⟨gr_mid7 h.1 (mid_cell w (w0.heap.size + 2) 0 v) (by omega), h.2.1.other _ _ (by show w0.heap.size + 2 ≠ w0.heap.size + 1; omega), h.2.2.1.set0 v, h.2.2.2.setCell (p := ⟨w0.heap.size + 2, 0, none⟩) (by show w0.heap.size ≤ w0.heap.size + 2; omega) _⟩
theorem SD.set1 {w0 w : World} {P Q G : Int} {A B : Value} (h : SD w0 w P Q G A B) (v : Value) : SD w0 (w.setCell ⟨w0.heap.size + 2, 1, none⟩ v) P Q G A v :=
  ⟨gr_mid7 h.1 (mid_cell w (w0.heap.size + 2) 1 v) (by omega), h.2.1.other _ _ (by show w0.heap.size + 2 ≠ w0.heap.size + 1; omega), h.2.2.1.set1 v, h.2.2.2.setCell (p := ⟨w0.heap.size + 2, 1, none⟩) (by show w0.heap.size ≤ w0.heap.size + 2; omega) _⟩
theorem SD.cells {w0 w : World} {P Q G : Int} {A B : Value} (h : SD w0 w P Q G A B) : (w.cell? ⟨w0.heap.size, 0, none⟩ = some (.int .i64 P) ∧ w.cell? ⟨w0.heap.size, 1, none⟩ = some (.int .i64 Q) ∧ w.cell? ⟨w0.heap.size, 2, none⟩ = some (.int .i64 G)) ∧ w.cell? ⟨w0.heap.size + 2, 0, none⟩ = some A ∧ w.cell? ⟨w0.heap.size + 2, 1, none⟩ = some B := ⟨h.1, h.2.2.1.1, h.2.2.1.2.1⟩
theorem shV_succ (q : Int) (f : List Int) (i : Nat) : shV q f (i + 1) = shV q f i ++ [pev q ((i : Int) + 1) f] := by simp [shV, evAll, iota_succ]
theorem mid_app {w w' : World} {o : Obj} {B : Nat} {v : Value} {n : Nat} {xs : List Value} {e : TypeId} {s : Nat} (hown : (w.alloc o).ownsRow B e s v n xs) (hg : (w.alloc o).grownBy w' v.ownBlock) : Mid B (w.alloc o).heap.size (w.alloc o) w' :=
  Mid.grown hg (fun k hk => hown.lt k hk)
theorem below_app {w w' : World} {B : Nat} {v : Value} {n : Nat} {xs : List Value} {e : TypeId} {s : Nat} (hown : w.ownsRow B e s v n xs) (hg : w.grownBy w' v.ownBlock) : Mid B w.heap.size w w' :=
  Mid.grown hg (fun k hk => hown.lt k hk)

set_option maxRecDepth 100000 in
set_option maxHeartbeats 3200000 in
theorem sDeal_any (P Q G : Int) (hg : goodB P Q G = true) (h7 : 7 < Q) (n : Nat) (hn : n ≤ 7) (ad : Option Addr) (cap : Nat) (cs : List Int) (hl : cs.length ≤ 1000000) (hrs : ∀ z ∈ cs, 0 ≤ z ∧ z < Q) {w : World} (hz : IsInts w ad cs) :
    Calls Try.prog 74 #[gv P Q G, .slice ad cs.length cap, .int .i64 n] w (MadeD w ⟨pwL P G cs, shV Q cs n⟩) := by
  have hbg := goodB_true.1 hg
  have hP2 : 2 ≤ P := by omega
  have hP3 : P ≤ 2000000000 := by omega
  have hQ3 : Q ≤ 2000000000 := by omega
  have hG0 : 0 ≤ G := by omega
  have hG1 : G ≤ 2000000000 := by omega
  obtain ⟨i0, hi, hz0, hz1, hz2⟩ := info_parts Try.info3
  have HRS := Lib.hid hrs
  have HS0 := Lib.hid (show SD w (((w.alloc (.cells #[.int .i64 P, .int .i64 Q, .int .i64 G] 24)).alloc (.cells #[.slice none 0 0, .slice none 0 0] 34)).alloc (.cells #[.slice none 0 0, .slice none 0 0] 34)) P Q G (.slice none 0 0) (.slice none 0 0) from
    ⟨((gr_atS w w.heap.size rfl P Q G 24).below (ba _ _)).below (ba _ _), (v2_at (w.alloc (.cells #[.int .i64 P, .int .i64 Q, .int .i64 G] 24)) (w.heap.size + 1) (by simp) _ _ 34).below (ba _ _), v2_at ((w.alloc (.cells #[.int .i64 P, .int .i64 Q, .int .i64 G] 24)).alloc (.cells #[.slice none 0 0, .slice none 0 0] 34)) (w.heap.size + 2) (by simp) _ _ 34, bt (bt (ba _ _) (ba _ _)) (ba _ _)⟩)
  clear hbg hg hrs
  go_enter Try.func74, Try.ntmps74
  go_wp2_with fail
  go_loopw [9, 13] (fun _ K wr => ∃ (k : Nat) (va : Option Addr) (vc : Nat), k ≤ cs.length ∧ K = .int .i64 k ∧ SD w wr P Q G (.slice va k vc) (.slice none 0 0) ∧ OwI (w.heap.size + 3) wr.heap.size wr (.slice va k vc) ((pwL P G cs).take k)) (fun _ K _ => cs.length - (intOf K).toNat)
  case atStart => exact ⟨0, none, 0, Nat.zero_le _, rfl, HS0.out, owI_mk (n := 0) (World.ownsRow_nil _ _ _ _) (by simp)⟩
  case round =>
    obtain ⟨k, va, vc, hk, rfl, hsd, hown⟩ := hrel
    by_cases hkn : k < cs.length
    · obtain ⟨b, off, a, rfl, hb, hcx, hd⟩ := (hz.below hsd.2.2.2 (Nat.le_refl _)).at (k := k) hkn
      obtain ⟨ha0, ha1⟩ := HRS.out a (mem_drop hd)
      obtain ⟨pv, hpv⟩ : ∃ pv, Num.pow G a P = pv := ⟨_, rfl⟩
      have HPV := Lib.hid hpv
      have HTK := Lib.hid (show (pwL P G cs).take (k + 1) = (pwL P G cs).take k ++ [pv] by rw [← hpv]; exact pwL_take hd)
      have HLEN := Lib.hid (show ((pwL P G cs).take k).length = k by rw [List.length_take, pwL_length]; omega)
      have HSs := Lib.hid (hsd.below ((Below.refl _ wr).drew))
      have HOs := Lib.hid (hown.below ((Below.refl _ wr).drew))
      obtain ⟨⟨q0, q1, q2⟩, x0, x1⟩ := hsd.cells
      clear hpv hd hsd hown HS0
      go_wp2_with fail
      clear q0 q1 q2 x0 x1 hcx
      refine wpK_begin (n := 10) (S := (fun w' => (w'.cell? ⟨w.heap.size, 0, none⟩ = some (.int .i64 P) ∧ w'.cell? ⟨w.heap.size, 1, none⟩ = some (.int .i64 Q) ∧ w'.cell? ⟨w.heap.size, 2, none⟩ = some (.int .i64 G)) ∧ w'.cell? ⟨w.heap.size + 2, 0, none⟩ = some (.slice va k vc) ∧ w'.cell? ⟨w.heap.size + 2, 1, none⟩ = some (.slice none 0 0))) (by kernel_rfl) ?_
      refine wpK_take (i := 0) (v := ?_) rfl (by kernel_rfl) (by kernel_rfl) (by kernel_rfl) (by kernel_rfl) (fun _ _ _ h => h) (Or.inl ⟨by kernel_rfl, ?_⟩) (show _ from HSs.out.cells) ?_
      rotate_left 1
      · intro w9 hSw
        (try dsimp only at hSw)
        go_simp
        (try with_reducible rfl)
      (try simp only [Act.put, List.getElem_toArray, List.getElem_cons_succ, List.getElem_cons_zero, List.setIfInBounds_toArray, List.set_cons_zero, List.set_cons_succ])
      refine wpK_take (i := 1) (v := ?_) rfl (by kernel_rfl) (by kernel_rfl) (by kernel_rfl) (by kernel_rfl) (fun _ _ _ h => h) (Or.inl ⟨by kernel_rfl, ?_⟩) (show _ from HSs.out.cells) ?_
      rotate_left 1
      · intro w9 hSw
        (try dsimp only at hSw)
        go_simp
        (try with_reducible rfl)
      (try simp only [Act.put, List.getElem_toArray, List.getElem_cons_succ, List.getElem_cons_zero, List.setIfInBounds_toArray, List.set_cons_zero, List.set_cons_succ])
      refine wpK_take (i := 2) (v := ?_) rfl (by kernel_rfl) (by kernel_rfl) (by kernel_rfl) (by kernel_rfl) (fun _ _ _ h => h) (Or.inl ⟨by kernel_rfl, ?_⟩) (show _ from HSs.out.cells) ?_
      rotate_left 1
      · intro w9 hSw
        (try dsimp only at hSw)
        go_simp
        (try with_reducible rfl)
      (try simp only [Act.put, List.getElem_toArray, List.getElem_cons_succ, List.getElem_cons_zero, List.setIfInBounds_toArray, List.set_cons_zero, List.set_cons_succ])
      refine wpK_take (i := 3) (v := ?_) rfl (by kernel_rfl) (by kernel_rfl) (by kernel_rfl) (by kernel_rfl) (fun _ _ _ h => h) (Or.inl ⟨by kernel_rfl, ?_⟩) (show _ from HSs.out.cells) ?_
      rotate_left 1
      · intro w9 hSw
        (try dsimp only at hSw)
        go_simp
        (try with_reducible rfl)
      (try simp only [Act.put, List.getElem_toArray, List.getElem_cons_succ, List.getElem_cons_zero, List.setIfInBounds_toArray, List.set_cons_zero, List.set_cons_succ])
      refine wpK_take (i := 4) (v := ?_) rfl (by kernel_rfl) (by kernel_rfl) (by kernel_rfl) (by kernel_rfl) (fun _ _ _ h => h) (Or.inl ⟨by kernel_rfl, ?_⟩) (show _ from HSs.out.cells) ?_
      rotate_left 1
      · intro w9 hSw
        (try dsimp only at hSw)
        go_simp
        (try with_reducible rfl)
      (try simp only [Act.put, List.getElem_toArray, List.getElem_cons_succ, List.getElem_cons_zero, List.setIfInBounds_toArray, List.set_cons_zero, List.set_cons_succ])
      refine wpK_take (i := 5) (v := ?_) rfl (by kernel_rfl) (by kernel_rfl) (by kernel_rfl) (by kernel_rfl) (fun _ _ _ h => h) (Or.inl ⟨by kernel_rfl, ?_⟩) (show _ from HSs.out.cells) ?_
      rotate_left 1
      · intro w9 hSw
        (try dsimp only at hSw)
        go_simp
        (try with_reducible rfl)
      (try simp only [Act.put, List.getElem_toArray, List.getElem_cons_succ, List.getElem_cons_zero, List.setIfInBounds_toArray, List.set_cons_zero, List.set_cons_succ])
      refine wpK_one (i := 6) (by kernel_rfl) rfl ?_
      intro K' hK
      go_simp
      go_at_call 91
      refine (gExp_any P Q G G a hG0 hG1 ha0 ha1 hP2 hP3 (by omega) hQ3 _).mono ?_
      rw [HPV.out]
      rintro e w3 ⟨rfl, hb3⟩
      have HSc := Lib.hid (HSs.out.below hb3)
      have HOc := Lib.hid (OwI.below HOs.out hb3)
      clear hb3
      go_wp2_with fail
      refine hK.out _ _ (fun _ => HSc.out.cells) ?_
      clear hK K'
      (try simp only [Act.put, List.getElem_toArray, List.getElem_cons_succ, List.getElem_cons_zero, List.setIfInBounds_toArray, List.set_cons_zero, List.set_cons_succ])
      refine wpK_one (i := 7) (by kernel_rfl) rfl ?_
      intro K' hK
      go_simp
      have HSl := Lib.hid (HSc.out.below (ba w3 (.cells #[.int .i64 pv] 3)))
      have HOl := Lib.hid (OwI.below HOc.out (ba w3 (.cells #[.int .i64 pv] 3)))
      refine hK.out _ _ (fun _ => HSl.out.cells) ?_
      clear hK K'
      (try simp only [Act.put, List.getElem_toArray, List.getElem_cons_succ, List.getElem_cons_zero, List.setIfInBounds_toArray, List.set_cons_zero, List.set_cons_succ])
      refine wpK_one (i := 8) (by kernel_rfl) rfl ?_
      intro K' hK
      refine step_append_ints (by rfl) (.tmp 18) (.tmp 24) _ (by rfl) (w.heap.size + 3) 3 i0 Try.underlying25 hi hz0 hz1 hz2 _ k ((pwL P G cs).take k) (by rfl) (by have h := HOl.out.1; rwa [HLEN.out] at h) (some ⟨w3.heap.size, 0, none⟩) 1 1 [pv] (by rfl) rfl (ints_spot w3 _ rfl [pv] 3) (fun h => by cases h) (by omega) (by have := HOl.out.2.2.2; have := HOl.out.2.2.1; simp at *; omega) ?_
      intro v9 w5 hown9 hgrow
      obtain ⟨va', vc', rfl⟩ := own_shape hown9
      have hmid := below_app HOl.out.1 hgrow
      have HO5 := Lib.hid (show OwI (w.heap.size + 3) w5.heap.size w5 (.slice va' (k + 1) vc') ((pwL P G cs).take k ++ [pv]) from owI_mk hown9 (by have := hmid.size; have := HOl.out.2.2.2; have := HOl.out.2.2.1; omega))
      have HS5 := Lib.hid (HSl.out.mid hmid (Nat.le_refl _))
      clear hmid hown9 hgrow
      refine hK.out _ _ (fun _ => HS5.out.cells) ?_
      clear hK K'
      (try simp only [Act.put, List.getElem_toArray, List.getElem_cons_succ, List.getElem_cons_zero, List.setIfInBounds_toArray, List.set_cons_zero, List.set_cons_succ])
      refine wpK_take (i := 9) (v := ?_) rfl (by kernel_rfl) (by kernel_rfl) (by kernel_rfl) (by kernel_rfl) (fun _ _ _ h => h) (Or.inl ⟨by kernel_rfl, ?_⟩) HS5.out.cells ?_
      rotate_left 1
      · intro w9 hSw
        (try dsimp only at hSw)
        go_simp
        (try with_reducible rfl)
      (try simp only [Act.put, List.getElem_toArray, List.getElem_cons_succ, List.getElem_cons_zero, List.setIfInBounds_toArray, List.set_cons_zero, List.set_cons_succ])
      refine wpK_one (i := 10) (by kernel_rfl) rfl ?_
      intro K' hK
      obtain ⟨y0, y1, yf⟩ := HS5.out.2.2.1
      have yf0 := yf 0
      clear yf
      go_simp
      refine hK.out _ _ (fun h => absurd rfl h) ?_
      clear hK K'
      (try simp only [Act.put, List.getElem_toArray, List.getElem_cons_succ, List.getElem_cons_zero, List.setIfInBounds_toArray, List.set_cons_zero, List.set_cons_succ])
      refine wpK_done (by kernel_rfl) ?_ _
      have HS6 := Lib.hid (HS5.out.set0 (.slice va' (k + 1) vc'))
      have HO6 := Lib.hid (HO5.out.mid (mid_cell w5 (w.heap.size + 2) 0 (.slice va' (k + 1) vc')) (.inr (Nat.le_refl _)))
      clear y0 y1
      go_wp2
      go_roundw
      case rel => exact ⟨k + 1, va', vc', by omega, by go_num, HS6.out, by rw [HTK.out]; exact HO6.out.wide (Nat.le_refl _) (by simp) (Nat.le_refl _)⟩
      case measure => simp only [intOf]; omega
    · obtain rfl : k = cs.length := by omega
      rw [List.take_of_length_le (by rw [pwL_length]; exact Nat.le_refl _)] at hown
      have HSQ := Lib.hid hsd
      have HOQ := Lib.hid hown
      have hwq3 : w.heap.size + 3 ≤ wr.heap.size := hown.2.2.2
      obtain ⟨ca, hca⟩ : ∃ x, va = x := ⟨_, rfl⟩
      obtain ⟨cc, hcc⟩ : ∃ x, vc = x := ⟨_, rfl⟩
      subst hca hcc
      clear hsd hown HS0
      generalize wr = wq at *
      go_wp2_with fail
      go_loopw [10] (fun I wr => ∃ (i : Nat) (vb : Option Addr) (vd : Nat), i ≤ n ∧ I = .int .i64 ((i : Int) + 1) ∧ SD w wr P Q G (.slice va cs.length vc) (.slice vb i vd) ∧ OwI (w.heap.size + 3) wq.heap.size wr (.slice va cs.length vc) (pwL P G cs) ∧ OwI wq.heap.size wr.heap.size wr (.slice vb i vd) (shV Q cs i)) (fun I _ => n + 1 - (intOf I).toNat)
      case atStart => exact ⟨0, none, 0, Nat.zero_le _, rfl, HSQ.out, HOQ.out, owI_mk (n := 0) (World.ownsRow_nil _ _ _ _) (Nat.le_refl _)⟩
      case round =>
        obtain ⟨i, vb, vd, hin, rfl, hsd, hpw, hown⟩ := hrel
        by_cases hik : i < n
        · have hlei : (i : Int) + 1 ≤ (n : Int) := by omega
          have hwi : IntKind.i64.wrap ((i : Int) + 1 + 1) = (i : Int) + 1 + 1 := by rw [IntKind.wrap_i64]; omega
          obtain ⟨pv, hpv⟩ : ∃ pv, pev Q ((i : Int) + 1) cs = pv := ⟨_, rfl⟩
          have HPV := Lib.hid hpv
          have HTK := Lib.hid (show shV Q cs (i + 1) = shV Q cs i ++ [pv] by rw [shV_succ, hpv])
          have HLEN := Lib.hid (shV_length Q cs i)
          have HSs := Lib.hid (hsd.below ((Below.refl _ wr).drew))
          have HOs := Lib.hid (hown.below ((Below.refl _ wr).drew))
          have HPs := Lib.hid (hpw.below ((Below.refl _ wr).drew))
          obtain ⟨⟨q0, q1, q2⟩, x0, x1⟩ := hsd.cells
          clear hpv hsd hown hpw HSQ HOQ
          go_wp2_with fail
          clear q0 q1 q2 x0 x1
          refine wpK_begin (n := 10) (S := (fun w' => (w'.cell? ⟨w.heap.size, 0, none⟩ = some (.int .i64 P) ∧ w'.cell? ⟨w.heap.size, 1, none⟩ = some (.int .i64 Q) ∧ w'.cell? ⟨w.heap.size, 2, none⟩ = some (.int .i64 G)) ∧ w'.cell? ⟨w.heap.size + 2, 0, none⟩ = some (.slice va cs.length vc) ∧ w'.cell? ⟨w.heap.size + 2, 1, none⟩ = some (.slice vb i vd))) (by kernel_rfl) ?_
          refine wpK_take (i := 0) (v := ?_) rfl (by kernel_rfl) (by kernel_rfl) (by kernel_rfl) (by kernel_rfl) (fun _ _ _ h => h) (Or.inl ⟨by kernel_rfl, ?_⟩) (show _ from HSs.out.cells) ?_
          rotate_left 1
          · intro w9 hSw
            (try dsimp only at hSw)
            go_simp
            (try with_reducible rfl)
          (try simp only [Act.put, List.getElem_toArray, List.getElem_cons_succ, List.getElem_cons_zero, List.setIfInBounds_toArray, List.set_cons_zero, List.set_cons_succ])
          refine wpK_take (i := 1) (v := ?_) rfl (by kernel_rfl) (by kernel_rfl) (by kernel_rfl) (by kernel_rfl) (fun _ _ _ h => h) (Or.inl ⟨by kernel_rfl, ?_⟩) (show _ from HSs.out.cells) ?_
          rotate_left 1
          · intro w9 hSw
            (try dsimp only at hSw)
            go_simp
            (try with_reducible rfl)
          (try simp only [Act.put, List.getElem_toArray, List.getElem_cons_succ, List.getElem_cons_zero, List.setIfInBounds_toArray, List.set_cons_zero, List.set_cons_succ])
          refine wpK_take (i := 2) (v := ?_) rfl (by kernel_rfl) (by kernel_rfl) (by kernel_rfl) (by kernel_rfl) (fun _ _ _ h => h) (Or.inl ⟨by kernel_rfl, ?_⟩) (show _ from HSs.out.cells) ?_
          rotate_left 1
          · intro w9 hSw
            (try dsimp only at hSw)
            go_simp
            (try with_reducible rfl)
          (try simp only [Act.put, List.getElem_toArray, List.getElem_cons_succ, List.getElem_cons_zero, List.setIfInBounds_toArray, List.set_cons_zero, List.set_cons_succ])
          refine wpK_take (i := 3) (v := ?_) rfl (by kernel_rfl) (by kernel_rfl) (by kernel_rfl) (by kernel_rfl) (fun _ _ _ h => h) (Or.inl ⟨by kernel_rfl, ?_⟩) (show _ from HSs.out.cells) ?_
          rotate_left 1
          · intro w9 hSw
            (try dsimp only at hSw)
            go_simp
            (try with_reducible rfl)
          (try simp only [Act.put, List.getElem_toArray, List.getElem_cons_succ, List.getElem_cons_zero, List.setIfInBounds_toArray, List.set_cons_zero, List.set_cons_succ])
          refine wpK_take (i := 4) (v := ?_) rfl (by kernel_rfl) (by kernel_rfl) (by kernel_rfl) (by kernel_rfl) (fun _ _ _ h => h) (Or.inl ⟨by kernel_rfl, ?_⟩) (show _ from HSs.out.cells) ?_
          rotate_left 1
          · intro w9 hSw
            (try dsimp only at hSw)
            go_simp
            (try with_reducible rfl)
          (try simp only [Act.put, List.getElem_toArray, List.getElem_cons_succ, List.getElem_cons_zero, List.setIfInBounds_toArray, List.set_cons_zero, List.set_cons_succ])
          refine wpK_take (i := 5) (v := ?_) rfl (by kernel_rfl) (by kernel_rfl) (by kernel_rfl) (by kernel_rfl) (fun _ _ _ h => h) (Or.inl ⟨by kernel_rfl, ?_⟩) (show _ from HSs.out.cells) ?_
          rotate_left 1
          · intro w9 hSw
            (try dsimp only at hSw)
            go_simp
            (try with_reducible rfl)
          (try simp only [Act.put, List.getElem_toArray, List.getElem_cons_succ, List.getElem_cons_zero, List.setIfInBounds_toArray, List.set_cons_zero, List.set_cons_succ])
          refine wpK_one (i := 6) (by kernel_rfl) rfl ?_
          intro K' hK
          go_simp
          go_at_call 117
          refine (yEval_any Q ad cs.length cap cs ((i : Int) + 1) rfl (by omega) (by omega) hQ3 (by omega) (by omega) HRS.out _ (hz.below HSs.out.2.2.2 (Nat.le_refl _))).mono ?_
          rw [HPV.out]
          rintro e w3 ⟨rfl, rfl⟩
          have HSc := HSs
          have HOc := HOs
          have HPc := HPs
          go_wp2_with fail
          refine hK.out _ _ (fun _ => HSc.out.cells) ?_
          clear hK K'
          (try simp only [Act.put, List.getElem_toArray, List.getElem_cons_succ, List.getElem_cons_zero, List.setIfInBounds_toArray, List.set_cons_zero, List.set_cons_succ])
          refine wpK_one (i := 7) (by kernel_rfl) rfl ?_
          intro K' hK
          go_simp
          have HSl := Lib.hid (HSc.out.below (ba wr.drew (.cells #[.int .i64 pv] 3)))
          have HOl := Lib.hid (OwI.below HOc.out (ba wr.drew (.cells #[.int .i64 pv] 3)))
          have HPl := Lib.hid (OwI.below HPc.out (ba wr.drew (.cells #[.int .i64 pv] 3)))
          refine hK.out _ _ (fun _ => HSl.out.cells) ?_
          clear hK K'
          (try simp only [Act.put, List.getElem_toArray, List.getElem_cons_succ, List.getElem_cons_zero, List.setIfInBounds_toArray, List.set_cons_zero, List.set_cons_succ])
          refine wpK_one (i := 8) (by kernel_rfl) rfl ?_
          intro K' hK
          refine step_append_ints (by rfl) (.tmp 34) (.tmp 40) _ (by rfl) (wq.heap.size) 3 i0 Try.underlying25 hi hz0 hz1 hz2 _ i (shV Q cs i) (by rfl) (by have h := HOl.out.1; rwa [HLEN.out] at h) (some ⟨wr.drew.heap.size, 0, none⟩) 1 1 [pv] (by rfl) rfl (ints_spot wr.drew _ rfl [pv] 3) (fun h => by cases h) (by omega) (by have := HOl.out.2.2.2; have := HOl.out.2.2.1; simp at *; omega) ?_
          intro v9 w5 hown9 hgrow
          obtain ⟨va', vc', rfl⟩ := own_shape hown9
          have hmid := below_app HOl.out.1 hgrow
          have HO5 := Lib.hid (show OwI (wq.heap.size) w5.heap.size w5 (.slice va' (i + 1) vc') (shV Q cs i ++ [pv]) from owI_mk hown9 (by have := hmid.size; have := HOl.out.2.2.2; have := HOl.out.2.2.1; omega))
          have HS5 := Lib.hid (HSl.out.mid hmid (hwq3))
          have HP5 := Lib.hid (HPl.out.mid hmid (.inl (Nat.le_refl _)))
          clear hmid hown9 hgrow
          refine hK.out _ _ (fun _ => HS5.out.cells) ?_
          clear hK K'
          (try simp only [Act.put, List.getElem_toArray, List.getElem_cons_succ, List.getElem_cons_zero, List.setIfInBounds_toArray, List.set_cons_zero, List.set_cons_succ])
          refine wpK_take (i := 9) (v := ?_) rfl (by kernel_rfl) (by kernel_rfl) (by kernel_rfl) (by kernel_rfl) (fun _ _ _ h => h) (Or.inl ⟨by kernel_rfl, ?_⟩) HS5.out.cells ?_
          rotate_left 1
          · intro w9 hSw
            (try dsimp only at hSw)
            go_simp
            (try with_reducible rfl)
          (try simp only [Act.put, List.getElem_toArray, List.getElem_cons_succ, List.getElem_cons_zero, List.setIfInBounds_toArray, List.set_cons_zero, List.set_cons_succ])
          refine wpK_one (i := 10) (by kernel_rfl) rfl ?_
          intro K' hK
          obtain ⟨y0, y1, yf⟩ := HS5.out.2.2.1
          have yf1 := yf 1
          clear yf
          go_simp
          refine hK.out _ _ (fun h => absurd rfl h) ?_
          clear hK K'
          (try simp only [Act.put, List.getElem_toArray, List.getElem_cons_succ, List.getElem_cons_zero, List.setIfInBounds_toArray, List.set_cons_zero, List.set_cons_succ])
          refine wpK_done (by kernel_rfl) ?_ _
          have HS6 := Lib.hid (HS5.out.set1 (.slice va' (i + 1) vc'))
          have HO6 := Lib.hid (HO5.out.mid (mid_cell w5 (w.heap.size + 2) 1 (.slice va' (i + 1) vc')) (.inr hwq3))
          have HP6 := Lib.hid (HP5.out.mid (mid_cell w5 (w.heap.size + 2) 1 (.slice va' (i + 1) vc')) (.inr (Nat.le_refl _)))
          clear y0 y1
          go_wp2
          go_roundw
          case rel => exact ⟨i + 1, va', vc', by omega, by go_num, HS6.out, HP6.out, by rw [HTK.out]; exact HO6.out.wide (Nat.le_refl _) (by simp) (Nat.le_refl _)⟩
          case measure => simp only [intOf]; omega
        · obtain rfl : i = n := by omega
          have hgt : ¬ ((i : Int) + 1 ≤ (i : Int)) := by omega
          obtain ⟨x0, x1, _⟩ := hsd.2.2.1
          obtain ⟨z0, z1, zf⟩ := hsd.2.1
          have zf0 := zf 0
          have zf1 := zf 1
          have HSE := Lib.hid hsd
          have HPE := Lib.hid hpw
          have HOE := Lib.hid hown
          clear zf hsd hpw hown HSQ HOQ
          go_wp2
          (try simp only [Exit.inBlock, Exit.then])
          refine bodyPost_ret (v := .agg #[.slice va cs.length vc, .slice vb i vd]) ?_ rfl ⟨_, rfl, ?_, ?_⟩
          · rw [results_cell_one rfl]; go_simp
          · have hm5 := mid_two7 wr (w.heap.size + 1) (.slice va cs.length vc) (.slice vb i vd)
            have hlr := HPE.out.2.2.2
            have h1 := HPE.out.mid hm5 (.inr (by omega))
            have h2 := HOE.out.mid hm5 (.inr (by omega))
            exact ⟨_, _, wq.heap.size, rfl, h1.wide (by omega) (Nat.le_refl _) h1.2.2.1, h2.wide (Nat.le_refl _) hm5.size (Nat.le_refl _)⟩
          · exact HSE.out.2.2.2.trans ((mid_two7 wr (w.heap.size + 1) (.slice va cs.length vc) (.slice vb i vd)).toBelow (by omega) HSE.out.2.2.2.size)

set_option maxRecDepth 100000 in
set_option maxHeartbeats 3200000 in
theorem sDealShares_any (P Q G : Int) (n : Int) (ad : Option Addr) (cap : Nat) (cs : List Int) (hl : cs.length ≤ 1048576) {w : World} (hz : IsInts w ad cs) :
    Calls Try.prog 37 #[gv P Q G, .slice ad cs.length cap, .int .i64 n] w (AnsD w (dsR P Q G cs n) (dsB P Q G cs n)) := by
  have G_0 := Lib.hid ((gr_atS w w.heap.size rfl P Q G 24).below (ba (w.alloc (.cells #[.int .i64 P, .int .i64 Q, .int .i64 G] 24)) (.cells #[.slice none 0 0, .slice none 0 0] 34)))
  have Z_0 := Lib.hid (v2_at (w.alloc (.cells #[.int .i64 P, .int .i64 Q, .int .i64 G] 24)) (w.heap.size + 1) (by simp) (.slice none 0 0) (.slice none 0 0) 34)
  have HB_0 := Lib.hid (show Below w.heap.size w ((w.alloc (.cells #[.int .i64 P, .int .i64 Q, .int .i64 G] 24)).alloc (.cells #[.slice none 0 0, .slice none 0 0] 34)) from bt (ba _ _) (ba _ _))
  have C_0 := Lib.hid (LZ.below hz HB_0.out)
  clear hz
  cases h0 : trB P Q G
  · have K0 := Lib.hid (show trB P Q G = false from h0)
    have E1 := Lib.hid (show dsB P Q G cs n = false from dsB_off (fun h => by rw [h0] at h; exact absurd h.1 (by simp)))
    have E2 := Lib.hid (show dsR P Q G cs n = ⟨[], []⟩ by simp [dsR, E1.out])
    rw [E1.out, E2.out]
    clear h0
    obtain ⟨gG0, gG1, gG2⟩ := G_0.out
    obtain ⟨zZ0, zZ1, zfZ⟩ := Z_0.out
    have zfZ0 := zfZ 0
    have zfZ1 := zfZ 1
    clear zfZ
    go_enter Try.func37, Try.ntmps37
    go_wp2_with fail
    refine (sGroup_any P Q G _).mono ?_
    rw [K0.out]
    rintro e v1 ⟨rfl, hb⟩
    have HB_1 := Lib.hid (bt HB_0.out hb)
    have G_1 := Lib.hid (G_0.out.below hb)
    have Z_1 := Lib.hid (Z_0.out.below hb)
    have C_1 := Lib.hid (C_0.out.below hb)
    clear hb gG0 gG1 gG2 zZ0 zZ1 zfZ0 zfZ1
    obtain ⟨gG0, gG1, gG2⟩ := G_1.out
    obtain ⟨zZ0, zZ1, zfZ⟩ := Z_1.out
    have zfZ0 := zfZ 0
    have zfZ1 := zfZ 1
    clear zfZ
    go_wp2
    (try simp only [Exit.inBlock, Exit.then])
    refine bodyPost_ret (v := .tuple #[.agg #[.slice none 0 0, .slice none 0 0], .bool false]) ?_ rfl ?_
    · rw [results_cell_tmp rfl]; go_simp
    · have hm5 := mid_two7 v1 (w.heap.size + 1) (.slice none 0 0) (.slice none 0 0)
      exact ⟨_, rfl, owD_nil _ _ (Nat.le_trans HB_1.out.size hm5.size), HB_1.out.trans (hm5.toBelow (by omega) HB_1.out.size)⟩
  have K0 := Lib.hid (show trB P Q G = true from h0)
  have hmo := (trB_of h0).2.1
  cases h1 : inB n 1 7
  · have K1 := Lib.hid (show inB n 1 7 = false from h1)
    have E1 := Lib.hid (show dsB P Q G cs n = false from dsB_off (fun h => by have := inB_false.1 h1; omega))
    have E2 := Lib.hid (show dsR P Q G cs n = ⟨[], []⟩ by simp [dsR, E1.out])
    rw [E1.out, E2.out]
    clear h0 h1
    obtain ⟨gG0, gG1, gG2⟩ := G_0.out
    obtain ⟨zZ0, zZ1, zfZ⟩ := Z_0.out
    have zfZ0 := zfZ 0
    have zfZ1 := zfZ 1
    clear zfZ
    go_enter Try.func37, Try.ntmps37
    go_wp2_with fail
    refine (sGroup_any P Q G _).mono ?_
    rw [K0.out]
    rintro e v1 ⟨rfl, hb⟩
    have HB_1 := Lib.hid (bt HB_0.out hb)
    have G_1 := Lib.hid (G_0.out.below hb)
    have Z_1 := Lib.hid (Z_0.out.below hb)
    have C_1 := Lib.hid (C_0.out.below hb)
    clear hb gG0 gG1 gG2 zZ0 zZ1 zfZ0 zfZ1
    obtain ⟨gG0, gG1, gG2⟩ := G_1.out
    obtain ⟨zZ0, zZ1, zfZ⟩ := Z_1.out
    have zfZ0 := zfZ 0
    have zfZ1 := zfZ 1
    clear zfZ
    go_wp2_with fail
    refine (l1In_any _ _ _ _).mono ?_
    rw [K1.out]
    rintro e w' ⟨rfl, rfl⟩
    go_wp2
    (try simp only [Exit.inBlock, Exit.then])
    refine bodyPost_ret (v := .tuple #[.agg #[.slice none 0 0, .slice none 0 0], .bool false]) ?_ rfl ?_
    · rw [results_cell_tmp rfl]; go_simp
    · have hm5 := mid_two7 v1 (w.heap.size + 1) (.slice none 0 0) (.slice none 0 0)
      exact ⟨_, rfl, owD_nil _ _ (Nat.le_trans HB_1.out.size hm5.size), HB_1.out.trans (hm5.toBelow (by omega) HB_1.out.size)⟩
  have K1 := Lib.hid (show inB n 1 7 = true from h1)
  cases h2 : inB (cs.length : Int) 1 n
  · have K2 := Lib.hid (show inB (cs.length : Int) 1 n = false from h2)
    have E1 := Lib.hid (show dsB P Q G cs n = false from dsB_off (fun h => by have := inB_false.1 h2; omega))
    have E2 := Lib.hid (show dsR P Q G cs n = ⟨[], []⟩ by simp [dsR, E1.out])
    rw [E1.out, E2.out]
    clear h0 h1 h2
    obtain ⟨gG0, gG1, gG2⟩ := G_0.out
    obtain ⟨zZ0, zZ1, zfZ⟩ := Z_0.out
    have zfZ0 := zfZ 0
    have zfZ1 := zfZ 1
    clear zfZ
    go_enter Try.func37, Try.ntmps37
    go_wp2_with fail
    refine (sGroup_any P Q G _).mono ?_
    rw [K0.out]
    rintro e v1 ⟨rfl, hb⟩
    have HB_1 := Lib.hid (bt HB_0.out hb)
    have G_1 := Lib.hid (G_0.out.below hb)
    have Z_1 := Lib.hid (Z_0.out.below hb)
    have C_1 := Lib.hid (C_0.out.below hb)
    clear hb gG0 gG1 gG2 zZ0 zZ1 zfZ0 zfZ1
    obtain ⟨gG0, gG1, gG2⟩ := G_1.out
    obtain ⟨zZ0, zZ1, zfZ⟩ := Z_1.out
    have zfZ0 := zfZ 0
    have zfZ1 := zfZ 1
    clear zfZ
    go_wp2_with fail
    refine (l1In_any _ _ _ _).mono ?_
    rw [K1.out]
    rintro e w' ⟨rfl, rfl⟩
    go_wp2_with fail
    refine (l1In_any _ _ _ _).mono ?_
    rw [K2.out]
    rintro e w' ⟨rfl, rfl⟩
    go_wp2
    (try simp only [Exit.inBlock, Exit.then])
    refine bodyPost_ret (v := .tuple #[.agg #[.slice none 0 0, .slice none 0 0], .bool false]) ?_ rfl ?_
    · rw [results_cell_tmp rfl]; go_simp
    · have hm5 := mid_two7 v1 (w.heap.size + 1) (.slice none 0 0) (.slice none 0 0)
      exact ⟨_, rfl, owD_nil _ _ (Nat.le_trans HB_1.out.size hm5.size), HB_1.out.trans (hm5.toBelow (by omega) HB_1.out.size)⟩
  have K2 := Lib.hid (show inB (cs.length : Int) 1 n = true from h2)
  cases h3 : allIn cs 0 (Q - 1)
  · have K3 := Lib.hid (show allIn cs 0 (Q - 1) = false from h3)
    have E1 := Lib.hid (show dsB P Q G cs n = false from dsB_off (fun h => by rw [h3] at h; exact absurd h.2.2.2 (by simp)))
    have E2 := Lib.hid (show dsR P Q G cs n = ⟨[], []⟩ by simp [dsR, E1.out])
    rw [E1.out, E2.out]
    clear h0 h1 h2 h3
    obtain ⟨gG0, gG1, gG2⟩ := G_0.out
    obtain ⟨zZ0, zZ1, zfZ⟩ := Z_0.out
    have zfZ0 := zfZ 0
    have zfZ1 := zfZ 1
    clear zfZ
    go_enter Try.func37, Try.ntmps37
    go_wp2_with fail
    refine (sGroup_any P Q G _).mono ?_
    rw [K0.out]
    rintro e v1 ⟨rfl, hb⟩
    have HB_1 := Lib.hid (bt HB_0.out hb)
    have G_1 := Lib.hid (G_0.out.below hb)
    have Z_1 := Lib.hid (Z_0.out.below hb)
    have C_1 := Lib.hid (C_0.out.below hb)
    clear hb gG0 gG1 gG2 zZ0 zZ1 zfZ0 zfZ1
    obtain ⟨gG0, gG1, gG2⟩ := G_1.out
    obtain ⟨zZ0, zZ1, zfZ⟩ := Z_1.out
    have zfZ0 := zfZ 0
    have zfZ1 := zfZ 1
    clear zfZ
    go_wp2_with fail
    refine (l1In_any _ _ _ _).mono ?_
    rw [K1.out]
    rintro e w' ⟨rfl, rfl⟩
    go_wp2_with fail
    refine (l1In_any _ _ _ _).mono ?_
    rw [K2.out]
    rintro e w' ⟨rfl, rfl⟩
    go_wp2_with fail
    refine (gExps_any P Q G hmo.2 ad cs.length cap cs rfl (by omega) _ C_1.out).mono ?_
    rw [K3.out]
    rintro e v2 ⟨rfl, hb⟩
    have HB_2 := Lib.hid (bt HB_1.out hb)
    have G_2 := Lib.hid (G_1.out.below hb)
    have Z_2 := Lib.hid (Z_1.out.below hb)
    have C_2 := Lib.hid (C_1.out.below hb)
    clear hb gG0 gG1 gG2 zZ0 zZ1 zfZ0 zfZ1
    obtain ⟨gG0, gG1, gG2⟩ := G_2.out
    obtain ⟨zZ0, zZ1, zfZ⟩ := Z_2.out
    have zfZ0 := zfZ 0
    have zfZ1 := zfZ 1
    clear zfZ
    go_wp2
    (try simp only [Exit.inBlock, Exit.then])
    refine bodyPost_ret (v := .tuple #[.agg #[.slice none 0 0, .slice none 0 0], .bool false]) ?_ rfl ?_
    · rw [results_cell_tmp rfl]; go_simp
    · have hm5 := mid_two7 v2 (w.heap.size + 1) (.slice none 0 0) (.slice none 0 0)
      exact ⟨_, rfl, owD_nil _ _ (Nat.le_trans HB_2.out.size hm5.size), HB_2.out.trans (hm5.toBelow (by omega) HB_2.out.size)⟩
  have K3 := Lib.hid (show allIn cs 0 (Q - 1) = true from h3)
  have E1 := Lib.hid (show dsB P Q G cs n = true from dsB_true.2 ⟨h0, inB_true.1 h1, inB_true.1 h2, h3⟩)
  have E2 := Lib.hid (show dsR P Q G cs n = ⟨pwL P G cs, shV Q cs n.toNat⟩ by simp [dsR, E1.out])
  rw [E1.out, E2.out]
  obtain ⟨hd0, ⟨hd1, hd2⟩, ⟨hd3, hd4⟩, hd5⟩ := dsB_true.1 E1.out
  obtain ⟨hgd, hmo2, hq7⟩ := trB_of hd0
  have hbg := goodB_true.1 hgd
  have hP2 : 2 ≤ P := by omega
  have hP3 : P ≤ 2000000000 := by omega
  have hQ3 : Q ≤ 2000000000 := by omega
  have hG0 : 0 ≤ G := by omega
  have hG1 : G ≤ 2000000000 := by omega
  have HRS := Lib.hid (allIn_pw hd5)
  clear h0 h1 h2 h3 hbg hd0 hd5 E1 E2
  obtain ⟨n, rfl⟩ := Int.eq_ofNat_of_zero_le (show 0 ≤ n by omega)
  rw [Int.toNat_natCast]
  obtain ⟨gG0, gG1, gG2⟩ := G_0.out
  obtain ⟨zZ0, zZ1, zfZ⟩ := Z_0.out
  have zfZ0 := zfZ 0
  have zfZ1 := zfZ 1
  clear zfZ
  go_enter Try.func37, Try.ntmps37
  go_wp2_with fail
  refine (sGroup_any P Q G _).mono ?_
  rw [K0.out]
  rintro e v1 ⟨rfl, hb⟩
  have HB_1 := Lib.hid (bt HB_0.out hb)
  have G_1 := Lib.hid (G_0.out.below hb)
  have Z_1 := Lib.hid (Z_0.out.below hb)
  have C_1 := Lib.hid (C_0.out.below hb)
  clear hb gG0 gG1 gG2 zZ0 zZ1 zfZ0 zfZ1
  obtain ⟨gG0, gG1, gG2⟩ := G_1.out
  obtain ⟨zZ0, zZ1, zfZ⟩ := Z_1.out
  have zfZ0 := zfZ 0
  have zfZ1 := zfZ 1
  clear zfZ
  go_wp2_with fail
  refine (l1In_any _ _ _ _).mono ?_
  rw [K1.out]
  rintro e w' ⟨rfl, rfl⟩
  go_wp2_with fail
  refine (l1In_any _ _ _ _).mono ?_
  rw [K2.out]
  rintro e w' ⟨rfl, rfl⟩
  go_wp2_with fail
  refine (gExps_any P Q G hmo.2 ad cs.length cap cs rfl (by omega) _ C_1.out).mono ?_
  rw [K3.out]
  rintro e v2 ⟨rfl, hb⟩
  have HB_2 := Lib.hid (bt HB_1.out hb)
  have G_2 := Lib.hid (G_1.out.below hb)
  have Z_2 := Lib.hid (Z_1.out.below hb)
  have C_2 := Lib.hid (C_1.out.below hb)
  clear hb gG0 gG1 gG2 zZ0 zZ1 zfZ0 zfZ1
  obtain ⟨gG0, gG1, gG2⟩ := G_2.out
  obtain ⟨zZ0, zZ1, zfZ⟩ := Z_2.out
  have zfZ0 := zfZ 0
  have zfZ1 := zfZ 1
  clear zfZ
  go_wp2_with fail
  refine (sDeal_any P Q G hgd hq7 n (by omega) ad cap cs (by omega) HRS.out C_2.out).mono ?_
  rintro e w4 ⟨v, rfl, ⟨va, vb, M, rfl, ho1, ho2⟩, hb4⟩
  obtain ⟨a1, a2, rfl⟩ := own_shape ho1.1
  obtain ⟨b1, b2, rfl⟩ := own_shape ho2.1
  have HLV := Lib.hid Z_2.out.lt
  have HZ4 := Lib.hid (Z_2.out.below hb4)
  have HB4 := Lib.hid (bt HB_2.out hb4)
  have HO4 := Lib.hid (And.intro ho1 ho2)
  clear hb4 ho1 ho2 gG0 gG1 gG2 zZ0 zZ1 zfZ0 zfZ1
  obtain ⟨y0, y1, yf⟩ := HZ4.out
  have yf0 := yf 0
  have yf1 := yf 1
  clear yf
  go_wp2
  (try simp only [Exit.inBlock, Exit.then])
  refine bodyPost_ret (v := .tuple #[.agg #[.slice a1 (pwL P G cs).length a2, .slice b1 (shV Q cs n).length b2], .bool true]) ?_ rfl ?_
  · rw [results_cell_tmp rfl]; go_simp
  · have hm5 := mid_two7 w4 (w.heap.size + 1) (.slice a1 (pwL P G cs).length a2) (.slice b1 (shV Q cs n).length b2)
    have hlv := HLV.out
    have hlr := HO4.out.1.2.2.2
    have h1 := HO4.out.1.mid hm5 (.inr (by omega))
    have h2 := HO4.out.2.mid hm5 (.inr (by omega))
    have hwl := HB_2.out.size
    exact ⟨_, rfl, ⟨_, _, M, rfl, h1.wide hwl (Nat.le_refl _) h1.2.2.1, h2.wide (Nat.le_refl _) hm5.size (Nat.le_refl _)⟩, HB4.out.trans (hm5.toBelow (by omega) HB4.out.size)⟩

theorem dealShares_ans (P Q G n : Int) {B : Nat} {v : Value} {cs : List Int} (hl : cs.length ≤ 1048576) {w : World} (h : InI B w v cs) :
    Calls Try.prog 38 #[gv P Q G, v, .int .i64 n] w (AnsD w (dsR P Q G cs n) (dsB P Q G cs n)) := by
  obtain ⟨_, ad, cap, rfl, h1, _⟩ := h; exact dealShares_any P Q G n ad cap cs hl h1.ints
theorem sDealShares_ans (P Q G n : Int) {B : Nat} {v : Value} {cs : List Int} (hl : cs.length ≤ 1048576) {w : World} (h : InI B w v cs) :
    Calls Try.prog 37 #[gv P Q G, v, .int .i64 n] w (AnsD w (dsR P Q G cs n) (dsB P Q G cs n)) := by
  obtain ⟨_, ad, cap, rfl, h1, _⟩ := h; exact sDealShares_any P Q G n ad cap cs hl h1.ints

end Go.Proofs.Ytfjaohmildkeoaa

