/- Lists whose elements are different: both tests. The factor of a list of roots: a closure. -/
import Derived.Test.YtipfckfjelignaaPolI
namespace Go.Proofs.Ytipfckfjelignaa
open Go.RowKit

theorem mem_take_step {zs rest : List Int} {z x : Int} {k : Nat} (h : zs.drop k = z :: rest) (hn : x ∉ zs.take k) (hz : x ≠ z) : x ∉ zs.take (k + 1) := by
  obtain ⟨hk, he⟩ := head_of_drop h
  rw [List.take_succ_eq_append_getElem hk, he]
  simp [hn, hz]
theorem nodup_step {zs rest : List Int} {z : Int} {k : Nat} (h : zs.drop k = z :: rest) (hn : (zs.take k).Nodup) (hz : z ∉ zs.take k) : (zs.take (k + 1)).Nodup := by
  obtain ⟨hk, he⟩ := head_of_drop h
  rw [List.take_succ_eq_append_getElem hk, he, List.nodup_append]
  refine ⟨hn, by simp, ?_⟩
  intro a ha b hb hab
  simp only [List.mem_singleton] at hb
  subst hb; subst hab
  exact hz ha
theorem not_nodup {zs rest : List Int} {z : Int} {k : Nat} (h : zs.drop k = z :: rest) (hz : z ∈ zs.take k) : ¬ zs.Nodup := by
  intro hn
  rw [← List.take_append_drop k zs, h, List.nodup_append] at hn
  exact hn.2.2 z hz z (by simp) rfl

def IdxPost (zs : List Int) (x : Int) (w : World) (e : Ending) (w' : World) : Prop := ∃ r : Int, e = .returned (.int .i64 r) ∧ -1 ≤ r ∧ r ≤ 1152921504606846976 ∧ (0 ≤ r ↔ x ∈ zs) ∧ w = w'

set_option maxHeartbeats 800000 in
theorem index_any (ad : Option Addr) (n cap : Nat) (zs : List Int) (x : Int) (hn : zs.length = n) (hl : n ≤ 1152921504606846976) (w : World) (hz : IsInts w ad zs) :
    Calls Try.prog 141 #[.slice ad n cap, .int .i64 x] w (IdxPost zs x w) := by
  have HN := Lib.hid hn
  clear hn
  go_enter Try.func141, Try.ntmps141
  go_wp2_with fail
  go_loop [5, 8] (fun _ K => ∃ k : Nat, k ≤ n ∧ K = .int .i64 k ∧ x ∉ zs.take k) (fun _ K => n - (intOf K).toNat)
  case atStart => exact ⟨0, Nat.zero_le _, rfl, by simp⟩
  case round =>
    obtain ⟨k, hk, rfl, he⟩ := hrel
    by_cases hkn : k < n
    · obtain ⟨b, off, z, rfl, hb, hc, hd⟩ := hz.at (k := k) (by have := HN.out; omega)
      by_cases hxz : x = z
      · have HM := Lib.hid (show x ∈ zs by rw [hxz]; exact mem_drop hd)
        have hxb : (x == z) = true := by simp [hxz]
        clear he hd hxz
        go_wp2_with fail
        go_ret
        exact ⟨(k : Int), rfl, by omega, by omega, ⟨fun _ => HM.out, fun _ => by omega⟩, rfl⟩
      · have HS := Lib.hid (mem_take_step hd he hxz)
        have hxb : (x == z) = false := by simp [hxz]
        clear he hd hxz
        go_wp2_with fail
        go_round
        case rel => exact ⟨k + 1, by omega, by go_num, HS.out⟩
        case measure => simp only [intOf]; omega
    · have HE := Lib.hid (show x ∉ zs by rwa [List.take_of_length_le (by have := HN.out; omega)] at he)
      clear he
      go_wp2_with fail
      go_ret
      exact ⟨-1, rfl, by omega, by omega, ⟨fun h => by omega, fun h => absurd h HE.out⟩, rfl⟩

theorem contains_any (ad : Option Addr) (n cap : Nat) (zs : List Int) (x : Int) (hn : zs.length = n) (hl : n ≤ 1152921504606846976) (w : World) (hz : IsInts w ad zs) :
    Calls Try.prog 126 #[.slice ad n cap, .int .i64 x] w fun e w' => e = .returned (.bool (decide (x ∈ zs))) ∧ w = w' := by
  by_cases hm : x ∈ zs
  · rw [decide_eq_true hm]
    have HM := Lib.hid hm
    clear hm
    go_enter Try.func126, Try.ntmps126
    go_wp2_with fail
    refine (index_any ad n cap zs x hn hl _ hz).mono ?_
    rintro e w' ⟨r, rfl, h1, h2, h3, rfl⟩
    have h0 : 0 ≤ r := h3.2 HM.out
    clear h3
    go_wp2
    go_ret
    exact ⟨rfl, rfl⟩
  · rw [decide_eq_false hm]
    have HM := Lib.hid hm
    clear hm
    go_enter Try.func126, Try.ntmps126
    go_wp2_with fail
    refine (index_any ad n cap zs x hn hl _ hz).mono ?_
    rintro e w' ⟨r, rfl, h1, h2, h3, rfl⟩
    have h0 : r < 0 := by
      rcases Int.lt_or_le r 0 with h | h
      · exact h
      · exact absurd (h3.1 h) HM.out
    clear h3
    go_wp2
    go_ret
    refine ⟨?_, rfl⟩
    show Ending.returned (.bool (decide (0 ≤ r))) = _
    rw [decide_eq_false (by omega)]

set_option maxHeartbeats 800000 in
theorem l1Has_any (ad : Option Addr) (n cap : Nat) (zs : List Int) (x : Int) (hn : zs.length = n) (hl : n ≤ 1152921504606846976) (w : World) (hz : IsInts w ad zs) :
    Calls Try.prog 125 #[.slice ad n cap, .int .i64 x] w fun e w' => e = .returned (.bool (decide (x ∈ zs))) ∧ w = w' := by
  have HN := Lib.hid hn
  clear hn
  go_enter Try.func125, Try.ntmps125
  go_wp2_with fail
  go_loop [6, 9] (fun _ K => ∃ k : Nat, k ≤ n ∧ K = .int .i64 k ∧ x ∉ zs.take k) (fun _ K => n - (intOf K).toNat)
  case atStart => exact ⟨0, Nat.zero_le _, rfl, by simp⟩
  case round =>
    obtain ⟨k, hk, rfl, he⟩ := hrel
    by_cases hkn : k < n
    · obtain ⟨b, off, z, rfl, hb, hc, hd⟩ := hz.at (k := k) (by have := HN.out; omega)
      by_cases hxz : x = z
      · have HM := Lib.hid (show decide (x ∈ zs) = true from decide_eq_true (by rw [hxz]; exact mem_drop hd))
        have hxb : (z == x) = true := by simp [hxz]
        clear he hd hxz
        go_wp2_with fail
        go_ret
        exact ⟨by rw [HM.out]; rfl, rfl⟩
      · have HS := Lib.hid (mem_take_step hd he hxz)
        have hxb : (z == x) = false := by simp; exact fun h => hxz h.symm
        clear he hd hxz
        go_wp2_with fail
        go_round
        case rel => exact ⟨k + 1, by omega, by go_num, HS.out⟩
        case measure => simp only [intOf]; omega
    · have HE := Lib.hid (show decide (x ∈ zs) = false from decide_eq_false (by rwa [List.take_of_length_le (by have := HN.out; omega)] at he))
      clear he
      go_wp2_with fail
      go_ret
      exact ⟨by rw [HE.out]; rfl, rfl⟩

set_option maxHeartbeats 800000 in
theorem yPoints_any (ad : Option Addr) (n cap : Nat) (xs : List Int) (hn : xs.length = n) (hl : n ≤ 17592186044416) (hcap : n ≤ cap) (w : World) (hx : IsInts w ad xs) :
    Calls Try.prog 130 #[.slice ad n cap] w fun e w' => e = .returned (.bool (decide xs.Nodup)) ∧ w = w' := by
  have HN := Lib.hid hn
  clear hn
  go_enter Try.func130, Try.ntmps130
  go_wp2_with fail
  go_loop [3, 4, 7] (fun _ _ K => ∃ k : Nat, k ≤ n ∧ K = .int .i64 k ∧ (xs.take k).Nodup) (fun _ _ K => n - (intOf K).toNat)
  case atStart => exact ⟨0, Nat.zero_le _, rfl, by simp⟩
  case round =>
    obtain ⟨k, hk, rfl, he⟩ := hrel
    by_cases hkn : k < n
    · obtain ⟨b, off, z, rfl, hb, hc, hd⟩ := hx.at (k := k) (by have := HN.out; omega)
      have HT := Lib.hid (hx.take k)
      have HTL := Lib.hid (show (xs.take k).length = k by simp; have := HN.out; omega)
      by_cases hm : z ∈ xs.take k
      · have HE := Lib.hid (show decide xs.Nodup = false from decide_eq_false (not_nodup hd hm))
        have HM := Lib.hid (decide_eq_true hm)
        clear he hd hm
        go_wp2_with fail
        refine (l1Has_any _ k _ (xs.take k) z HTL.out (by omega) _ HT.out).mono ?_
        rintro e w' ⟨rfl, rfl⟩; rw [HM.out]
        go_wp2
        go_ret
        exact ⟨by rw [HE.out]; rfl, rfl⟩
      · have HS := Lib.hid (nodup_step hd he hm)
        have HM := Lib.hid (decide_eq_false hm)
        clear he hd hm
        go_wp2_with fail
        refine (l1Has_any _ k _ (xs.take k) z HTL.out (by omega) _ HT.out).mono ?_
        rintro e w' ⟨rfl, rfl⟩; rw [HM.out]
        go_wp2
        go_round
        case rel => exact ⟨k + 1, by omega, by go_num, HS.out⟩
        case measure => simp only [intOf]; omega
    · have HE := Lib.hid (show decide xs.Nodup = true from decide_eq_true (by rwa [List.take_of_length_le (by have := HN.out; omega)] at he))
      clear he
      go_wp2
      go_ret
      exact ⟨by rw [HE.out]; rfl, rfl⟩

def ptsB (q : Int) (xs : List Int) : Bool := decide (xs.length ≠ 0) && fieldB q [xs] && decide xs.Nodup

set_option maxHeartbeats 1600000 in
theorem arePoints_any (q : Int) (ad : Option Addr) (n cap : Nat) (xs : List Int) (hn : xs.length = n) (hl : n ≤ 17592186044416) (hcap : n ≤ cap) (w : World) (hx : IsInts w ad xs) :
    Calls Try.prog 92 #[.int .i64 q, .slice ad n cap] w fun e w' => e = .returned (.bool (ptsB q xs)) ∧ Below w.heap.size w w' := by
  by_cases h0 : n = 0
  · have e1 : ptsB q xs = false := by rw [ptsB, decide_eq_false (by omega)]; rfl
    rw [e1]
    subst h0
    clear e1 hn
    go_enter Try.func92, Try.ntmps92
    go_wp2
    go_ret
    exact ⟨rfl, Below.refl _ _⟩
  · have hnz : ((n : Int) == 0) = false := by simp; omega
    have HR := Lib.hid (rows_one w ad n cap xs hn 27 hx)
    have HLL := Lib.hid (show ∀ r ∈ ([(ad, cap, xs)] : List RowD), r.2.2.length ≤ 17592186044416 by intro r hr; simp at hr; subst hr; simp; omega)
    have hb0 := (Below.refl w.heap.size w).alloc (Nat.le_refl _) (.cells #[.slice ad n cap] 27)
    have HB0 := Lib.hid hb0
    cases hf : fieldB q [xs]
    · have e1 : ptsB q xs = false := by simp [ptsB, hf]
      rw [e1]
      have HF := Lib.hid (show fieldB q (List.map (fun r : RowD => r.2.2) [(ad, cap, xs)]) = false from hf)
      clear hf e1 hn hb0
      go_enter Try.func92, Try.ntmps92
      go_wp2_with fail
      refine (inField_any _ _ 0 1 _ [(ad, cap, xs)] rfl (by omega) HLL.out _ HR.out).mono ?_
      rintro e w' ⟨rfl, rfl⟩; rw [HF.out]
      go_wp2
      go_ret
      exact ⟨rfl, HB0.out⟩
    · have e1 : ptsB q xs = decide xs.Nodup := by simp [ptsB, hf]; intro _ h; subst h; simp at hn; omega
      rw [e1]
      have HF := Lib.hid (show fieldB q (List.map (fun r : RowD => r.2.2) [(ad, cap, xs)]) = true from hf)
      have HX1 := hx.below hb0 (Nat.le_refl _)
      have HN := Lib.hid hn
      clear hf e1 hn hb0
      go_enter Try.func92, Try.ntmps92
      go_wp2_with fail
      refine (inField_any _ _ 0 1 _ [(ad, cap, xs)] rfl (by omega) HLL.out _ HR.out).mono ?_
      rintro e w' ⟨rfl, rfl⟩; rw [HF.out]
      go_wp2_with fail
      go_loop [5, 6, 19] (fun _ _ K => ∃ k : Nat, k ≤ n ∧ K = .int .i64 k ∧ (xs.take k).Nodup) (fun _ _ K => n - (intOf K).toNat)
      case atStart => exact ⟨0, Nat.zero_le _, rfl, by simp⟩
      case round =>
        obtain ⟨k, hk, rfl, he⟩ := hrel
        by_cases hkn : k < n
        · obtain ⟨b, off, z, rfl, hb, hc, hd⟩ := HX1.at (k := k) (by have := HN.out; omega)
          have HT := Lib.hid (HX1.take k)
          have HTL := Lib.hid (show (xs.take k).length = k by simp; have := HN.out; omega)
          by_cases hm : z ∈ xs.take k
          · have HE := Lib.hid (show decide xs.Nodup = false from decide_eq_false (not_nodup hd hm))
            have HM := Lib.hid (decide_eq_true hm)
            clear he hd hm
            go_wp2_with fail
            refine (contains_any _ k _ (xs.take k) z HTL.out (by omega) _ HT.out).mono ?_
            rintro e w' ⟨rfl, rfl⟩; rw [HM.out]
            go_wp2
            go_ret
            exact ⟨by rw [HE.out]; rfl, HB0.out⟩
          · have HS := Lib.hid (nodup_step hd he hm)
            have HM := Lib.hid (decide_eq_false hm)
            clear he hd hm
            go_wp2_with fail
            refine (contains_any _ k _ (xs.take k) z HTL.out (by omega) _ HT.out).mono ?_
            rintro e w' ⟨rfl, rfl⟩; rw [HM.out]
            go_wp2
            go_round
            case rel => exact ⟨k + 1, by omega, by go_num, HS.out⟩
            case measure => simp only [intOf]; omega
        · have HE := Lib.hid (show decide xs.Nodup = true from decide_eq_true (by rwa [List.take_of_length_le (by have := HN.out; omega)] at he))
          clear he
          go_wp2
          go_ret
          exact ⟨by rw [HE.out]; rfl, HB0.out⟩

end Go.Proofs.Ytipfckfjelignaa

