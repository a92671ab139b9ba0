/- DeriveElements of the program and of the reference. -/
import Derived.Test.YtkpfmpndaenclaaHshH
namespace Go.Proofs.Ytkpfmpndaenclaa
open Go.RowKit

/-! ### The plain facts -/
def dsL (P Q G : Int) (s : ByteArray) (m : Nat) : List Int := (List.range m).map fun (k : Nat) => derV P Q G s k
theorem dsL_length (P Q G : Int) (s : ByteArray) (m : Nat) : (dsL P Q G s m).length = m := by simp [dsL]
theorem dsL_drop {P Q G : Int} {s : ByteArray} {m k : Nat} (h : k < m) : (dsL P Q G s m).drop k = derV P Q G s k :: (dsL P Q G s m).drop (k + 1) := by
  rw [List.drop_eq_getElem_cons (by rw [dsL_length]; exact h)]
  congr 1
  simp [dsL]
theorem dsL_take {P Q G : Int} {s : ByteArray} {m k : Nat} (h : k < m) : (dsL P Q G s m).take (k + 1) = (dsL P Q G s m).take k ++ [derV P Q G s k] := by
  rw [List.take_succ_eq_append_getElem (by rw [dsL_length]; exact h)]
  congr 2
  simp [dsL]
def dsAll (P Q G : Int) (s : ByteArray) (m : Nat) : Bool := (List.range m).all fun (k : Nat) => decide (0 < derV P Q G s k)
theorem dsAll_true {P Q G : Int} {s : ByteArray} {m : Nat} : dsAll P Q G s m = true ↔ ∀ k, k < m → 0 < derV P Q G s k := by
  unfold dsAll
  rw [List.all_eq_true]
  constructor
  · intro h k hk
    have := h k (List.mem_range.2 hk)
    simpa using this
  · intro h k hk
    simpa using h k (List.mem_range.1 hk)
def dsOk (P Q G : Int) (s : ByteArray) (n : Int) : Bool := deB P Q G s && inB n 0 100 && dsAll P Q G s n.toNat
def dsV (P Q G : Int) (s : ByteArray) (n : Int) : List Int := if dsOk P Q G s n then dsL P Q G s n.toNat else []
theorem dsV_length {P Q G : Int} {s : ByteArray} {n : Int} : (dsV P Q G s n).length ≤ 100 := by
  unfold dsV
  split
  · rename_i h
    unfold dsOk at h
    rw [Bool.and_eq_true, Bool.and_eq_true, inB_true] at h
    rw [dsL_length]; omega
  · simp
theorem ds_off {P Q G : Int} {s : ByteArray} {n : Int} (h : dsOk P Q G s n = false) : dsV P Q G s n = [] := by simp [dsV, h]
theorem ds_bad {P Q G : Int} {s : ByteArray} {m k : Nat} (hk : k < m) (h : ¬ 0 < derV P Q G s k) : dsOk P Q G s m = false := by
  unfold dsOk
  have : dsAll P Q G s (m : Int).toNat = false := by
    rw [← Bool.not_eq_true, Int.toNat_natCast, dsAll_true]
    exact fun h' => h (h' k hk)
  rw [this, Bool.and_false]
theorem ds_good {P Q G : Int} {s : ByteArray} {m : Nat} (hd : deB P Q G s = true) (hm : m ≤ 100) (h : ∀ k, k < m → 0 < derV P Q G s k) : dsOk P Q G s m = true ∧ dsV P Q G s m = dsL P Q G s m := by
  have h1 : dsOk P Q G s m = true := by
    unfold dsOk
    rw [hd, inB_true.2 (by omega), Int.toNat_natCast, dsAll_true.2 h]; rfl
  exact ⟨h1, by simp [dsV, h1]⟩
theorem pos_step {P Q G : Int} {s : ByteArray} {k : Nat} (h : ∀ j, j < k → 0 < derV P Q G s j) (h1 : 0 < derV P Q G s k) : ∀ j, j < k + 1 → 0 < derV P Q G s j := fun j hj => by
  rcases Nat.lt_or_eq_of_le (Nat.le_of_lt_succ hj) with h2 | rfl
  · exact h j h2
  · exact h1

/-! ### The program -/
set_option maxRecDepth 100000 in
set_option maxHeartbeats 3200000 in
theorem deriveElements_any (P Q G : Int) (s : ByteArray) (hs : s.size ≤ 1048576) (n : Int) (w : World) :
    Calls Try.prog 52 #[gv P Q G, .string s, .int .i64 n] w (ListOut w (dsV P Q G s n) (dsOk P Q G s n)) := by
  have HV := Lib.hid (gr_new w P Q G 24)
  have HB := Lib.hid (ba w (.cells #[.int .i64 P, .int .i64 Q, .int .i64 G] 24))
  obtain ⟨c0, c1, c2⟩ := HV.out
  by_cases hn0 : n < 0
  · have e1 : dsOk P Q G s n = false := by
      have : inB n 0 100 = false := inB_false.2 (.inl hn0)
      simp [dsOk, this]
    rw [e1, ds_off e1]
    clear e1
    go_enter Try.func52, Try.ntmps52
    go_wp2
    go_ret2
    exact listOut_nil _ _ HB.out
  by_cases hn1 : 100 < n
  · have e1 : dsOk P Q G s n = false := by
      have : inB n 0 100 = false := inB_false.2 (.inr hn1)
      simp [dsOk, this]
    rw [e1, ds_off e1]
    clear e1
    go_enter Try.func52, Try.ntmps52
    go_wp2
    go_ret2
    exact listOut_nil _ _ HB.out
  obtain ⟨m, rfl⟩ := Int.eq_ofNat_of_zero_le (show 0 ≤ n by omega)
  have hm : m ≤ 100 := by omega
  have hmi : (m : Int) ≤ 100 := by omega
  clear hn1
  cases hd : deB P Q G s
  · have e1 : dsOk P Q G s m = false := by simp [dsOk, hd]
    rw [e1, ds_off e1]
    have HD := Lib.hid ((deB_ch P Q G s).trans hd)
    clear e1 hd
    go_enter Try.func52, Try.ntmps52
    go_wp2_with fail
    refine (canChallenge_any P Q G s hs none 0 0 [] rfl (by decide) 2 (by decide) (by decide) _ (.inl rfl)).mono ?_
    rw [HD.out]
    rintro e w1 ⟨rfl, hb1⟩
    have HB1 := Lib.hid (bt HB.out hb1)
    clear hb1
    go_wp2
    go_ret2
    exact listOut_nil _ _ HB1.out
  obtain ⟨hg, h40⟩ := deB_true.1 hd
  have HG := Lib.hid hg
  have HDE := Lib.hid hd
  have HD := Lib.hid ((deB_ch P Q G s).trans hd)
  have hs40 : s.size ≤ 1000 := by omega
  obtain ⟨i0, hi, hz0, hz1, hz2⟩ := info_parts Try.info3
  have HZ2 := Lib.hid hz2
  clear hd hg hz2
  go_enter Try.func52, Try.ntmps52
  go_wp2_with fail
  refine (canChallenge_any P Q G s hs none 0 0 [] rfl (by decide) 2 (by decide) (by decide) _ (.inl rfl)).mono ?_
  rw [HD.out]
  rintro e w1 ⟨rfl, hb1⟩
  have HB1 := Lib.hid (bt HB.out hb1)
  have HV1 := Lib.hid (HV.out.below hb1)
  clear hb1 c0 c1 c2
  go_wp2_with (at_make; refine wpList_make_full _ rfl _ _ 36 rfl w1.heap.size 3 i0 (.int .i64 0) 1 Try.underlying36 hi hz0 hz1 .i64 .i64 _ _ m rfl rfl rfl rfl (by rw [HZ2.out]; omega) (by unfold maxLen; omega) (Nat.le_refl _) ?_; intro w2 hown hgrow)
  have HV2 := Lib.hid (gr_grown HV1.out hgrow (by simp))
  have HB2 := Lib.hid (HB1.out.grown hgrow HB1.out.size (by simp))
  have HO2 := Lib.hid (show w2.ownsRow w1.heap.size 3 1 (.slice (some ⟨w1.heap.size, 0, none⟩) m m) m ((mix (dsL P Q G s m) 0).map (Value.int .i64)) from by
    rw [mix_zero, dsL_length]
    have h := hown
    rw [show Value.cells (.int .i64 0) = #[.int .i64 0] from rfl, Nat.mul_one, toList_madeCells_one] at h
    simpa using h)
  have hwl : w.heap.size < w1.heap.size := HV1.out.lt
  clear hown hgrow
  go_wp2
  go_loopw [9, 10, 11, 28] (fun _ _ _ K wr => ∃ k : Nat, k ≤ m ∧ K = .int .i64 k ∧ GR wr w.heap.size P Q G ∧ wr.ownsRow w1.heap.size 3 1 (.slice (some ⟨w1.heap.size, 0, none⟩) m m) m ((mix (dsL P Q G s m) k).map (Value.int .i64)) ∧ Below w.heap.size w wr ∧ Hid (∀ j, j < k → 0 < derV P Q G s j)) (fun _ _ _ K _ => m - (intOf K).toNat)
  case atStart => exact ⟨0, Nat.zero_le _, rfl, HV2.out, HO2.out, HB2.out, Lib.hid (fun j hj => absurd hj (Nat.not_lt_zero j))⟩
  case round =>
    obtain ⟨k, hk, rfl, hgr, hown, hbel, HPOS⟩ := hrel
    have HGr := Lib.hid hgr
    have HO := Lib.hid hown
    have HBr := Lib.hid hbel
    clear hown hbel
    by_cases hkm : k < m
    · have hki : (k : Int) < (m : Int) := by omega
      obtain ⟨c0, c1, c2⟩ := hgr
      go_wp2_with fail
      refine (derive_any P Q G HG.out s hs40 k (by omega) (by omega) _).mono ?_
      rintro e w3 ⟨rfl, hb3⟩
      have HG3 := Lib.hid (HGr.out.below hb3)
      have HO3 := Lib.hid (own_below HO.out hb3)
      have HB3 := Lib.hid (HBr.out.trans (hb3.mono HBr.out.size))
      clear hb3 c0 c1 c2
      by_cases hpos : 0 < derV P Q G s k
      · have hpb : decide (0 < derV P Q G s k) = true := decide_eq_true hpos
        have HP := Lib.hid (pos_step HPOS.out hpos)
        obtain ⟨⟨u, hcu⟩, hfu⟩ := copy_cell HO3.out hkm
        have HR := Lib.hid (copy_round HO3.out (dsL_drop hkm))
        clear hpos
        go_wp2
        go_roundw
        case rel => exact ⟨k + 1, by omega, by go_num, gr_grown HG3.out (grown_cell _ _ _) (by simp; omega), HR.out, HB3.out.setCell (Nat.le_of_lt hwl) _, HP⟩
        case measure => simp only [intOf]; omega
      · have hpb : decide (0 < derV P Q G s k) = false := decide_eq_false hpos
        have hbad := ds_bad hkm hpos
        have HBAD := Lib.hid hbad
        clear hpos hbad
        go_wp2
        go_ret2
        rw [HBAD.out, ds_off HBAD.out]
        exact listOut_nil _ _ HB3.out
    · have hki : (m : Int) ≤ (k : Int) := by omega
      obtain rfl : k = m := by omega
      clear hgr
      go_wp2
      go_ret2
      obtain ⟨h1, h2⟩ := ds_good HDE.out hm HPOS.out
      rw [h1, h2]
      have h3 := HO.out
      rw [mix_all _ (by rw [dsL_length]; exact Nat.le_refl _)] at h3
      exact ⟨_, _, _, rfl, own_base h3 (Nat.le_of_lt hwl), HBr.out⟩

/-! ### The reference -/
set_option maxRecDepth 100000 in
set_option maxHeartbeats 3200000 in
theorem sDeriveElements_any (P Q G : Int) (s : ByteArray) (hs : s.size ≤ 1048576) (n : Int) (w : World) :
    Calls Try.prog 51 #[gv P Q G, .string s, .int .i64 n] w (ListOut w (dsV P Q G s n) (dsOk P Q G s n)) := by
  have HV := Lib.hid (gr_new w P Q G 24)
  have HB := Lib.hid (ba w (.cells #[.int .i64 P, .int .i64 Q, .int .i64 G] 24))
  have hsi : 0 ≤ (s.size : Int) ∧ (s.size : Int) ≤ 1048576 := by omega
  obtain ⟨s0, s1⟩ := hsi
  obtain ⟨c0, c1, c2⟩ := HV.out
  cases hg : goodB P Q G
  · have e1 : dsOk P Q G s n = false := by simp [dsOk, deB, hg]
    rw [e1, ds_off e1]
    have HG := Lib.hid hg
    clear e1 hg
    go_enter Try.func51, Try.ntmps51
    go_wp2_with fail
    refine (l2Good_any P Q G _).mono ?_
    rw [HG.out]
    rintro e w1 ⟨rfl, hb1⟩
    have HB1 := Lib.hid (bt HB.out hb1)
    clear hb1
    go_wp2
    go_ret2
    exact listOut_nil _ _ HB1.out
  by_cases h40 : ¬ (s.size : Int) ≤ 40
  · have hd0 : deB P Q G s = false := by rw [← Bool.not_eq_true, deB_true]; exact fun h => h40 h.2
    have e1 : dsOk P Q G s n = false := by simp [dsOk, hd0]
    rw [e1, ds_off e1]
    have HG := Lib.hid hg
    have h40i : (40 : Int) < (s.size : Int) := by omega
    clear e1 hg hs hd0 h40
    go_enter Try.func51, Try.ntmps51
    go_wp2_with fail
    refine (l2Good_any P Q G _).mono ?_
    rw [HG.out]
    rintro e w1 ⟨rfl, hb1⟩
    have HB1 := Lib.hid (bt HB.out hb1)
    clear hb1
    go_wp2
    go_ret2
    exact listOut_nil _ _ HB1.out
  have h40 := Decidable.not_not.1 h40
  have hs40 : s.size ≤ 1000 := by omega
  have hd : deB P Q G s = true := deB_true.2 ⟨hg, h40⟩
  cases hn : inB n 0 100
  · have e1 : dsOk P Q G s n = false := by simp [dsOk, hn]
    rw [e1, ds_off e1]
    have HG := Lib.hid hg
    have HN := Lib.hid hn
    clear e1 hg hs hd hn
    go_enter Try.func51, Try.ntmps51
    go_wp2_with fail
    refine (l2Good_any P Q G _).mono ?_
    rw [HG.out]
    rintro e w1 ⟨rfl, hb1⟩
    have HB1 := Lib.hid (bt HB.out hb1)
    clear hb1
    go_wp2_with fail
    refine (l1In_any _ _ _ _).mono ?_
    rw [HN.out]
    rintro e w' ⟨rfl, rfl⟩
    go_wp2
    go_ret2
    exact listOut_nil _ _ HB1.out
  obtain ⟨n0, n1⟩ := inB_true.1 hn
  obtain ⟨m, rfl⟩ := Int.eq_ofNat_of_zero_le n0
  have hm : m ≤ 100 := by omega
  have HN := Lib.hid hn
  have HG := Lib.hid hg
  have HDE := Lib.hid hd
  obtain ⟨i0, hi, hz0, hz1, hz2⟩ := info_parts Try.info3
  have HNN := Lib.hid (fun k : Nat => derS_nn hg s k 1000 0)
  clear hd hg hn hs
  go_enter Try.func51, Try.ntmps51
  go_wp2_with fail
  refine (l2Good_any P Q G _).mono ?_
  rw [HG.out]
  rintro e w1 ⟨rfl, hb1⟩
  have HB1 := Lib.hid (bt HB.out hb1)
  have HV1 := Lib.hid (HV.out.below hb1)
  clear hb1 c0 c1 c2
  go_wp2_with fail
  refine (l1In_any _ _ _ _).mono ?_
  rw [HN.out]
  rintro e w' ⟨rfl, rfl⟩
  have hwl : w.heap.size < w1.heap.size := HV1.out.lt
  go_wp2
  go_loopw [8, 9, 10] (fun V K _ wr => ∃ (k : Nat) (va : Option Addr) (vc : Nat), k ≤ m ∧ K = .int .i64 k ∧ V = .slice va k vc ∧ GR wr w.heap.size P Q G ∧ wr.ownsRow w1.heap.size 3 1 (.slice va k vc) k (((dsL P Q G s m).take k).map (Value.int .i64)) ∧ Below w.heap.size w wr ∧ w1.heap.size ≤ wr.heap.size ∧ Hid (∀ j, j < k → 0 < derV P Q G s j)) (fun _ K _ _ => m - (intOf K).toNat)
  case atStart => exact ⟨0, none, 0, Nat.zero_le _, rfl, rfl, HV1.out, World.ownsRow_nil _ _ _ _, HB1.out, Nat.le_refl _, Lib.hid (fun j hj => absurd hj (Nat.not_lt_zero j))⟩
  case round =>
    obtain ⟨k, va, vc, hk, rfl, rfl, hgr, hown, hbel, hszr, HPOS⟩ := hrel
    have HGr := Lib.hid hgr
    have HO := Lib.hid hown
    have HBr := Lib.hid hbel
    clear hown hbel
    by_cases hkm : k < m
    · have hki : (k : Int) < (m : Int) := by omega
      obtain ⟨c0, c1, c2⟩ := hgr
      go_wp2_with fail
      refine (hDerived_any P Q G HG.out s hs40 k (by omega) (by omega) _).mono ?_
      rintro e w3 ⟨rfl, hb3⟩
      have HG3 := Lib.hid (HGr.out.below hb3)
      have HO3 := Lib.hid (own_below HO.out hb3)
      have HB3 := Lib.hid (HBr.out.trans (hb3.mono HBr.out.size))
      have hsz3 : w1.heap.size ≤ w3.heap.size := Nat.le_trans hszr hb3.size
      clear hb3 c0 c1 c2
      by_cases hpos : 0 < derV P Q G s k
      · have hpb : (derV P Q G s k == 0) = false := by simp; omega
        have HP := Lib.hid (pos_step HPOS.out hpos)
        have HT := Lib.hid (dsL_take (P := P) (Q := Q) (G := G) (s := s) hkm)
        clear hpos
        go_wp2_with (at_builtin; refine wpList_append_ints rfl _ _ 36 rfl w1.heap.size 3 i0 Try.underlying36 hi hz0 hz1 hz2 _ k ((dsL P Q G s m).take k) rfl (HO3.out.alloc _) (some ⟨w3.heap.size, 0, none⟩) 1 1 [derV P Q G s k] rfl rfl (ints_spot w3 _ rfl [derV P Q G s k] 3) (fun h => by cases h) (by omega) (by simp; omega) ?_)
        intro v' w4 hown' hgrow
        obtain ⟨va', vc', rfl⟩ := own_shape hown'
        have HO4 := Lib.hid hown'
        have hal := ba w3 (.cells #[.int .i64 (derV P Q G s k)] 3)
        have HG4 := Lib.hid (gr_grown (HG3.out.below hal) hgrow (fun e => by have h := (HO3.out.lt _ e.symm).1; omega))
        have HB4 := Lib.hid ((HB3.out.trans (hal.mono HB3.out.size)).grown hgrow (Nat.le_trans HB3.out.size hal.size) (fun q hq => Nat.le_trans (Nat.le_of_lt hwl) (HO3.out.lt q hq).1))
        have hsz4 : w1.heap.size ≤ w4.heap.size := Nat.le_trans hsz3 (Nat.le_trans hal.size hgrow.size)
        clear hown' hgrow hal
        go_wp2
        go_roundw
        case rel => exact ⟨k + 1, va', vc', by omega, by go_num, rfl, HG4.out, by rw [HT.out]; simpa using HO4.out, HB4.out, hsz4, HP⟩
        case measure => simp only [intOf]; omega
      · have hz : derV P Q G s k = 0 := by have : 0 ≤ derV P Q G s k := HNN.out k; omega
        have hpb : (derV P Q G s k == 0) = true := by simp [hz]
        have HBAD := Lib.hid (ds_bad hkm hpos)
        clear hpos hz
        go_wp2
        go_ret2
        rw [HBAD.out, ds_off HBAD.out]
        exact listOut_nil _ _ HB3.out
    · have hki : (m : Int) ≤ (k : Int) := by omega
      obtain rfl : k = m := by omega
      clear hgr
      go_wp2
      go_ret2
      obtain ⟨h1, h2⟩ := ds_good HDE.out hm HPOS.out
      rw [h1, h2]
      have h3 := HO.out
      rw [List.take_of_length_le (by rw [dsL_length]; exact Nat.le_refl _)] at h3
      exact ⟨_, _, _, rfl, own_base h3 (Nat.le_of_lt hwl), HBr.out⟩

end Go.Proofs.Ytkpfmpndaenclaa
