/- EncodeText and EncodeCiphers of the program and of the reference. -/
import Derived.Test.YtmiohdibbpckaaaRecC
import Derived.Test.YtmiohdibbpckaaaTyC
namespace Go.Proofs.Ytmiohdibbpckaaa
open Go.RowKit

def txt (s : ByteArray) : List Int := (s.size : Int) :: lbl s
theorem txt_length (s : ByteArray) : (txt s).length = 1 + s.size := by unfold txt; simp [lbl_length]; omega
theorem txt_take {s : ByteArray} {k : Nat} (h : k < s.size) : (lbl s).take (k + 1) = (lbl s).take k ++ [(s[k].toNat : Int)] := by
  have hl : k < (lbl s).length := by rw [lbl_length]; exact h
  have e : (lbl s)[k] = (s[k].toNat : Int) := by
    simp only [lbl, List.getElem_map]
    rfl
  rw [List.take_succ_eq_append_getElem hl, e]
theorem txt_rec (s : ByteArray) (h : s.size < 400) : hashB (txt s) = true := by
  rw [hashB_true, txt_length, digsB_true]
  refine ⟨by omega, fun z hz => ?_⟩
  unfold txt at hz
  rcases List.mem_cons.1 hz with rfl | hz
  · omega
  · have := lbl_mem hz; omega
theorem txt_long (s : ByteArray) (h : 400 ≤ s.size) : hashB (txt s) = false := hashB_long (by rw [txt_length]; omega)

set_option maxRecDepth 100000 in
set_option maxHeartbeats 1600000 in
theorem encodeText_any (s : ByteArray) (hs : s.size ≤ 1048576) (w : World) :
    Calls Try.prog 35 #[.string s] w (AnsI w (recL (txt s)) (hashB (txt s))) := by
  by_cases h400 : 400 ≤ s.size
  · have hsi : (400 : Int) ≤ (s.size : Int) := by omega
    rw [txt_long s h400, recL_no (txt_long s h400)]
    clear h400
    go_enter Try.func35, Try.ntmps35
    go_wp2
    go_ret2
    exact ansI_nil (Below.refl _ _)
  · have hsi : (s.size : Int) < 400 := by omega
    rw [txt_rec s (by omega), recL_yes (txt_rec s (by omega))]
    obtain ⟨i0, hi, hz0, hz1, hz2⟩ := info_parts Try.info3
    have HL := Lib.hid (lbl_length s)
    have HO0 := Lib.hid (own_lit w [(s.size : Int)] (by simp) 3)
    have HA := Lib.hid (ba w (.cells #[.int .i64 (s.size : Int)] 3))
    clear h400
    go_enter Try.func35, Try.ntmps35
    go_wp2
    go_loopw [4, 5, 14] (fun V _ K wr => ∃ (k : Nat) (va : Option Addr) (vc : Nat), k ≤ s.size ∧ K = .int .i64 k ∧ V = .slice va (1 + k) vc ∧ wr.ownsRow w.heap.size 3 1 (.slice va (1 + k) vc) (1 + k) (((s.size : Int) :: (lbl s).take k).map (Value.int .i64)) ∧ Below w.heap.size w wr) (fun _ _ K _ => s.size - (intOf K).toNat)
    case atStart => exact ⟨0, some ⟨w.heap.size, 0, none⟩, 1, Nat.zero_le _, rfl, rfl, HO0.out, HA.out⟩
    case round =>
      obtain ⟨k, va, vc, hk, rfl, rfl, hown, hbel⟩ := hrel
      have HO := Lib.hid hown
      have HB := Lib.hid hbel
      clear hown hbel
      by_cases hks : k < s.size
      · have hki : (k : Int) < (s.size : Int) := by omega
        have hb255 : (s[k].toNat : Int) ≤ 255 := by have := s[k].toNat_lt; omega
        have hb0 : 0 ≤ (s[k].toNat : Int) := by omega
        have HT := Lib.hid (txt_take hks)
        go_wp2_with (at_builtin; refine wpList_append_ints rfl _ _ 22 rfl w.heap.size 3 i0 Try.underlying22 hi hz0 hz1 hz2 _ (1 + k) ((s.size : Int) :: (lbl s).take k) rfl (HO.out.alloc _) (some ⟨wr.heap.size, 0, none⟩) 1 1 [(s[k].toNat : Int)] rfl rfl (ints_spot wr _ rfl [(s[k].toNat : Int)] 3) (fun h => by cases h) (by omega) (Nat.le_trans HB.out.size (ba wr _).size) ?_; intro v' w1 hown' hgrow; obtain ⟨va', vc', rfl⟩ := own_shape hown'; have HO1 := Lib.hid hown'; have HB1 := Lib.hid ((HB.out.trans ((ba wr _).mono HB.out.size)).grown hgrow (Nat.le_trans HB.out.size (ba wr _).size) (fun q hq => (HO.out.lt q hq).1)); clear hown' hgrow)
        go_roundw
        case rel =>
          exact ⟨k + 1, va', vc', by omega, by go_num, by rw [show 1 + (k + 1) = 1 + k + 1 by omega], by rw [show 1 + (k + 1) = 1 + k + 1 by omega, HT.out]; simpa using HO1.out, HB1.out⟩
        case measure => simp only [intOf]; omega
      · have hki : (s.size : Int) ≤ (k : Int) := by omega
        obtain rfl : k = s.size := by omega
        go_wp2
        go_ret2
        refine ⟨_, rfl, ?_, HB.out⟩
        have h := HO.out
        rw [List.take_of_length_le (by rw [HL.out]; omega)] at h
        exact owI_mk h HB.out.size

set_option maxRecDepth 100000 in
set_option maxHeartbeats 1600000 in
theorem cText_any (s : ByteArray) (hs : s.size ≤ 1048576) (w : World) :
    Calls Try.prog 60 #[.string s] w (PutOut w.heap.size w (txt s)) := by
  have hsi : (s.size : Int) ≤ 1048576 := by omega
  obtain ⟨i0, hi, hz0, hz1, hz2⟩ := info_parts Try.info3
  have HL := Lib.hid (lbl_length s)
  have HO0 := Lib.hid (own_lit w [(s.size : Int)] (by simp) 3)
  have HA := Lib.hid (ba w (.cells #[.int .i64 (s.size : Int)] 3))
  go_enter Try.func60, Try.ntmps60
  go_wp2
  go_loopw [3, 4] (fun V K wr => ∃ (k : Nat) (va : Option Addr) (vc : Nat), k ≤ s.size ∧ K = .int .i64 k ∧ V = .slice va (1 + k) vc ∧ wr.ownsRow w.heap.size 3 1 (.slice va (1 + k) vc) (1 + k) (((s.size : Int) :: (lbl s).take k).map (Value.int .i64)) ∧ Below w.heap.size w wr) (fun _ K _ => s.size - (intOf K).toNat)
  case atStart => exact ⟨0, some ⟨w.heap.size, 0, none⟩, 1, Nat.zero_le _, rfl, rfl, HO0.out, HA.out⟩
  case round =>
    obtain ⟨k, va, vc, hk, rfl, rfl, hown, hbel⟩ := hrel
    have HO := Lib.hid hown
    have HB := Lib.hid hbel
    clear hown hbel
    by_cases hks : k < s.size
    · have hki : (k : Int) < (s.size : Int) := by omega
      have hb255 : (s[k].toNat : Int) ≤ 255 := by have := s[k].toNat_lt; omega
      have hb0 : 0 ≤ (s[k].toNat : Int) := by omega
      have HT := Lib.hid (txt_take hks)
      go_wp2_with (at_builtin; refine wpList_append_ints rfl _ _ 22 rfl w.heap.size 3 i0 Try.underlying22 hi hz0 hz1 hz2 _ (1 + k) ((s.size : Int) :: (lbl s).take k) rfl (HO.out.alloc _) (some ⟨wr.heap.size, 0, none⟩) 1 1 [(s[k].toNat : Int)] rfl rfl (ints_spot wr _ rfl [(s[k].toNat : Int)] 3) (fun h => by cases h) (by omega) (Nat.le_trans HB.out.size (ba wr _).size) ?_; intro v' w1 hown' hgrow; obtain ⟨va', vc', rfl⟩ := own_shape hown'; have HO1 := Lib.hid hown'; have HB1 := Lib.hid ((HB.out.trans ((ba wr _).mono HB.out.size)).grown hgrow (Nat.le_trans HB.out.size (ba wr _).size) (fun q hq => (HO.out.lt q hq).1)); clear hown' hgrow)
      go_roundw
      case rel =>
        exact ⟨k + 1, va', vc', by omega, by go_num, by rw [show 1 + (k + 1) = 1 + k + 1 by omega], by rw [show 1 + (k + 1) = 1 + k + 1 by omega, HT.out]; simpa using HO1.out, HB1.out⟩
      case measure => simp only [intOf]; omega
    · have hki : (s.size : Int) ≤ (k : Int) := by omega
      obtain rfl : k = s.size := by omega
      go_wp2
      go_ret
      have h := HO.out
      rw [List.take_of_length_le (by rw [HL.out]; omega)] at h
      exact ⟨va, _, vc, rfl, h, HB.out⟩

theorem sEncodeText_any (s : ByteArray) (hs : s.size ≤ 1048576) (w : World) :
    Calls Try.prog 34 #[.string s] w (AnsI w (recL (txt s)) (hashB (txt s))) := by
  have hel : (txt s).length ≤ 10000000 := by rw [txt_length]; omega
  generalize he : txt s = es at hel
  have HE := Lib.hid he
  cases hrec : hashB es
  · have HRC := Lib.hid hrec
    have e2 := recL_no hrec
    rw [e2]
    clear he hrec e2
    go_enter Try.func34, Try.ntmps34
    go_wp2_with fail
    refine (cText_any s hs _).mono ?_
    rw [HE.out]
    rintro e w1 ⟨va, k, vc, rfl, ho, hb⟩
    have HO := Lib.hid ho
    have HB := Lib.hid hb
    clear ho hb
    go_wp2_with fail
    refine (l4If_no va k vc es (own_ints HO.out).2.1 (by have := (own_ints HO.out).2.1; omega) HRC.out _ (own_ints HO.out).1).mono ?_
    rintro e w' ⟨rfl, rfl⟩
    go_wp2
    go_ret2
    exact ansI_nil HB.out
  · have HRC := Lib.hid hrec
    have e2 := recL_yes hrec
    rw [e2]
    clear he hrec e2
    go_enter Try.func34, Try.ntmps34
    go_wp2_with fail
    refine (cText_any s hs _).mono ?_
    rw [HE.out]
    rintro e w1 ⟨va, k, vc, rfl, ho, hb⟩
    have HO := Lib.hid ho
    have HB := Lib.hid hb
    clear ho hb
    go_wp2_with fail
    refine (l4If_yes va k vc es (own_ints HO.out).2.1 (by have := (own_ints HO.out).2.1; omega) HRC.out _ (own_ints HO.out).1).mono ?_
    rintro e w' ⟨rfl, rfl⟩
    go_wp2
    go_ret2
    exact ⟨_, rfl, owI_mk HO.out HB.out.size, HB.out⟩

/-! ### Ciphertexts -/
def encC (zs : List Int) : List Int := ((zs.length / 2 : Nat) : Int) :: zs
theorem InC.of {P : Nat} {w : World} {ad : Option Addr} {n cap : Nat} {zs : List Int} (h : InC P w (.slice ad n cap) zs) : zs.length = n * 2 ∧ InB P w ad zs ∧ (ad = none → cap = 0) := by
  obtain ⟨_, a', n', c', h1, h2, h3, h4⟩ := h
  simp only [Value.slice.injEq] at h1
  obtain ⟨rfl, rfl, rfl⟩ := h1
  exact ⟨h2, h3, h4⟩
theorem InC.shape {P : Nat} {w : World} {v : Value} {zs : List Int} (h : InC P w v zs) : ∃ ad n cap, v = .slice ad n cap ∧ zs.length = n * 2 := by
  obtain ⟨_, ad, n, cap, h, hn, _⟩ := h
  exact ⟨ad, n, cap, h, hn⟩
theorem take_two {zs : List Int} {k : Nat} {p q : Int} (h : zs.drop (k * 2) = p :: q :: zs.drop ((k + 1) * 2)) : zs.take ((k + 1) * 2) = zs.take (k * 2) ++ [p, q] := by
  have h1 := List.take_append_drop (k * 2) zs
  have hk : k * 2 ≤ zs.length := by
    rcases Nat.le_total (k * 2) zs.length with h' | h'
    · exact h'
    · rw [List.drop_of_length_le h'] at h; cases h
  conv => lhs; rw [← h1, h]
  rw [List.take_append]
  rw [List.take_of_length_le (by simp; omega)]
  congr 1
  rw [List.length_take, Nat.min_eq_left hk, show (k + 1) * 2 - k * 2 = 2 by omega]
  rfl

set_option maxRecDepth 100000 in
set_option maxHeartbeats 3200000 in
theorem encodeCiphers_any {P : Nat} {w : World} {v : Value} {zs : List Int} (h : InC P w v zs) (hl : zs.length ≤ 4194304) :
    Calls Try.prog 28 #[v] w (AnsI w (recL (encC zs)) (hashB (encC zs))) := by
  obtain ⟨ad, n, cap, rfl, hn⟩ := h.shape
  have en : encC zs = [(n : Int)] ++ zs := by unfold encC; rw [show zs.length / 2 = n by omega]; rfl
  rw [en]
  clear en
  have hnn : n ≤ 2097152 := by omega
  have hnn0 : 0 ≤ (n : Int) := by omega
  by_cases h400 : 400 < n
  · have hni : (400 : Int) < (n : Int) := by omega
    have e1 : hashB ([(n : Int)] ++ zs) = false := hashB_long (by simp; omega)
    rw [e1, recL_no e1]
    clear e1 h hn hl
    go_enter Try.func28, Try.ntmps28
    go_wp2
    go_ret2
    exact ansI_nil (Below.refl _ _)
  · have hni : (n : Int) ≤ 400 := by omega
    obtain ⟨i0, hi, hz0, hz1, hz2⟩ := info_parts Try.info3
    have HO0 := Lib.hid (own_lit w [(n : Int)] (by simp) 3)
    have HA := Lib.hid (ba w (.cells #[.int .i64 (n : Int)] 3))
    have HZ := Lib.hid h.of.2.1
    have hP := h.1
    have HN := Lib.hid hn
    clear h hn hl
    go_enter Try.func28, Try.ntmps28
    go_wp2
    go_loopw [4, 6, 15] (fun V _ K wr => ∃ (k : Nat) (va : Option Addr) (vc : Nat), k ≤ n ∧ K = .int .i64 k ∧ V = .slice va (1 + k * 2) vc ∧ wr.ownsRow w.heap.size 3 1 (.slice va (1 + k * 2) vc) (1 + k * 2) (([(n : Int)] ++ zs.take (k * 2)).map (Value.int .i64)) ∧ Below w.heap.size w wr) (fun _ _ K _ => n - (intOf K).toNat)
    case atStart => exact ⟨0, some ⟨w.heap.size, 0, none⟩, 1, Nat.zero_le _, rfl, rfl, HO0.out, HA.out⟩
    case round =>
      obtain ⟨k, va, vc, hk, rfl, rfl, hown, hbel⟩ := hrel
      have HO := Lib.hid hown
      have HB := Lib.hid hbel
      by_cases hkn : k < n
      · have hki : (k : Int) < (n : Int) := by omega
        obtain ⟨b, off, p, q, rfl, hb, hc1, hc2, hd⟩ := ((HZ.out.below (hbel.mono hP)).ints).pair hkn HN.out
        have HT := Lib.hid (take_two hd)
        clear hown hbel hd
        have hal := ba wr (.cells #[.int .i64 p, .int .i64 q] 67)
        have HAL := Lib.hid (bt hal (ba _ (.cells #[.int .i64 p, .int .i64 q] 3)))
        have HS := Lib.hid (show (wr.alloc (.cells #[.int .i64 p, .int .i64 q] 67)).heap.size = wr.heap.size + 1 by simp)
        clear hal
        go_wp2_with (at_builtin; refine wpList_append_ints rfl _ _ 22 rfl w.heap.size 3 i0 Try.underlying22 hi hz0 hz1 hz2 _ (1 + k * 2) ([(n : Int)] ++ zs.take (k * 2)) rfl ((HO.out.alloc _).alloc _) (some ⟨wr.heap.size + 1, 0, none⟩) 2 2 [p, q] rfl rfl (ints_spot _ _ HS.out [p, q] 3) (fun h => by cases h) (by omega) (Nat.le_trans HB.out.size HAL.out.size) ?_; intro v' w1 hown' hgrow; obtain ⟨va', vc', rfl⟩ := own_shape hown'; have HO1 := Lib.hid hown'; have HB1 := Lib.hid ((HB.out.trans (HAL.out.mono HB.out.size)).grown hgrow (Nat.le_trans HB.out.size HAL.out.size) (fun q hq => (HO.out.lt q hq).1)); clear hown' hgrow)
        go_roundw
        case rel =>
          exact ⟨k + 1, va', vc', by omega, by go_num, by rw [show 1 + (k + 1) * 2 = 1 + k * 2 + 2 by omega], by rw [show 1 + (k + 1) * 2 = 1 + k * 2 + 2 by omega, HT.out]; simpa using HO1.out, HB1.out⟩
        case measure => simp only [intOf]; omega
      · have hki : (n : Int) ≤ (k : Int) := by omega
        obtain rfl : k = n := by omega
        have hlen : ([(k : Int)] ++ zs).length = 1 + k * 2 := by have := HN.out; simp; omega
        have ht : zs.take (k * 2) = zs := List.take_of_length_le (by have := HN.out; omega)
        rw [ht] at hown
        have HOr := Lib.hid hown
        have HBr := Lib.hid hbel
        have HL := Lib.hid hlen
        clear hown hbel ht hlen
        cases hrec : hashB ([(k : Int)] ++ zs)
        · have HRC := Lib.hid hrec
          clear hrec
          go_wp2_with fail
          refine (isRecord_any _ _ _ ([(k : Int)] ++ zs) HL.out (by omega) _ (own_ints HOr.out).1).mono ?_
          rw [HRC.out]
          rintro e w' ⟨rfl, rfl⟩
          go_wp2
          go_ret2
          have h1 : hashB ((k : Int) :: zs) = false := HRC.out
          rw [h1, recL_no h1]
          exact ansI_nil HBr.out
        · have HRC := Lib.hid hrec
          clear hrec
          go_wp2_with fail
          refine (isRecord_any _ _ _ ([(k : Int)] ++ zs) HL.out (by omega) _ (own_ints HOr.out).1).mono ?_
          rw [HRC.out]
          rintro e w' ⟨rfl, rfl⟩
          go_wp2
          go_ret2
          have h1 : hashB ((k : Int) :: zs) = true := HRC.out
          rw [h1, recL_yes h1]
          exact ⟨_, rfl, owI_mk HOr.out HBr.out.size, HBr.out⟩

set_option maxRecDepth 100000 in
set_option maxHeartbeats 3200000 in
theorem cCiphers_any {P : Nat} {w : World} {v : Value} {zs : List Int} (h : InC P w v zs) (hl : zs.length ≤ 4194304) :
    Calls Try.prog 56 #[v] w (PutOut w.heap.size w (encC zs)) := by
  obtain ⟨ad, n, cap, rfl, hn⟩ := h.shape
  have en : encC zs = [(n : Int)] ++ zs := by unfold encC; rw [show zs.length / 2 = n by omega]; rfl
  rw [en]
  clear en
  have hnn : n ≤ 2097152 := by omega
  have hnn0 : 0 ≤ (n : Int) := by omega
  obtain ⟨i0, hi, hz0, hz1, hz2⟩ := info_parts Try.info3
  have HO0 := Lib.hid (own_lit w [(n : Int)] (by simp) 3)
  have HA := Lib.hid (ba w (.cells #[.int .i64 (n : Int)] 3))
  have HZ := Lib.hid h.of.2.1
  have hP := h.1
  have HN := Lib.hid hn
  clear h hn hl
  go_enter Try.func56, Try.ntmps56
  go_wp2
  go_loopw [3, 5, 11] (fun V _ K wr => ∃ (k : Nat) (va : Option Addr) (vc : Nat), k ≤ n ∧ K = .int .i64 k ∧ V = .slice va (1 + k * 2) vc ∧ wr.ownsRow w.heap.size 3 1 (.slice va (1 + k * 2) vc) (1 + k * 2) (([(n : Int)] ++ zs.take (k * 2)).map (Value.int .i64)) ∧ Below w.heap.size w wr) (fun _ _ K _ => n - (intOf K).toNat)
  case atStart => exact ⟨0, some ⟨w.heap.size, 0, none⟩, 1, Nat.zero_le _, rfl, rfl, HO0.out, HA.out⟩
  case round =>
    obtain ⟨k, va, vc, hk, rfl, rfl, hown, hbel⟩ := hrel
    have HO := Lib.hid hown
    have HB := Lib.hid hbel
    by_cases hkn : k < n
    · have hki : (k : Int) < (n : Int) := by omega
      obtain ⟨b, off, p, q, rfl, hb, hc1, hc2, hd⟩ := ((HZ.out.below (hbel.mono hP)).ints).pair hkn HN.out
      have HT := Lib.hid (take_two hd)
      clear hown hbel hd
      have hal := ba wr (.cells #[.int .i64 p, .int .i64 q] 67)
      have HAL := Lib.hid (bt hal (ba _ (.cells #[.int .i64 p, .int .i64 q] 3)))
      have HS := Lib.hid (show (wr.alloc (.cells #[.int .i64 p, .int .i64 q] 67)).heap.size = wr.heap.size + 1 by simp)
      clear hal
      go_wp2_with (at_builtin; refine wpList_append_ints rfl _ _ 22 rfl w.heap.size 3 i0 Try.underlying22 hi hz0 hz1 hz2 _ (1 + k * 2) ([(n : Int)] ++ zs.take (k * 2)) rfl ((HO.out.alloc _).alloc _) (some ⟨wr.heap.size + 1, 0, none⟩) 2 2 [p, q] rfl rfl (ints_spot _ _ HS.out [p, q] 3) (fun h => by cases h) (by omega) (Nat.le_trans HB.out.size HAL.out.size) ?_; intro v' w1 hown' hgrow; obtain ⟨va', vc', rfl⟩ := own_shape hown'; have HO1 := Lib.hid hown'; have HB1 := Lib.hid ((HB.out.trans (HAL.out.mono HB.out.size)).grown hgrow (Nat.le_trans HB.out.size HAL.out.size) (fun q hq => (HO.out.lt q hq).1)); clear hown' hgrow)
      go_roundw
      case rel =>
        exact ⟨k + 1, va', vc', by omega, by go_num, by rw [show 1 + (k + 1) * 2 = 1 + k * 2 + 2 by omega], by rw [show 1 + (k + 1) * 2 = 1 + k * 2 + 2 by omega, HT.out]; simpa using HO1.out, HB1.out⟩
      case measure => simp only [intOf]; omega

    · have hki : (n : Int) ≤ (k : Int) := by omega
      obtain rfl : k = n := by omega
      have ht : zs.take (k * 2) = zs := List.take_of_length_le (by have := HN.out; omega)
      rw [ht] at hown
      have HOr := Lib.hid hown
      have HBr := Lib.hid hbel
      clear hown hbel ht
      go_wp2
      go_ret
      exact ⟨va, _, vc, rfl, HOr.out, HBr.out⟩

theorem sEncodeCiphers_any {P : Nat} {w : World} {v : Value} {zs : List Int} (h : InC P w v zs) (hl : zs.length ≤ 4194304) :
    Calls Try.prog 26 #[v] w (AnsI w (recL (encC zs)) (hashB (encC zs))) := by
  have hel : (encC zs).length ≤ 10000000 := by unfold encC; simp; omega
  generalize he : encC zs = es at hel
  obtain ⟨ad, n, cap, rfl, hn⟩ := h.shape
  have HE := Lib.hid he
  have H := Lib.hid h
  clear h hn
  cases hrec : hashB es
  · have HRC := Lib.hid hrec
    have e2 := recL_no hrec
    rw [e2]
    clear he hrec e2
    go_enter Try.func26, Try.ntmps26
    go_wp2_with fail
    refine (cCiphers_any H.out hl).mono ?_
    rw [HE.out]
    rintro e w1 ⟨va, k, vc, rfl, ho, hb⟩
    have HO := Lib.hid ho
    have HB := Lib.hid hb
    clear ho hb
    go_wp2_with fail
    refine (l4If_no va k vc es (own_ints HO.out).2.1 (by have := (own_ints HO.out).2.1; omega) HRC.out _ (own_ints HO.out).1).mono ?_
    rintro e w' ⟨rfl, rfl⟩
    go_wp2
    go_ret2
    exact ansI_nil HB.out
  · have HRC := Lib.hid hrec
    have e2 := recL_yes hrec
    rw [e2]
    clear he hrec e2
    go_enter Try.func26, Try.ntmps26
    go_wp2_with fail
    refine (cCiphers_any H.out hl).mono ?_
    rw [HE.out]
    rintro e w1 ⟨va, k, vc, rfl, ho, hb⟩
    have HO := Lib.hid ho
    have HB := Lib.hid hb
    clear ho hb
    go_wp2_with fail
    refine (l4If_yes va k vc es (own_ints HO.out).2.1 (by have := (own_ints HO.out).2.1; omega) HRC.out _ (own_ints HO.out).1).mono ?_
    rintro e w' ⟨rfl, rfl⟩
    go_wp2
    go_ret2
    exact ⟨_, rfl, owI_mk HO.out HB.out.size, HB.out⟩

end Go.Proofs.Ytmiohdibbpckaaa

