/- HashLabelled of the program and of the reference. -/
import Derived.Test.YtdnofcpobpoehaaHshA
import Derived.Test.YtdnofcpobpoehaaInvAll
import Derived.Laws.AppendOwnNone
import Derived.Maps.AppendAt
import Derived.Lib.ConvBytes
namespace Go.Proofs.Ytdnofcpobpoehaa
open Go.RowKit

/-! ### The plain facts -/
def hst (c i : Int) (s : ByteArray) (n : Int) : Int := hfold c (hab c (hab c i (1 + (s.size : Int) + n)) s.size) (lbl s)
theorem hb_st (i j : Int) (s : ByteArray) (n : Int) : HB2 (hst 48271 i s n) (hst 69621 j s n) := hb_fold _ _ _ _ _ _ (hb_ab _ _ _ _ _ _)
theorem hlab_eq (s : ByteArray) (zs : List Int) : hlab s zs = 2147483648 * hfold 48271 (hst 48271 1 s zs.length) zs + hfold 69621 (hst 69621 2 s zs.length) zs := by
  unfold hlab hlist
  have e : ((hwith s zs).length : Int) = 1 + (s.size : Int) + zs.length := by rw [hwith_length]; omega
  rw [e]
  have g : ∀ c i n : Int, hfold c i (n :: hwith s zs) = hfold c (hfold c (hab c (hab c i n) s.size) (lbl s)) zs := fun c i n => by
    rw [← hfold_append]; rfl
  unfold hdig hst
  rw [g, g]
theorem lbl_take {s : ByteArray} {k : Nat} (h : k < s.size) : (lbl s).take (k + 1) = (lbl s).take k ++ [(s[k].toNat : Int)] := by
  have hl : k < (lbl s).length := by rw [lbl_length]; exact h
  have e : (lbl s)[k] = (s[k].toNat : Int) := by
    simp only [lbl, List.getElem_map]
    rfl
  rw [List.take_succ_eq_append_getElem hl, e]
theorem labB_true {s : ByteArray} {n : Int} : labB s n = true ↔ (s.size : Int) ≤ 40 ∧ 1 + (s.size : Int) + n ≤ 400 := by simp [labB]
theorem hwith_digs {s : ByteArray} {zs : List Int} (h : ∀ z ∈ zs, 0 ≤ z ∧ z ≤ 4611686018427387903) (hs : s.size ≤ 1000000) : ∀ z ∈ hwith s zs, 0 ≤ z ∧ z ≤ 4611686018427387903 := by
  intro z hz
  unfold hwith at hz
  rcases List.mem_cons.1 hz with rfl | hz
  · omega
  · rcases List.mem_append.1 hz with hz | hz
    · have := lbl_mem hz; omega
    · exact h z hz
theorem hashL_true {s : ByteArray} {zs : List Int} {m : Int} : hashL s zs m = true ↔ labB s (zs.length + m) = true ∧ digsB zs = true := by simp [hashL]

/-! ### The program -/
theorem canHash_any (s : ByteArray) (n : Int) (hs : s.size ≤ 1048576) (n0 : 0 ≤ n) (n1 : n ≤ 1152921504606846976) (w : World) :
    Calls Try.prog 139 #[.string s, .int .i64 n] w fun e w' => e = .returned (.bool (labB s n)) ∧ w = w' := by
  have hsi : 0 ≤ (s.size : Int) ∧ (s.size : Int) ≤ 1048576 := by omega
  obtain ⟨s0, s1⟩ := hsi
  by_cases h1 : (s.size : Int) ≤ 40
  · have e : labB s n = decide (1 + (s.size : Int) + n ≤ 400) := by unfold labB; rw [decide_eq_true h1]; rfl
    rw [e]
    clear e hs
    go_enter Try.func139, Try.ntmps139
    go_wp2
    go_ret
    exact ⟨rfl, rfl⟩
  · have e : labB s n = false := by rw [← Bool.not_eq_true, labB_true]; omega
    rw [e]
    clear e hs
    go_enter Try.func139, Try.ntmps139
    go_wp2
    go_ret
    exact ⟨rfl, rfl⟩

set_option maxRecDepth 100000 in
set_option maxHeartbeats 1600000 in
theorem startLabelled_any (s : ByteArray) (n : Int) (hs : s.size ≤ 1048576) (n0 : 0 ≤ n) (n1 : n ≤ 1152921504606846976) (w : World) :
    Calls Try.prog 166 #[.string s, .int .i64 n] w fun e w' => e = .returned (hv (hst 48271 1 s n) (hst 69621 2 s n)) ∧ Below w.heap.size w w' := by
  have hsi : 0 ≤ (s.size : Int) ∧ (s.size : Int) ≤ 1048576 := by omega
  obtain ⟨s0, s1⟩ := hsi
  have hcv := fun (W : World) => Lib.run_convert_string_bytes (P := Try.prog) W 9 63 5 s Try.underlying9 Try.underlying63 Try.underlying5
  have HR0 := Lib.hid (hs_new w 0 0 164)
  have HW0 := Lib.hid (ba w (.cells #[.int .i64 0, .int .i64 0] 164))
  have HX := Lib.hid (lbl_length s)
  go_enter Try.func166, Try.ntmps166
  go_wp2_with fail
  refine (startHash_any _ (by omega) (by omega) _).mono ?_
  rintro e w1 ⟨rfl, hb1⟩
  have HR1 := Lib.hid (HR0.out.below hb1)
  have HW1 := Lib.hid (bt HW0.out hb1)
  clear hb1
  go_wp2_with fail
  refine (absorb_any _ _ (hb_ab _ _ _ _ _ _) _ 1 1 [(s.size : Int)] rfl (by decide) (by simp; omega) _ (ints_spot w1 _ rfl [(s.size : Int)] 3)).mono ?_
  rintro e w2 ⟨rfl, hb2⟩
  have hal := ba w1 (.cells #[.int .i64 (s.size : Int)] 3)
  have HR2 := Lib.hid ((HR1.out.below hal).below hb2)
  have HW2 := Lib.hid (bt (bt HW1.out hal) hb2)
  clear hal hb2
  go_wp2_with fail
  have e1 : ∀ c i : Int, hfold c i [(s.size : Int)] = hab c i s.size := fun _ _ => rfl
  rw [e1, e1]
  clear e1
  refine (absorbB_any _ _ (hb_ab _ _ _ _ _ _) _ _ _ (lbl s) HX.out (by omega) (fun z hz => by have := lbl_mem hz; omega) _ (bys_conv _ _ (by simp) s 5)).mono ?_
  rintro e w3 ⟨rfl, hb3⟩
  have hal := ba w2 (.cells #[.int .i64 (hab 48271 (hab 48271 1 (1 + (s.size : Int) + n)) s.size), .int .i64 (hab 69621 (hab 69621 2 (1 + (s.size : Int) + n)) s.size)] 164)
  have hcb := below_conv (w2.alloc (.cells #[.int .i64 (hab 48271 (hab 48271 1 (1 + (s.size : Int) + n)) s.size), .int .i64 (hab 69621 (hab 69621 2 (1 + (s.size : Int) + n)) s.size)] 164)) s 5
  have HR3 := Lib.hid (((HR2.out.below hal).below hcb).below hb3)
  have HW3 := Lib.hid (bt (bt (bt HW2.out hal) hcb) hb3)
  obtain ⟨d0, d1, df⟩ := HR3.out
  have df0 := df 0
  have df1 := df 1
  clear hal hcb hb3 df hcv
  go_wp2
  (try simp only [Exit.inBlock, Exit.then])
  refine bodyPost_ret (v := hv (hst 48271 1 s n) (hst 69621 2 s n)) ?_ rfl ⟨rfl, ?_⟩
  · rw [results_cell_one rfl]; go_simp; exact ⟨rfl, rfl⟩
  · exact (HW3.out.setCell (Nat.le_refl _) _).setCell (Nat.le_refl _) _

/-! ### The reference -/
set_option maxRecDepth 100000 in
set_option maxHeartbeats 1600000 in
theorem l3With_any (s : ByteArray) (hs : s.size ≤ 1048576) (ad : Option Addr) (n cap : Nat) (zs : List Int) (hn : zs.length = n) (hl : n ≤ 1000000000) (hnil : ad = none → cap = 0) (w : World) (hz : IsInts w ad zs) :
    Calls Try.prog 169 #[.string s, .slice ad n cap] w (OwnOut w (hwith s zs)) := by
  obtain ⟨i0, hi, hz0, hz1, hz2⟩ := info_parts Try.info3
  have HN := Lib.hid hn
  have HNIL := Lib.hid hnil
  have HS := Lib.hid hs
  have HL := Lib.hid (lbl_length s)
  clear hn hnil
  go_enter Try.func169, Try.ntmps169
  go_wp2
  go_loopw [5, 6] (fun V K wr => ∃ (k : Nat) (va : Option Addr) (vc : Nat), k ≤ s.size ∧ K = .int .i64 k ∧ V = .slice va (1 + k) vc ∧ wr.ownsRow w.heap.size 3 1 (.slice va (1 + k) vc) (1 + k) (((s.size : Int) :: (lbl s).take k).map (Value.int .i64)) ∧ Below w.heap.size w wr) (fun _ K _ => s.size - (intOf K).toNat)
  case atStart => exact ⟨0, some ⟨w.heap.size, 0, none⟩, 1, Nat.zero_le _, rfl, rfl, own_lit w [(s.size : Int)] (by simp) 3, ba _ _⟩
  case round =>
    obtain ⟨k, va, vc, hk, rfl, rfl, hown, hbel⟩ := hrel
    have HO := Lib.hid hown
    have HB := Lib.hid hbel
    clear hown hbel
    by_cases hks : k < s.size
    · have hki : (k : Int) < (s.size : Int) := by omega
      have hb255 : (s[k].toNat : Int) ≤ 255 := by have := s[k].toNat_lt; omega
      have hb0 : 0 ≤ (s[k].toNat : Int) := by omega
      have HT := Lib.hid (lbl_take hks)
      go_wp2_with (at_builtin; refine wpList_append_ints rfl _ _ 24 rfl w.heap.size 3 i0 Try.underlying24 hi hz0 hz1 hz2 _ (1 + k) ((s.size : Int) :: (lbl s).take k) rfl (HO.out.alloc _) (some ⟨wr.heap.size, 0, none⟩) 1 1 [(s[k].toNat : Int)] rfl rfl (ints_spot wr _ rfl [(s[k].toNat : Int)] 3) (fun h => by cases h) (by have := HS.out; omega) ?_ ?_)
      · have := HB.out.size; simp; omega
      · intro v' w1 hown' hgrow
        obtain ⟨va', vc', rfl⟩ := own_shape hown'
        have HO1 := Lib.hid hown'
        have hal := ba wr (.cells #[.int .i64 (s[k].toNat : Int)] 3)
        have HB1 := Lib.hid ((HB.out.trans (hal.mono HB.out.size)).grown hgrow (by have := HB.out.size; simp; omega) (fun q hq => (HO.out.lt q hq).1))
        clear hown' hgrow hal
        go_wp2
        go_roundw
        case rel =>
          exact ⟨k + 1, va', vc', by omega, by go_num, by rw [show 1 + (k + 1) = 1 + k + 1 by omega], by rw [show 1 + (k + 1) = 1 + k + 1 by omega, HT.out]; simpa using HO1.out, HB1.out⟩
        case measure => simp only [intOf]; omega
    · have hki : (s.size : Int) ≤ (k : Int) := by omega
      obtain rfl : k = s.size := by omega
      go_wp2_with (at_builtin; refine wpList_append_ints rfl _ _ 24 rfl w.heap.size 3 i0 Try.underlying24 hi hz0 hz1 hz2 _ (1 + s.size) ((s.size : Int) :: (lbl s).take s.size) rfl HO.out ad n cap zs rfl HN.out (hz.below HB.out (Nat.le_refl _)) HNIL.out (by have := HS.out; omega) HB.out.size ?_)
      intro v' w1 hown' hgrow
      obtain ⟨va', vc', rfl⟩ := own_shape hown'
      have HO1 := Lib.hid hown'
      have HB1 := Lib.hid (HB.out.grown hgrow HB.out.size (fun q hq => (HO.out.lt q hq).1))
      clear hown' hgrow
      go_wp2
      go_ret
      have e1 : (hwith s zs).length = 1 + s.size + n := by rw [hwith_length, HN.out]
      have e2 : ((s.size : Int) :: (lbl s).take s.size) ++ zs = hwith s zs := by rw [List.take_of_length_le (by rw [HL.out]; omega)]; rfl
      refine ⟨va', vc', ?_, ?_, HB1.out⟩
      · rw [e1]; rfl
      · rw [e1, ← e2]; simpa using HO1.out

theorem shLabelled_any (s : ByteArray) (hs : s.size ≤ 1000000) (ad : Option Addr) (n cap : Nat) (zs : List Int) (hn : zs.length = n) (hl : n ≤ 1000000000) (hnil : ad = none → cap = 0) (hd : ∀ z ∈ zs, 0 ≤ z ∧ z ≤ 4611686018427387903) (w : World) (hz : IsInts w ad zs) :
    Calls Try.prog 145 #[.string s, .slice ad n cap] w fun e w' => e = .returned (.int .i64 (hlab s zs)) ∧ Below w.heap.size w w' := by
  have HN := Lib.hid hn
  have HNIL := Lib.hid hnil
  have HL := Lib.hid (show (hwith s zs).length ≤ 1152921504606846976 by rw [hwith_length]; omega)
  have HD := Lib.hid (hwith_digs hd hs)
  unfold hlab
  clear hn hnil hd
  go_enter Try.func145, Try.ntmps145
  go_wp2_with fail
  refine (l3With_any s (by omega) _ _ _ zs HN.out hl HNIL.out _ hz).mono ?_
  rintro e w1 ⟨va, vc, rfl, hown, hb1⟩
  obtain ⟨hi, hn1, hnil1⟩ := own_ints hown
  have HB1 := Lib.hid hb1
  clear hb1 hown hn1 hnil1
  go_wp2_with fail
  refine (shInts_any _ _ _ (hwith s zs) rfl HL.out HD.out _ hi).mono ?_
  rintro e w2 ⟨rfl, hb2⟩
  have HB2 := Lib.hid (bt HB1.out hb2)
  clear hb2 hi
  go_wp2
  go_ret
  exact ⟨rfl, HB2.out⟩

end Go.Proofs.Ytdnofcpobpoehaa

