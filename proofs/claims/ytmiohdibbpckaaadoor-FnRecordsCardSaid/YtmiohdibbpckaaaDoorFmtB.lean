/- FormatList of the reference and of the program. -/
import Derived.Test.YtmiohdibbpckaaaDoorFmtA
import Derived.Test.YtmiohdibbpckaaaDoorRecA
import Derived.Test.YtmiohdibbpckaaaDoorShf
import Derived.Lib.AppendIntMem
namespace Go.Proofs.YtmiohdibbpckaaaDoor
open Go.RowKit

theorem Tryd.infoS9 : (Tryd.prog.info? 9).map (fun i => (i.zero, i.size, i.bytes)) = some (some (.string ByteArray.empty), 1, 16) := by kernel_rfl

/-! ### The plain facts -/
def fmtJ (zs : List Int) : List UInt8 := Lib.join (zs.map Lib.itoa) [44]
def fmtL (zs : List Int) : List UInt8 := if zs = [] then [45] else fmtJ zs
def fmtS (zs : List Int) : ByteArray := if hashB zs then ⟨(fmtL zs).toArray⟩ else ⟨#[]⟩
theorem fmtS_no {zs : List Int} (h : hashB zs = false) : fmtS zs = ⟨#[]⟩ := by simp [fmtS, h]
theorem fmtS_yes {zs : List Int} (h : hashB zs = true) : fmtS zs = ⟨(fmtL zs).toArray⟩ := by simp [fmtS, h]
theorem dec_short (k : Nat) : ∀ u, u < 10 ^ (k + 1) → (Lib.decDigits u).length ≤ k + 1 := by
  induction k with
  | zero => intro u h; rw [Lib.decDigits, dif_pos (by omega)]; simp
  | succ k ih =>
    intro u h
    rw [Lib.decDigits]
    split
    · simp
    · have := ih (u / 10) (by rw [Nat.pow_succ] at h; omega)
      simp; omega
theorem itoa_short {z : Int} (h0 : 0 ≤ z) (h1 : z ≤ 4611686018427387903) : (Lib.itoa z).length ≤ 19 := by
  unfold Lib.itoa
  rw [if_neg (by omega)]
  exact dec_short 18 _ (by have : (10 : Nat) ^ 19 = 10000000000000000000 := by decide
                           omega)
theorem join_snoc {xs : List (List UInt8)} (h : xs ≠ []) (x sep : List UInt8) : Lib.join (xs ++ [x]) sep = Lib.join xs sep ++ sep ++ x := by
  cases xs with
  | nil => exact absurd rfl h
  | cons y r => rw [List.cons_append, Lib.join_cons, Lib.join_cons]; simp [Lib.joinTail]
theorem take_snoc {zs : List Int} {k : Nat} {z : Int} {rest : List Int} (h : zs.drop k = z :: rest) : zs.take (k + 1) = zs.take k ++ [z] := by
  have hk : k < zs.length := by
    by_cases hk : k < zs.length
    · exact hk
    · rw [List.drop_eq_nil_of_le (by omega)] at h; cases h
  rw [List.drop_eq_getElem_cons hk] at h
  rw [List.take_succ_eq_append_getElem hk, (List.cons.inj h).1]
theorem fmtJ_first {zs : List Int} {z : Int} {rest : List Int} (h : zs.drop 0 = z :: rest) : fmtJ (zs.take 1) = Lib.itoa z := by
  rw [take_snoc h]; simp [fmtJ, Lib.join_one]
theorem fmtJ_next {zs : List Int} {k : Nat} {z : Int} {rest : List Int} (h : zs.drop k = z :: rest) (h0 : 0 < k) : fmtJ (zs.take (k + 1)) = fmtJ (zs.take k) ++ [44] ++ Lib.itoa z := by
  have hk : k < zs.length := by
    by_cases hk : k < zs.length
    · exact hk
    · rw [List.drop_eq_nil_of_le (by omega)] at h; cases h
  rw [take_snoc h]
  unfold fmtJ
  rw [List.map_append, List.map_cons, List.map_nil, join_snoc (by intro e; have := congrArg List.length e; simp only [List.length_map, List.length_take, List.length_nil] at this; omega)]
theorem app3 (L D : List UInt8) : (⟨L.toArray⟩ ++ ⟨#[44]⟩ ++ ⟨D.toArray⟩ : ByteArray) = ⟨(L ++ [44] ++ D).toArray⟩ := WideShapes.bytes_inj (by simp [ByteArray.data_append])
theorem app0 (D : List UInt8) : (⟨([] : List UInt8).toArray⟩ ++ ⟨D.toArray⟩ : ByteArray) = ⟨D.toArray⟩ := WideShapes.bytes_inj (by simp [ByteArray.data_append])
theorem fmtJ_short {zs : List Int} (h : digsB zs = true) : ∀ k, (fmtJ (zs.take k)).length ≤ 20 * k := by
  intro k
  induction k with
  | zero => simp [fmtJ, Lib.join_nil]
  | succ k ih =>
    cases hd : zs.drop k with
    | nil =>
      rw [List.take_of_length_le (by have := congrArg List.length hd; simp at this; omega)]
      rw [List.take_of_length_le (by have := congrArg List.length hd; simp at this; omega)] at ih
      omega
    | cons z rest =>
      have hz := itoa_short (digsB_true.1 h z (mem_drop hd)).1 (digsB_true.1 h z (mem_drop hd)).2
      by_cases h0 : k = 0
      · subst h0; rw [fmtJ_first hd]; omega
      · rw [fmtJ_next hd (by omega)]; simp; omega

/-! ### The reference -/
set_option maxRecDepth 100000 in
set_option maxHeartbeats 1600000 in
theorem l4Text_any (ad : Option Addr) (n cap : Nat) (zs : List Int) (hn : zs.length = n) (hr : hashB zs = true) (w : World) (hz : InB w.heap.size w ad zs) :
    Calls Tryd.prog 77 #[.slice ad n cap] w fun e w' => e = .returned (.string ⟨(fmtL zs).toArray⟩) ∧ Below w.heap.size w w' := by
  obtain ⟨hl4, hdg⟩ := hashB_true.1 hr
  by_cases h0 : n = 0
  · subst h0
    obtain rfl : zs = [] := List.length_eq_zero_iff.1 hn
    go_enter Tryd.func77, Tryd.ntmps77
    go_wp2
    go_ret
    exact ⟨rfl, Below.refl _ _⟩
  · have hn0 : ((n : Int) == 0) = false := by rw [beq_eq_false_iff_ne]; omega
    have hne : zs ≠ [] := by intro e; subst e; simp at hn; omega
    have HF := Lib.hid (show fmtL zs = fmtJ zs from if_neg hne)
    have HN := Lib.hid hn
    have HS := Lib.hid (fmtJ_short hdg)
    have HD := Lib.hid (digsB_true.1 hdg)
    have HZ := Lib.hid hz
    have hn4 : n ≤ 400 := by omega
    clear hn hne hdg hr hz hl4
    go_enter Tryd.func77, Tryd.ntmps77
    go_wp2
    go_loopw [3, 4, 5, 11] (fun S _ _ I wr => ∃ (k : Nat) (L : List UInt8), k ≤ n ∧ I = .int .i64 k ∧ S = .string ⟨L.toArray⟩ ∧ L = fmtJ (zs.take k) ∧ Below w.heap.size w wr) (fun _ _ _ I _ => n - (intOf I).toNat)
    case atStart => exact ⟨0, [], Nat.zero_le _, rfl, rfl, rfl, Below.refl _ _⟩
    case round =>
      obtain ⟨k, L, hk, rfl, rfl, hL, hbel⟩ := hrel
      have HB := Lib.hid hbel
      have hLs : L.length ≤ 20 * k := by rw [hL]; exact HS.out k
      have HL := Lib.hid hL
      clear hL
      by_cases hkn : k < n
      · have hkni : (k : Int) < (n : Int) := by omega
        obtain ⟨b, off, z, rfl, hb, hc, hd⟩ := (HZ.out.below hbel).ints.at (k := k) (by have := HN.out; omega)
        clear hbel
        obtain ⟨hz0, hz1⟩ := HD.out z (mem_drop hd)
        obtain ⟨m, rfl⟩ : ∃ m : Nat, z = (m : Int) := ⟨z.toNat, by omega⟩
        have hm : m ≤ 9223372036854775807 := by omega
        have hds := dec_short 18 m (by have : (10 : Nat) ^ 19 = 10000000000000000000 := by decide
                                       omega)
        have hit : Lib.itoa (m : Int) = Lib.decDigits m := by unfold Lib.itoa; rw [if_neg (by omega)]; rfl
        generalize hdm : Lib.decDigits m = D at hds hit
        have HDM := Lib.hid hdm
        clear hdm
        by_cases hk0 : k = 0
        · subst hk0
          have HJ := Lib.hid (show D = fmtJ (zs.take (0 + 1)) by rw [fmtJ_first hd, hit])
          obtain rfl : L = [] := by have : L.length = 0 := by omega
                                    exact List.length_eq_zero_iff.1 this
          rw [Nat.add_zero] at hc
          clear hd hit HL
          go_wp2_with (go_at_call 101; refine (l1Num_any m hm _).mono ?_; rw [HDM.out]; rintro e w1 ⟨rfl, hb1⟩; have HB1 := Lib.hid (HB.out.trans (hb1.mono HB.out.size)); clear hb1)
          go_roundw
          case rel => exact ⟨0 + 1, D, by omega, by go_num, by first | rfl | (congr 1; first | exact app0 D | simp), HJ.out, HB1.out⟩
          case measure => simp only [intOf]; omega
        · have hk0i : (0 : Int) < (k : Int) := by omega
          have HJ := Lib.hid (show L ++ [44] ++ D = fmtJ (zs.take (k + 1)) by rw [fmtJ_next hd (by omega), hit, ← HL.out])
          have hsz1 : ¬ 9223372036854775807 < L.length + 1 := by omega
          have hsz2 : ¬ 9223372036854775807 < L.length + 1 + D.length := by omega
          clear hd hit HL
          go_wp2_with (go_at_call 101; refine (l1Num_any m hm _).mono ?_; rw [HDM.out]; rintro e w1 ⟨rfl, hb1⟩; have HB1 := Lib.hid (HB.out.trans (hb1.mono HB.out.size)); clear hb1)
          go_roundw
          case rel => exact ⟨k + 1, L ++ [44] ++ D, by omega, by go_num, by rw [← app3], HJ.out, HB1.out⟩
          case measure => simp only [intOf]; omega
      · have hkni : ¬ (k : Int) < (n : Int) := by omega
        obtain rfl : k = n := by omega
        clear hbel
        go_wp2
        go_ret
        rw [HF.out]
        have e1 := HL.out
        rw [List.take_of_length_le (by rw [HN.out]; omega)] at e1
        rw [e1]
        exact ⟨rfl, HB.out⟩

set_option maxRecDepth 100000 in
theorem sFormatList_any (ad : Option Addr) (n cap : Nat) (zs : List Int) (hn : zs.length = n) (hl : n ≤ 1048576) (w : World) (hz : InB w.heap.size w ad zs) :
    Calls Tryd.prog 37 #[.slice ad n cap] w fun e w' => e = .returned (.tuple #[.string (fmtS zs), .bool (hashB zs)]) ∧ Below w.heap.size w w' := by
  have HN := Lib.hid hn
  have HZ := Lib.hid hz
  cases hr : hashB zs
  · have HR := Lib.hid hr
    rw [fmtS_no hr]
    clear hn hz hr
    go_enter Tryd.func37, Tryd.ntmps37
    go_wp2_with (go_at_call 76; refine (l4Record_any _ _ _ zs HN.out (by omega) _ HZ.out.ints).mono ?_; rw [HR.out]; rintro e w' ⟨rfl, rfl⟩)
    go_ret2
    exact ⟨rfl, Below.refl _ _⟩
  · have HR := Lib.hid hr
    rw [fmtS_yes hr]
    clear hn hz hr
    go_enter Tryd.func37, Tryd.ntmps37
    go_wp2_with (first | (go_at_call 76; refine (l4Record_any _ _ _ zs HN.out (by omega) _ HZ.out.ints).mono ?_; rw [HR.out]; rintro e w' ⟨rfl, rfl⟩) | (go_at_call 77; refine (l4Text_any _ _ _ zs HN.out HR.out _ HZ.out).mono ?_; rintro e w1 ⟨rfl, hb⟩; have HB := Lib.hid hb; clear hb))
    go_ret2
    exact ⟨rfl, HB.out⟩

end Go.Proofs.YtmiohdibbpckaaaDoor

/- FormatList of the program. -/
namespace Go.Proofs.YtmiohdibbpckaaaDoor
open Go.RowKit

def strs (zs : List Int) : List ByteArray := zs.map fun z => ⟨(Lib.itoa z).toArray⟩
theorem strs_length (zs : List Int) : (strs zs).length = zs.length := by simp [strs]
def mixS (xs : List ByteArray) (k : Nat) : List Value := (xs.take k).map Value.string ++ List.replicate (xs.length - k) (Value.string ByteArray.empty)
theorem mixS_zero (xs : List ByteArray) : mixS xs 0 = List.replicate xs.length (Value.string ByteArray.empty) := by simp [mixS]
theorem mixS_all {xs : List ByteArray} {k : Nat} (h : xs.length = k) : mixS xs k = xs.map Value.string := by
  unfold mixS; rw [List.take_of_length_le (by omega)]; simp [h]
theorem mixS_step {xs : List ByteArray} {k : Nat} {x : ByteArray} (h : xs[k]? = some x) : (mixS xs k).set k (.string x) = mixS xs (k + 1) := by
  have hk : k < xs.length := (List.getElem?_eq_some_iff.1 h).1
  have hx : xs[k] = x := (List.getElem?_eq_some_iff.1 h).2
  unfold mixS
  rw [List.set_append_right _ _ (by simp; omega)]
  have hl : ((xs.take k).map Value.string).length = k := by simp; omega
  rw [hl, Nat.sub_self, show xs.length - k = (xs.length - (k + 1)) + 1 by omega, List.replicate_succ, List.set_cons_zero, List.take_succ_eq_append_getElem hk, hx]
  simp
theorem strs_at {zs : List Int} {k : Nat} {z : Int} {rest : List Int} (h : zs.drop k = z :: rest) : (strs zs)[k]? = some ⟨(Lib.itoa z).toArray⟩ := by
  have h0 : (zs.drop k)[0]? = some z := by rw [h]; rfl
  rw [List.getElem?_drop, Nat.add_zero] at h0
  simp [strs, h0]
theorem strs_lists (zs : List Int) : (strs zs).map (fun x => x.data.toList) = zs.map Lib.itoa := by
  simp [strs]

theorem row_str {w : World} {B g n k : Nat} {vs : List Value} (h : w.ownsRow B 9 1 (.slice (some ⟨g, 0, none⟩) n n) n vs) (hk : k < n) :
    (∃ u, w.cell? ⟨g, k, none⟩ = some u) ∧ w.frozen? ⟨g, k, none⟩ = false := by
  refine ⟨?_, h.frozenAt k⟩
  have hl : vs.length = n := by have := h.1; simpa using this
  have := h.cellAt k (by omega)
  rw [this]
  exact ⟨vs[k]'(by omega), by simp [hl, hk]⟩

theorem join_any (bk n c : Nat) (xs : List ByteArray) (w : World) (hx : xs.length = n) (hcells : ∀ (j : Nat) x, xs[j]? = some x → w.cell? ⟨bk, j, none⟩ = some (.string x)) (hbk : bk < w.heap.size) (hN : n ≤ 1000000) (hcap : n ≤ c)
    (hlen : (Lib.join (xs.map (fun x => x.data.toList)) [44]).length ≤ 100000000) :
    Calls Tryd.prog 68 #[.slice (some ⟨bk, 0, none⟩) n c, .string ⟨#[44]⟩] w fun e w' => e = .returned (.string ⟨(Lib.join (xs.map (fun x => x.data.toList)) [44]).toArray⟩) ∧ Below w.heap.size w w' := by
  subst hx
  exact Tryd.strings_Join bk 0 c xs ⟨#[44]⟩ w (fun j x h => by rw [Nat.zero_add]; exact hcells j x h) hbk (by omega) hcap (Nat.le_trans hlen (by omega))

set_option maxRecDepth 100000 in
set_option maxHeartbeats 1600000 in
theorem formatList_any (ad : Option Addr) (n cap : Nat) (zs : List Int) (hn : zs.length = n) (hl : n ≤ 1048576) (w : World) (hz : InB w.heap.size w ad zs)
    (ht : Lib.TabIs Tryd.prog w "internal/strconv.uint64pow10" .u64 Lib.pow10Tab) :
    Calls Tryd.prog 27 #[.slice ad n cap] w fun e w' => e = .returned (.tuple #[.string (fmtS zs), .bool (hashB zs)]) ∧ Below w.heap.size w w' := by
  have HN := Lib.hid hn
  have HZ := Lib.hid hz
  have HT := Lib.hid (Lib.tabBelow_of_tabIs ht)
  cases hr : hashB zs
  · have HR := Lib.hid hr
    rw [fmtS_no hr]
    clear hn hz hr ht
    go_enter Tryd.func27, Tryd.ntmps27
    go_wp2_with (go_at_call 63; refine (isRecord_any _ _ _ zs HN.out (by omega) _ HZ.out.ints).mono ?_; rw [HR.out]; rintro e w' ⟨rfl, rfl⟩)
    go_ret2
    exact ⟨rfl, Below.refl _ _⟩
  · have HR := Lib.hid hr
    obtain ⟨hl4, hdg⟩ := hashB_true.1 hr
    rw [fmtS_yes hr]
    by_cases h0 : n = 0
    · subst h0
      obtain rfl : zs = [] := List.length_eq_zero_iff.1 hn
      clear hn hz hr ht hdg hl4
      go_enter Tryd.func27, Tryd.ntmps27
      go_wp2_with (go_at_call 63; refine (isRecord_any _ _ _ [] HN.out (by omega) _ HZ.out.ints).mono ?_; rw [HR.out]; rintro e w' ⟨rfl, rfl⟩)
      go_ret2
      exact ⟨rfl, Below.refl _ _⟩
    · have hn0 : ((n : Int) == 0) = false := by rw [beq_eq_false_iff_ne]; omega
      have hne : zs ≠ [] := by intro e; subst e; simp at hn; omega
      have HF := Lib.hid (show fmtL zs = fmtJ zs from if_neg hne)
      have HS := Lib.hid (show (fmtJ zs).length ≤ 8000 by have := fmtJ_short hdg n; rw [List.take_of_length_le (by omega)] at this; omega)
      have HD := Lib.hid (digsB_true.1 hdg)
      have hn4 : n ≤ 400 := by omega
      have hn00 : 0 < n := by omega
      obtain ⟨i0, hi, hz0, hz1, hz2⟩ := info_parts Tryd.infoS9
      have HZ2 := Lib.hid hz2
      have HSL := Lib.hid (show (strs zs).length = n by rw [strs_length, hn])
      clear hn hne hdg hr hz hl4 ht hz2 h0
      go_enter Tryd.func27, Tryd.ntmps27
      go_wp2_with fail
      refine (isRecord_any _ _ _ zs HN.out (by omega) _ HZ.out.ints).mono ?_
      rw [HR.out]
      rintro e w' ⟨rfl, rfl⟩
      go_wp2_with (at_make; refine wpList_make_full _ rfl _ _ 92 rfl w.heap.size 9 i0 (.string ByteArray.empty) 1 Tryd.underlying92 hi hz0 hz1 .i64 .i64 _ _ n rfl rfl rfl rfl (by rw [HZ2.out]; omega) (by unfold maxLen; omega) (Nat.le_refl _) ?_; intro w1 hown hgrow)
      go_loopw [5, 6, 18] (fun _ _ K wr => ∃ k : Nat, k ≤ n ∧ K = .int .i64 k ∧ wr.ownsRow w.heap.size 9 1 (.slice (some ⟨w.heap.size, 0, none⟩) n n) n (mixS (strs zs) k) ∧ Below w.heap.size w wr) (fun _ _ K _ => n - (intOf K).toNat)
      case atStart =>
        refine ⟨0, Nat.zero_le _, rfl, ?_, (Below.refl _ _).grown hgrow (Nat.le_refl _) (by simp)⟩
        rw [mixS_zero, HSL.out]
        have h := hown
        rw [show Value.cells (.string ByteArray.empty) = #[.string ByteArray.empty] from rfl, Nat.mul_one, toList_madeCells_one] at h
        simpa using h
      case round =>
        clear hown hgrow
        obtain ⟨k, hk, rfl, hownr, hbel⟩ := hrel
        by_cases hkn : k < n
        · have hkni : (k : Int) < (n : Int) := by omega
          obtain ⟨b, off, z, rfl, hb, hc, hd⟩ := (HZ.out.below hbel).ints.at (k := k) (by have := HN.out; omega)
          obtain ⟨hz0', hz1'⟩ := HD.out z (mem_drop hd)
          have HX := Lib.hid (strs_at hd)
          have HB := Lib.hid hbel
          have HO := Lib.hid hownr
          generalize hx : (⟨(Lib.itoa z).toArray⟩ : ByteArray) = x at HX
          have HXE := Lib.hid hx
          clear hownr hbel hd hx
          go_wp2_with (go_at_call 67; refine (Tryd.strconv_Itoa z (by omega) (by omega) _ (HT.out _ HB.out)).mono ?_; rw [HXE.out]; rintro e w2 ⟨rfl, kk, os, hw2⟩; have hb2 : Below wr.heap.size wr w2 := hw2 ▸ Lib.below_grow _ wr (Nat.le_refl _) kk os; have HO2 := Lib.hid (own_below HO.out hb2); have HB2 := Lib.hid (HB.out.trans (hb2.mono HB.out.size)); obtain ⟨⟨u, hcu⟩, hfu⟩ := row_str HO2.out hkn; clear hw2 hb2)
          go_roundw
          case rel => exact ⟨k + 1, by omega, by go_num, by have h := (HO2.out.stored k (.string x)).1; rwa [mixS_step HX.out] at h, HB2.out.setCell (Nat.le_refl _) _⟩
          case measure => simp only [intOf]; omega
        · obtain rfl : k = n := by omega
          have hkni : ¬ (k : Int) < (k : Int) := by omega
          rw [mixS_all HSL.out] at hownr
          have HO := Lib.hid hownr
          have HB := Lib.hid hbel
          clear hownr hbel
          go_wp2_with (go_at_call 68; refine (join_any w.heap.size k k (strs zs) _ HSL.out (fun j x hj => by
            have hjl := (List.getElem?_eq_some_iff.1 hj).1
            rw [HO.out.cellAt j (by have := HSL.out; omega)]; simp [hj]) ((HO.out.lt w.heap.size rfl).2) (by omega) (Nat.le_refl _) (by rw [strs_lists]; exact Nat.le_trans HS.out (by omega))).mono ?_; rw [strs_lists]; rintro e w2 ⟨rfl, hb2⟩; have HB2 := Lib.hid (HB.out.trans (hb2.mono HB.out.size)); clear hb2)
          go_ret2
          rw [HF.out]
          exact ⟨rfl, HB2.out⟩

end Go.Proofs.YtmiohdibbpckaaaDoor

