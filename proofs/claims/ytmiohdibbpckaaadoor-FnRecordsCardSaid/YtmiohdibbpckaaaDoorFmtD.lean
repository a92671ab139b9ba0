/- The law FnExactFormatList: the walk. -/
import Derived.Test.YtmiohdibbpckaaaDoorFmtB
import Derived.Test.YtmiohdibbpckaaaDoorRecA
import Derived.Lib.LaidU8
import Derived.LaidMore
namespace Go.Proofs.YtmiohdibbpckaaaDoor
open Go.RowKit

theorem formatList_ans {P : Nat} {w : World} {v : Value} {zs : List Int} (h : InI P w v zs) (hl : zs.length ≤ 1048576) (ht : Lib.TabIs Tryd.prog w "internal/strconv.uint64pow10" .u64 Lib.pow10Tab) :
    Calls Tryd.prog 27 #[v] w fun e w' => e = .returned (.tuple #[.string (fmtS zs), .bool (hashB zs)]) ∧ Below w.heap.size w w' := by
  obtain ⟨ad, cap, rfl⟩ := h.shape
  exact formatList_any ad _ cap zs rfl hl w (h.parts.2.1.mono h.1) ht
theorem sFormatList_ans {P : Nat} {w : World} {v : Value} {zs : List Int} (h : InI P w v zs) (hl : zs.length ≤ 1048576) :
    Calls Tryd.prog 37 #[v] w fun e w' => e = .returned (.tuple #[.string (fmtS zs), .bool (hashB zs)]) ∧ Below w.heap.size w w' := by
  obtain ⟨ad, cap, rfl⟩ := h.shape
  exact sFormatList_any ad _ cap zs rfl hl w (h.parts.2.1.mono h.1)

/-- The table of powers of 10, from the listed variables. -/
theorem p10_laid : (Rows.laid_internal_strconv_uint64pow10 : DataW Unit) = Lib.tabData .u64 Lib.pow10Tab := by rfl
theorem g_p10 : Tryd.prog.globalNamed "internal/strconv.uint64pow10" = some 2 := by kernel_rfl
theorem t_p10 : (Tryd.prog.globals[2]?).map (·.type) = some 148 := by kernel_rfl
theorem cells_u64 : Tryd.prog.cellsOf 62 = 1 := by kernel_rfl
theorem cells_a20 : Tryd.prog.cellsOf 148 = 20 := by kernel_rfl
theorem p10_of_laid {l : List (String × DataW Unit)} {W : World} (h : laidMet Tryd.prog l W) (hm : ("internal/strconv.uint64pow10", (Rows.laid_internal_strconv_uint64pow10 : DataW Unit)) ∈ l) : Lib.TabIs Tryd.prog W "internal/strconv.uint64pow10" .u64 Lib.pow10Tab := by
  obtain ⟨g, t, cs, fuel, p, hg, ht, hv, hd⟩ := Lib.laidMet.reads h hm
  obtain rfl := Option.some.inj (g_p10.symm.trans hg)
  obtain rfl := Option.some.inj (t_p10.symm.trans ht)
  rw [p10_laid] at hd
  have hcs := Lib.cells_of_tab Tryd.underlying148 Tryd.underlying62 cells_u64 cells_a20 hd
  unfold Lib.TabIs
  rw [hv, ← hcs]

set_option maxRecDepth 100000 in
theorem FnExactFormatList_true (a0 : Option Addr) (len0 cap0 : Nat) (z0 : List Int) (w : World)
    (w0 : (a0 = none ∧ len0 = 0 ∧ cap0 = 0 ∧ z0 = []) ∨ ∃ x, a0 = some x ∧ len0 ≤ cap0 ∧ cap0 ≤ maxLen ∧ z0.length = cap0 ∧ (∀ i, i < z0.length → w.cell? (x.add i) = some (.int .i64 (z0.getD i 0))) ∧ ∀ n ∈ z0, (Lit.int .i64 n).wf = true)
    (hT : Lib.TabIs Tryd.prog w "internal/strconv.uint64pow10" .u64 Lib.pow10Tab) :
    Calls Tryd.prog 5 #[.slice a0 len0 cap0] w fun e w' => e = .returned (.bool true) ∧ Below w.heap.size w w' := by
  obtain ⟨hz, hn, hm⟩ := inI_of_row w0
  generalize z0.take len0 = zs at hz hn
  clear w0
  by_cases hbig : 1048576 < len0
  · have hbi : (1048576 : Int) < (len0 : Int) := by omega
    unfold maxLen at hm
    go_enter Tryd.func5, Tryd.ntmps5
    go_wp2
    go_ret
    exact ⟨rfl, Below.refl _ _⟩
  have hbi : (len0 : Int) ≤ 1048576 := by omega
  have hzl : zs.length ≤ 1048576 := by omega
  have Ha_0 := Lib.hid hz
  clear hz hn hm hbig
  have HT := Lib.hid (Lib.tabBelow_of_tabIs hT)
  clear hT
  go_enter Tryd.func5, Tryd.ntmps5
  go_wp2_with fail
  refine (toI_any Ha_0.out (by omega)).mono ?_
  rintro e v1 ⟨ua, rfl, ho, hb⟩
  have Ha_1 := Lib.hid (Ha_0.out.below hb)
  have HB_1 := Lib.hid (hb)
  have HCa_1 := Lib.hid ho.toIn
  clear hb Ha_0
  clear ho
  go_wp2_with fail
  refine (sFormatList_ans HCa_1.out (by omega)).mono ?_
  rintro e v2 ⟨rfl, hb⟩
  have Ha_2 := Lib.hid (Ha_1.out.below hb)
  have HB_2 := Lib.hid (bt HB_1.out hb)
  clear hb Ha_1 HB_1
  go_wp2_with fail
  refine (toI_any Ha_2.out (by omega)).mono ?_
  rintro e v3 ⟨xa, rfl, ho, hb⟩
  have LBa := Lib.hid HB_2.out.size
  have Ha_3 := Lib.hid (Ha_2.out.below hb)
  have HB_3 := Lib.hid (bt HB_2.out hb)
  have HXa_3 := Lib.hid ho
  clear hb Ha_2 HB_2
  clear ho
  go_wp2_with fail
  refine (formatList_ans HXa_3.out.toIn (by omega) (HT.out _ HB_3.out)).mono ?_
  rintro e v4 ⟨rfl, hb⟩
  have Ha_4 := Lib.hid (Ha_3.out.below hb)
  have HXa_4 := Lib.hid (HXa_3.out.below hb)
  have HB_4 := Lib.hid (bt HB_3.out hb)
  clear hb Ha_3 HXa_3 HB_3
  go_wp2_with fail
  refine (toI_any Ha_4.out (by omega)).mono ?_
  rintro e v5 ⟨ua, rfl, ho, hb⟩
  have Ha_5 := Lib.hid (Ha_4.out.below hb)
  have HXa_5 := Lib.hid (HXa_4.out.below hb)
  have HB_5 := Lib.hid (bt HB_4.out hb)
  have HC_5 := Lib.hid ho.toIn
  clear hb Ha_4 HXa_4 HB_4
  clear ho
  go_wp2_with fail
  refine (eqI_any HXa_5.out.toIn HC_5.out (by omega)).mono ?_
  rintro e v6 ⟨rfl, hb⟩
  have Ha_6 := Lib.hid (Ha_5.out.below hb)
  have HXa_6 := Lib.hid (HXa_5.out.below hb)
  have HB_6 := Lib.hid (bt HB_5.out hb)
  clear hb Ha_5 HXa_5 HB_5
  clear HC_5
  go_wp2
  go_ret
  exact ⟨rfl, HB_6.out⟩

end Go.Proofs.YtmiohdibbpckaaaDoor

