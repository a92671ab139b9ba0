/- DecodeText of the program and of the reference. -/
import Derived.Test.YtmiohdibbpckaaaDoorRecA
import Derived.Laws.IdiomStrings
namespace Go.Proofs.YtmiohdibbpckaaaDoor
open Go.RowKit

theorem Tryd.infoB8 : (Tryd.prog.info? 5).map (fun i => (i.zero, i.size, i.bytes)) = some (some (.int .u8 0), 1, 1) := by kernel_rfl

/-! ### The plain facts -/
def dtB (zs : List Int) : Bool := decide (0 < zs.length) && decide (zs.length ≤ 400) && decide (zs.headD 0 = (zs.length : Int) - 1) && allIn (zs.drop 1) 0 255
def toBy (zs : List Int) : List UInt8 := zs.map fun z => UInt8.ofNat z.toNat
def dtS (zs : List Int) : ByteArray := if dtB zs then ⟨(toBy (zs.drop 1)).toArray⟩ else ⟨#[]⟩
theorem dtS_no {zs : List Int} (h : dtB zs = false) : dtS zs = ⟨#[]⟩ := by simp [dtS, h]
theorem dtS_yes {zs : List Int} (h : dtB zs = true) : dtS zs = ⟨(toBy (zs.drop 1)).toArray⟩ := by simp [dtS, h]
theorem dtB_cons {x : Int} {t : List Int} : dtB (x :: t) = true ↔ t.length + 1 ≤ 400 ∧ x = t.length ∧ allIn t 0 255 = true := by
  simp [dtB]
  constructor
  · rintro ⟨⟨h1, h2⟩, h3⟩; exact ⟨by omega, by omega, h3⟩
  · rintro ⟨h1, h2, h3⟩; exact ⟨⟨by omega, by omega⟩, h3⟩
theorem dtB_rec {zs : List Int} (h : dtB zs = true) : hashB zs = true := by
  cases zs with
  | nil => simp [dtB] at h
  | cons x t =>
    obtain ⟨h1, rfl, h3⟩ := dtB_cons.1 h
    rw [hashB_true, digsB_true]
    refine ⟨by simpa using h1, fun z hz => ?_⟩
    rcases List.mem_cons.1 hz with rfl | hz
    · omega
    · have := inB_true.1 (List.all_eq_true.1 h3 z hz); omega
theorem toBy_length (zs : List Int) : (toBy zs).length = zs.length := by simp [toBy]
theorem toBy_get {zs : List Int} (h : allIn zs 0 255 = true) {j : Nat} (hj : j < (toBy zs).length) : ((toBy zs)[j].toNat : Int) = zs.getD j 0 := by
  have hj' : j < zs.length := by simpa [toBy] using hj
  have hb := inB_true.1 (List.all_eq_true.1 h zs[j] (List.getElem_mem hj'))
  have e : zs.getD j 0 = zs[j] := by simp [hj']
  rw [e]
  simp only [toBy, List.getElem_map]
  have : (UInt8.ofNat zs[j].toNat).toNat = zs[j].toNat := by
    rw [UInt8.toNat_ofNat']; omega
  rw [this]; omega

theorem bcopy_round {wr : World} {B g n k : Nat} {zs rest : List Int} {z : Int} (hown : wr.ownsRow B 5 1 (.slice (some ⟨g, 0, none⟩) n n) n ((mix zs k).map (Value.int .u8)))
    (h : zs.drop k = z :: rest) : (wr.setCell ⟨g, k, none⟩ (.int .u8 z)).ownsRow B 5 1 (.slice (some ⟨g, 0, none⟩) n n) n ((mix zs (k + 1)).map (Value.int .u8)) := by
  have := (hown.stored k (.int .u8 z)).1
  rwa [← List.map_set, mix_step h] at this
theorem bcopy_cell {wr : World} {B g n k : Nat} {zs : List Int} (hown : wr.ownsRow B 5 1 (.slice (some ⟨g, 0, none⟩) n n) n ((mix zs k).map (Value.int .u8))) (hk : k < n) :
    (∃ u : Int, wr.cell? ⟨g, k, none⟩ = some (.int .u8 u)) ∧ wr.frozen? ⟨g, k, none⟩ = false := by
  refine ⟨⟨(mix zs k).getD k 0, ?_⟩, hown.frozenAt k⟩
  rw [hown.cellAt k (by omega)]
  have hl : (mix zs k).length = n := by have := hown.1; simpa using this
  have hk' : k < (mix zs k).length := by omega
  simp [hk']
theorem bytes_done {wr : World} {B g n : Nat} {zs : List Int} (hown : wr.ownsRow B 5 1 (.slice (some ⟨g, 0, none⟩) n n) n (zs.map (Value.int .u8))) (hb : allIn zs 0 255 = true) :
    (convert 22 9 (.slice (some ⟨g, 0, none⟩) n n)).run Tryd.prog wr = .ok (.string ⟨(toBy zs).toArray⟩) wr := by
  have hl : zs.length = n := by have := hown.1; simpa using this
  have h := run_convert_bytes_back (P := Tryd.prog) wr 22 9 5 ⟨g, 0, none⟩ n (toBy zs) Tryd.underlying22 Tryd.underlying5 Tryd.underlying9 (fun j hj => by
    have hj' : j < n := by rw [toBy_length] at hj; omega
    have e1 : (⟨g, 0, none⟩ : Addr).add j = ⟨g, j, none⟩ := by unfold Addr.add; split <;> simp_all
    rw [e1, hown.cellAt j (by omega), toBy_get hb hj]
    have hjz : j < zs.length := by omega
    simp [hjz])
  rwa [toBy_length, hl] at h

def AnsT (w : World) (s : ByteArray) (ok : Bool) (e : Ending) (w' : World) : Prop := e = .returned (.tuple #[.string s, .bool ok]) ∧ Below w.heap.size w w'

/-! ### The program -/
set_option maxRecDepth 100000 in
set_option maxHeartbeats 800000 in
theorem decodeText_any {P : Nat} {w : World} {v : Value} {zs : List Int} (h : InI P w v zs) (hl : zs.length ≤ 1048576) :
    Calls Tryd.prog 35 #[v] w (AnsT w (dtS zs) (dtB zs)) := by
  obtain ⟨ad, cap, rfl⟩ := h.shape
  obtain ⟨hzl, hin, hnil⟩ := h.parts
  have hcap := h.cap
  have hP := h.1
  cases zs with
  | nil =>
    rw [show dtB [] = false from rfl, dtS_no rfl]
    clear h hin
    simp only [List.length_nil]
    go_enter Tryd.func35, Tryd.ntmps35
    go_wp2
    go_ret2
    exact ⟨rfl, Below.refl _ _⟩
  | cons x t =>
    generalize hm : (x :: t).length = m at hzl hcap hl
    have hmt : m = t.length + 1 := by simpa using hm.symm
    have ht1 : ((m : Int) == 0) = false := by rw [beq_eq_false_iff_ne]; omega
    have hm0 : 0 < m := by omega
    have HM := Lib.hid hm
    have HI := Lib.hid hin.ints
    cases hr : hashB (x :: t)
    · have e1 : dtB (x :: t) = false := by
        rw [← Bool.not_eq_true]; intro hb; rw [dtB_rec hb] at hr; cases hr
      rw [e1, dtS_no e1]
      have HR := Lib.hid hr
      clear e1 hr h hin hm hmt hzl
      go_enter Tryd.func35, Tryd.ntmps35
      go_wp2_with fail
      refine (isRecord_any _ _ _ (x :: t) HM.out (by omega) _ HI.out).mono ?_
      rw [HR.out]
      rintro e w' ⟨rfl, rfl⟩
      go_wp2
      go_ret2
      exact ⟨rfl, Below.refl _ _⟩
    · have hdg := digsB_true.1 (hashB_true.1 hr).2
      have hm400 : m ≤ 400 := by have := (hashB_true.1 hr).1; omega
      obtain ⟨b, off, z, rfl, hbl, hc, hdr⟩ := hin.ints.at (k := 0) (by simp)
      obtain rfl : x = z := by simpa using (List.cons.inj hdr).1
      rw [Nat.add_zero] at hc
      obtain ⟨hx0, hx1⟩ := hdg x (by simp)
      by_cases hx : x = (t.length : Int)
      · subst hx
        obtain ⟨i0, hi, hz0, hz1, hz2⟩ := info_parts Tryd.infoB8
        generalize hn : t.length = n at *
        have hnm : m = n + 1 := by omega
        have hxm : ((n : Int) == (m : Int) - 1) = true := by rw [beq_iff_eq]; omega
        have hxn : ((n : Int) != (m : Int) - 1) = false := by simp [bne, hxm]
        have hn400 : n ≤ 400 := by omega
        have hdt : dtB ((n : Int) :: t) = allIn t 0 255 := by
          rw [Bool.eq_iff_iff, dtB_cons]
          exact ⟨fun h => h.2.2, fun h => ⟨by omega, by omega, h⟩⟩
        have HDT := Lib.hid hdt
        have HR := Lib.hid hr
        have HN := Lib.hid hn
        have HZ2 := Lib.hid hz2
        have HDG := Lib.hid (fun z (hz : z ∈ t) => hdg z (List.mem_cons_of_mem _ hz))
        have hcut := hin.cut (cap := cap) 1 (by simp) (by rw [hm]; exact hcap)
        rw [List.drop_one, List.tail_cons] at hcut
        have hm1 : (1 : Int) ≤ (m : Int) := by omega
        have HNM := Lib.hid hnm
        clear hmt hnm hz2 hr hdg hdr hdt h hin hzl hm
        by_cases g1 : cap = 1
        · subst g1
          obtain rfl : n = 0 := by have := HNM.out; omega
          obtain rfl : t = [] := List.length_eq_zero_iff.1 hn
          obtain rfl : m = 1 := HNM.out
          have e1 : dtB ((0 : Int) :: []) = true := by decide
          rw [show (((0 : Nat) : Int)) = 0 from rfl] at *
          rw [e1, dtS_yes e1]
          have hcvt := fun (wr : World) (h : wr.ownsRow w.heap.size 5 1 (.slice (some ⟨w.heap.size, 0, none⟩) 0 0) 0 (([] : List Int).map (Value.int .u8))) => bytes_done h (by decide)
          have HCV := Lib.hid hcvt
          clear hcut hn hcvt hxm hxn HDT
          go_enter Tryd.func35, Tryd.ntmps35
          go_wp2_with fail
          refine (isRecord_any _ _ _ _ HM.out (by omega) _ HI.out).mono ?_
          rw [HR.out]
          rintro e w' ⟨rfl, rfl⟩
          go_wp2_with (at_make; refine wpList_make_full _ rfl _ _ 22 rfl w.heap.size 5 i0 (.int .u8 0) 1 Tryd.underlying22 hi hz0 hz1 .i64 .i64 _ _ 0 rfl rfl rfl rfl (by rw [HZ2.out]; omega) (by unfold maxLen; omega) (Nat.le_refl _) ?_; intro w1 hown hgrow)
          have hcv := HCV.out w1 (by have h := hown; rw [show Value.cells (.int .u8 0) = #[.int .u8 0] from rfl, Nat.mul_one, toList_madeCells_one] at h; simpa using h)
          have HB := Lib.hid ((Below.refl w.heap.size w).grown hgrow (Nat.le_refl _) (by simp))
          clear hown hgrow
          refine wp_loop_rounds 1 ?_
          rw [rounds_succ]
          go_wp2
          go_ret2
          exact ⟨rfl, HB.out⟩
        · rw [if_neg g1] at hcut
          have HC := Lib.hid hcut
          clear hcut hn
          go_enter Tryd.func35, Tryd.ntmps35
          go_wp2_with fail
          refine (isRecord_any _ _ _ _ HM.out (by omega) _ HI.out).mono ?_
          rw [HR.out]
          rintro e w' ⟨rfl, rfl⟩
          go_wp2_with (at_make; refine wpList_make_full _ rfl _ _ 22 rfl w.heap.size 5 i0 (.int .u8 0) 1 Tryd.underlying22 hi hz0 hz1 .i64 .i64 _ _ n rfl rfl rfl rfl (by rw [HZ2.out]; omega) (by unfold maxLen; omega) (Nat.le_refl _) ?_; intro w1 hown hgrow)
          go_loopw [5, 6, 31] (fun _ _ K wr => ∃ k : Nat, k ≤ n ∧ K = .int .i64 k ∧ wr.ownsRow w.heap.size 5 1 (.slice (some ⟨w.heap.size, 0, none⟩) n n) n ((mix t k).map (Value.int .u8)) ∧ Below w.heap.size w wr ∧ allIn t 0 255 = (t.drop k).all (fun z => inB z 0 255)) (fun _ _ K _ => n - (intOf K).toNat)
          case atStart =>
            refine ⟨0, Nat.zero_le _, rfl, ?_, (Below.refl _ _).grown hgrow (Nat.le_refl _) (by simp), rfl⟩
            rw [mix_zero, HN.out]
            have h := hown
            rw [show Value.cells (.int .u8 0) = #[.int .u8 0] from rfl, Nat.mul_one, toList_madeCells_one] at h
            simpa using h
          case round =>
            clear hown hgrow
            obtain ⟨k, hk, rfl, hownr, hbel, he⟩ := hrel
            by_cases hkn : k < n
            · obtain ⟨b', off', z, hb', hbl', hc', hd'⟩ := ((HC.out.below (hbel.mono hP)).ints).at (k := k) (by have := HN.out; omega)
              simp only [Option.some.injEq, Addr.mk.injEq, and_true] at hb'
              obtain ⟨rfl, rfl⟩ := hb'
              obtain ⟨hz0', hz1'⟩ := HDG.out z (mem_drop hd')
              obtain ⟨s1, s2⟩ := all_step hd' he
              have HB := Lib.hid hbel
              have hkm : k < m - 1 := by have := HNM.out; omega
              by_cases hz255 : z ≤ 255
              · obtain ⟨⟨u, hcu⟩, hfu⟩ := bcopy_cell hownr hkn
                have HO := Lib.hid (bcopy_round hownr hd')
                have HS := Lib.hid (s1 (inB_true.2 ⟨hz0', hz255⟩))
                clear hownr hbel he hd' s1 s2
                go_wp2
                go_roundw
                case rel => exact ⟨k + 1, by omega, by go_num, HO.out, HB.out.setCell (Nat.le_refl _) _, HS.out⟩
                case measure => simp only [intOf]; omega
              · have hz256 : 255 < z := by omega
                have HS := Lib.hid (s2 (by rw [← Bool.not_eq_true, inB_true]; omega))
                clear hownr hbel he hd' s1 s2
                go_wp2
                go_ret2
                have e1 := HDT.out.trans HS.out
                rw [e1, dtS_no e1]
                exact ⟨rfl, HB.out⟩
            · obtain rfl : k = n := by omega
              have e2 : allIn t 0 255 = true := by
                rw [he, List.drop_of_length_le (by have := HN.out; omega)]; rfl
              rw [mix_all t (by have := HN.out; omega)] at hownr
              have hcv := bytes_done hownr e2
              have hkm : ¬ k < m - 1 := by have := HNM.out; omega
              have HE := Lib.hid (HDT.out.trans e2)
              have HB := Lib.hid hbel
              clear hownr hbel he e2
              go_wp2
              go_ret2
              rw [HE.out, dtS_yes HE.out]
              exact ⟨rfl, HB.out⟩
      · have e1 : dtB (x :: t) = false := by
          rw [← Bool.not_eq_true, dtB_cons]; exact fun h => hx h.2.1
        rw [e1, dtS_no e1]
        have HR := Lib.hid hr
        have hxm : (x == (m : Int) - 1) = false := by rw [beq_eq_false_iff_ne]; omega
        have hxn : (x != (m : Int) - 1) = true := by simp [bne, hxm]
        clear e1 hr h hin hm hmt hzl hdg hdr hx
        go_enter Tryd.func35, Tryd.ntmps35
        go_wp2_with fail
        refine (isRecord_any _ _ _ (x :: t) HM.out (by omega) _ HI.out).mono ?_
        rw [HR.out]
        rintro e w' ⟨rfl, rfl⟩
        go_wp2
        go_ret2
        exact ⟨rfl, Below.refl _ _⟩

/-! ### The reference -/
end Go.Proofs.YtmiohdibbpckaaaDoor

