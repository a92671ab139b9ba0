/- Lists of lists of integers: compared, marked, held, weighed. -/
import Derived.Test.YtmiohdibbpckaaaTyS
namespace Go.Proofs.Ytmiohdibbpckaaa
open Go.RowKit

set_option maxRecDepth 100000 in
set_option maxHeartbeats 1600000 in
theorem eqS_any {P P' : Nat} {w : World} {v v' : Value} {zss : List (List Int)} (h : InS P w v zss) (h' : InS P' w v' zss) (hl : zss.length ≤ 1048576) (hr : nS zss ≤ 17592186044416) :
    Calls Try.prog 42 #[v, v'] w fun e w' => e = .returned (.bool true) ∧ Below w.heap.size w w' := by
  obtain ⟨ad, cap, rfl⟩ := h.shape
  obtain ⟨ad', cap', rfl⟩ := h'.shape
  have HR := Lib.hid hr
  generalize hn : zss.length = n at h h'
  have HN := Lib.hid hn
  have hl' : n ≤ 1048576 := by omega
  have H := Lib.hid h
  have H' := Lib.hid h'
  clear hl hr hn h h'
  go_enter Try.func42, Try.ntmps42
  go_wp2
  go_loopw [5] (fun K wr => ∃ k : Nat, k ≤ n ∧ K = .int .i64 k ∧ Below w.heap.size w wr) (fun K _ => n - (intOf K).toNat)
  case atStart => exact ⟨0, Nat.zero_le _, rfl, Below.refl _ _⟩
  case round =>
    obtain ⟨k, hk, rfl, hbel⟩ := hrel
    by_cases hkn : k < n
    · obtain ⟨b, off, a, c, z, rfl, hb, hc, hin, hd⟩ := (H.out.below hbel).at (k := k) (by have := HN.out; omega)
      obtain ⟨b', off', a', c', z', rfl, hb', hc', hin', hd'⟩ := (H'.out.below hbel).at (k := k) (by have := HN.out; omega)
      obtain rfl : z = z' := by rw [hd] at hd'; exact (List.cons.inj hd').1
      have hzl : z.length ≤ 17592186044416 := by
        have := nS_le (show z ∈ zss from List.mem_of_mem_drop (i := k) (by rw [hd]; simp))
        have := HR.out
        omega
      have HB := Lib.hid hbel
      have HI := Lib.hid (hin.below (Below.refl _ wr).drew)
      have HI' := Lib.hid (hin'.below (Below.refl _ wr).drew)
      clear hbel hd hd' hin hin'
      go_wp2
      go_region_held3 (fun w' => w'.cell? ⟨b, off + k, none⟩ = some (.slice a z.length c) ∧ w'.cell? ⟨b', off' + k, none⟩ = some (.slice a' z.length c')) (first | exact ⟨hc, hc'⟩ | exact ⟨x0, x1⟩)
        ((go_at_call 16; refine (eqI_any HI.out HI'.out hzl).mono ?_; rintro e wa ⟨rfl, hba⟩; have hbr : Below wr.heap.size wr wa := (bt ((Below.refl _ _).drew) hba); have x0 := (hbr.cell (p := ⟨b, off + k, none⟩) hb).trans hc; have x1 := (hbr.cell (p := ⟨b', off' + k, none⟩) hb').trans hc'; have HA := Lib.hid (HB.out.trans (hbr.mono HB.out.size)); clear hba hbr))
      clear x0 x1
      go_wp2
      go_roundw
      case rel => exact ⟨k + 1, by omega, by go_num, HA.out⟩
      case measure => simp only [intOf]; omega
    · have HB := Lib.hid hbel
      clear hbel
      go_wp2
      go_ret
      exact ⟨rfl, HB.out⟩

set_option maxRecDepth 100000 in
set_option maxHeartbeats 1600000 in
theorem markS_any {Q P : Nat} {w : World} {v : Value} {zss : List (List Int)} {k : Int} (h : OwS Q P w v zss) (hk0 : 0 ≤ k) (hk1 : k ≤ 8796093022208) (hl : zss.length ≤ 1048576) (hr : nS zss ≤ 8796093022208) :
    Calls Try.prog 43 #[v, .int .i64 k] w (MarkS Q P w v zss k) := by
  obtain ⟨M, vs, hown, hch⟩ := h
  obtain ⟨ad, cap, rfl⟩ := own_shape hown.1
  generalize hn : zss.length = n at hown
  have hlen := hch.len
  have hle := hch.le
  have HLE := Lib.hid hle
  have HL := Lib.hid hlen
  have HN := Lib.hid hn
  have HR := Lib.hid hr
  have HQM := Lib.hid hown.2.2.2
  have hl' : n ≤ 1048576 := by omega
  have HO := Lib.hid hown
  have HC := Lib.hid hch
  clear hl hr hn hown hch hlen hle
  go_enter Try.func43, Try.ntmps43
  go_wp2
  go_loopw [1, 5] (fun A J wr => ∃ (j R : Nat), j ≤ n ∧ A = .int .i64 (k + (nS (zss.take j) : Int)) ∧ J = .int .i64 j ∧ OwR 22 1 Q M wr (.slice ad n cap) n vs ∧ ChI R wr M (vs.take j) (mkS k (zss.take j)) ∧ ChI P wr R (vs.drop j) (zss.drop j) ∧ Mid Q P w wr) (fun _ J _ => n - (intOf J).toNat)
  case atStart => exact ⟨0, M, Nat.zero_le _, by simp [nS], rfl, HO.out, ⟨Nat.le_refl _, Nat.le_trans HLE.out.1 HLE.out.2⟩, HC.out, Mid.refl _ _ _⟩
  case round =>
    obtain ⟨j, R, hj, rfl, rfl, hown, hc1, hc2, hm⟩ := hrel
    by_cases hjn : j < n
    · have hjv : j < vs.length := by have := HL.out; have := HN.out; omega
      have hjz : j < zss.length := by have := HN.out; omega
      have hdv := List.drop_eq_getElem_cons hjv
      have hdz := List.drop_eq_getElem_cons hjz
      have hcell : ∃ b off, ad = some ⟨b, off, none⟩ ∧ wr.cell? ⟨b, off + j, none⟩ = some vs[j] := by
        rcases hown.1.2 with ⟨h, h0⟩ | ⟨g, cap', cur, h, _⟩
        · omega
        · simp only [Value.slice.injEq] at h
          obtain ⟨rfl, _, rfl⟩ := h
          have := hown.1.cells (g := g) rfl j vs[j] (by simp [hjv])
          have e1 : (⟨g, 0, none⟩ : Addr).add j = ⟨g, 0 + j, none⟩ := by
            unfold Addr.add; split
            · subst_vars; rfl
            · rfl
          exact ⟨g, 0, rfl, by rwa [e1] at this⟩
      generalize hvj : vs[j] = u at hdv hcell
      generalize hzj : zss[j] = z at hdz
      rw [hdv, hdz] at hc2
      obtain ⟨R', ho, hc3⟩ := hc2
      obtain ⟨b, off, rfl, hc⟩ := hcell
      obtain ⟨a, c, rfl⟩ := own_shape ho.1
      have hzs := nS_le (show z ∈ zss from List.mem_of_mem_drop (i := j) (by rw [hdz]; simp))
      have hzt := nS_drop zss j
      have hzb : (nS (zss.take j)) ≤ 8796093022208 ∧ z.length ≤ 8796093022208 := by have := HR.out; omega
      obtain ⟨hzb1, hzb2⟩ := hzb
      have hR := hc1.le
      have hR' := hc3.le
      have hRR := ho.2.2.2
      have HT := Lib.hid (mkS_take zss k hdz)
      have HVT := Lib.hid (show vs.take (j + 1) = vs.take j ++ [.slice a z.length c] by rw [List.take_succ_eq_append_getElem hjv, hvj])
      have HOr := Lib.hid hown
      have H1 := Lib.hid hc1
      have H3 := Lib.hid hc3
      have HOZ := Lib.hid ho
      have HM := Lib.hid hm
      have HLE2 := Lib.hid (And.intro hR (And.intro hR' hRR))
      clear hdv hdz hvj hzj hzs hzt hown hc1 hc3 ho hm hjv hjz hR hR' hRR
      go_wp2_with fail
      refine (markI_any HOZ.out (by omega) (by omega) (by omega)).mono ?_
      rintro e w2 ⟨rfl, ho2, hm2⟩
      have HOr2 := Lib.hid (HOr.out.mid hm2 (.inl HLE2.out.1.1))
      have H12 := Lib.hid ((H1.out.mid hm2 (.inl (Nat.le_refl _))).snoc ho2)
      have H32 := Lib.hid (H3.out.mid hm2 (.inr (Nat.le_refl _)))
      have HM2 := Lib.hid (HM.out.trans (hm2.wide (Nat.le_trans HQM.out HLE2.out.1.1) HLE2.out.2.1.1))
      clear hm2 ho2 hc
      go_wp2
      go_roundw
      case rel =>
        refine ⟨j + 1, R', by omega, ?_, by go_num, HOr2.out, ?_, H32.out, HM2.out⟩
        · rw [HT.out.2.1]; congr 1; omega
        · rw [HVT.out, HT.out.1]; exact H12.out
      case measure => simp only [intOf]; omega
    · have HOr := Lib.hid hown
      have H1 := Lib.hid hc1
      have H3 := Lib.hid hc2
      have HM := Lib.hid hm
      clear hown hc1 hc2 hm
      obtain rfl : j = n := by omega
      go_wp2
      go_ret
      have h1 := H1.out
      have h3 := H3.out
      rw [List.take_of_length_le (by have := HL.out; have := HN.out; omega), List.take_of_length_le (by have := HN.out; omega)] at h1
      rw [List.drop_of_length_le (by have := HL.out; have := HN.out; omega), List.drop_of_length_le (by have := HN.out; omega)] at h3
      refine ⟨?_, ⟨M, vs, ?_, h1.wide h3.1 h3.2⟩, HM.out⟩
      · exact ret_int (by rw [List.take_of_length_le (by have := HN.out; omega)])
      · rw [mkS_length, HN.out]; exact HOr.out

set_option maxRecDepth 100000 in
set_option maxHeartbeats 1600000 in
theorem heldS_any {P : Nat} {w : World} {v : Value} {zss : List (List Int)} {k : Int} (h : InS P w v (mkS k zss)) (hk0 : 0 ≤ k) (hk1 : k ≤ 8796093022208) (hl : zss.length ≤ 1048576) (hr : nS zss ≤ 8796093022208) :
    Calls Try.prog 46 #[v, .int .i64 k] w fun e w' => e = .returned (.int .i64 (k + (nS zss : Int))) ∧ w = w' := by
  obtain ⟨ad, cap, rfl⟩ := h.shape
  rw [mkS_length] at *
  generalize hn : zss.length = n at h
  have HN := Lib.hid hn
  have HR := Lib.hid hr
  have hl' : n ≤ 1048576 := by omega
  have H := Lib.hid h
  clear hl hr hn h
  go_enter Try.func46, Try.ntmps46
  go_wp2
  go_loop [1, 5] (fun A J => ∃ (j : Nat), j ≤ n ∧ A = .int .i64 (k + (nS (zss.take j) : Int)) ∧ J = .int .i64 j) (fun _ J => n - (intOf J).toNat)
  case atStart => exact ⟨0, Nat.zero_le _, by simp [nS], rfl⟩
  case round =>
    obtain ⟨j, hj, rfl, rfl⟩ := hrel
    by_cases hjn : j < n
    · have hjz : j < zss.length := by have := HN.out; omega
      have hdz := List.drop_eq_getElem_cons hjz
      generalize hzj : zss[j] = z at hdz
      have hmg := mkS_get zss k hdz
      obtain ⟨b, off, a, c, z', rfl, hb, hc, hin, hd⟩ := H.out.at (k := j) (by rw [mkS_length]; exact hjz)
      obtain rfl : mkI (k + nS (zss.take j)) z = z' := by rw [hmg] at hd; exact (List.cons.inj hd).1
      have hzs := nS_le (show z ∈ zss from List.mem_of_mem_drop (i := j) (by rw [hdz]; simp))
      have hzt := nS_drop zss j
      have hzb : (nS (zss.take j)) ≤ 8796093022208 ∧ z.length ≤ 8796093022208 := by have := HR.out; omega
      obtain ⟨hzb1, hzb2⟩ := hzb
      have HT := Lib.hid (mkS_take zss k hdz)
      have HI := Lib.hid hin
      clear hdz hzj hmg hd hzs hzt hin hjz
      go_wp2_with fail
      refine (heldI_any HI.out (by omega) (by omega) (by omega)).mono ?_
      rintro e w' ⟨rfl, rfl⟩
      go_wp2
      go_round
      case rel =>
        refine ⟨j + 1, by omega, ?_, by go_num⟩
        rw [HT.out.2.1]; congr 1; omega
      case measure => simp only [intOf]; omega
    · obtain rfl : j = n := by omega
      go_wp2
      go_ret
      exact ⟨ret_int (by rw [List.take_of_length_le (by have := HN.out; omega)]), rfl⟩

set_option maxRecDepth 100000 in
set_option maxHeartbeats 1600000 in
theorem szS_any {P : Nat} {w : World} {v : Value} {zss : List (List Int)} {left : Int} (h : InS P w v zss) (h0 : 0 ≤ left) (h1 : left ≤ 1048576) (hl : zss.length ≤ maxLen) (hr : ∀ z ∈ zss, z.length ≤ maxLen) :
    Calls Try.prog 38 #[v, .int .i64 left] w fun e w' => e = .returned (.int .i64 (szV (zss.length + nS zss) left)) ∧ w = w' := by
  obtain ⟨ad, cap, rfl⟩ := h.shape
  have HR := Lib.hid hr
  generalize hn : zss.length = n at h
  have HN := Lib.hid hn
  have hl' : n ≤ 9223372036854775807 := by unfold maxLen at hl; omega
  have H := Lib.hid h
  clear hl hr hn h
  by_cases hq : (n : Int) ≤ left
  · go_enter Try.func38, Try.ntmps38
    go_wp2
    go_loop [1, 5] (fun A J => ∃ (j : Nat), j ≤ n ∧ (n : Int) + (nS (zss.take j) : Int) ≤ left ∧ A = .int .i64 (left - n - (nS (zss.take j) : Int)) ∧ J = .int .i64 j) (fun _ J => n - (intOf J).toNat)
    case atStart => exact ⟨0, Nat.zero_le _, by simp [nS]; omega, by simp [nS], rfl⟩
    case round =>
      obtain ⟨j, hj, hjl, rfl, rfl⟩ := hrel
      by_cases hjn : j < n
      · obtain ⟨b, off, a, c, z, rfl, hb, hc, hin, hd⟩ := H.out.at (k := j) (by have := HN.out; omega)
        have hzm := HR.out z (List.mem_of_mem_drop (i := j) (by rw [hd]; simp))
        have HT := Lib.hid (mkS_take zss 0 hd)
        have HI := Lib.hid hin
        have hzt : nS (zss.take j) + z.length ≤ nS zss := by
          have := nS_drop zss j
          rw [hd, nS_cons] at this
          omega
        by_cases hz : (z.length : Int) ≤ left - n - (nS (zss.take j) : Int)
        · have e1 : szV z.length (left - n - (nS (zss.take j) : Int)) = left - n - (nS (zss.take j) : Int) - z.length := by simp [szV, hz]
          have E1 := Lib.hid e1
          clear hd hin e1 hzt
          go_wp2_with fail
          refine (szI_any HI.out (by omega) (by omega) hzm).mono ?_
          rw [E1.out]
          rintro e w' ⟨rfl, rfl⟩
          go_wp2
          go_round
          case rel =>
            refine ⟨j + 1, by omega, ?_, ?_, by go_num⟩
            · rw [HT.out.2.1]; omega
            · rw [HT.out.2.1]; congr 1; omega
          case measure => simp only [intOf]; omega
        · have e1 : szV z.length (left - n - (nS (zss.take j) : Int)) = -1 := by simp [szV, hz]
          have e2 : szV (n + nS zss) left = -1 := by unfold szV; rw [if_neg (by omega)]
          have E1 := Lib.hid e1
          have E2 := Lib.hid e2
          clear hd hin e1 e2 hzt
          go_wp2_with fail
          refine (szI_any HI.out (by omega) (by omega) hzm).mono ?_
          rw [E1.out]
          rintro e w' ⟨rfl, rfl⟩
          go_wp2
          go_ret
          exact ⟨by rw [E2.out]; rfl, rfl⟩
      · obtain rfl : j = n := by omega
        go_wp2
        go_ret
        refine ⟨ret_int ?_, rfl⟩
        rw [List.take_of_length_le (by have := HN.out; omega)] at hjl ⊢
        unfold szV; rw [if_pos (by omega)]; omega
  · have e2 : szV (n + nS zss) left = -1 := by unfold szV; rw [if_neg (by omega)]
    rw [e2]
    clear e2
    go_enter Try.func38, Try.ntmps38
    go_wp2
    go_ret
    exact ⟨rfl, rfl⟩

end Go.Proofs.Ytmiohdibbpckaaa

