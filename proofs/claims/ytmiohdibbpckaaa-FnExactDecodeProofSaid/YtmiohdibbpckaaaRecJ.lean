/- The reference's DecodeProof. -/
import Derived.Test.YtmiohdibbpckaaaRecI
namespace Go.Proofs.Ytmiohdibbpckaaa
open Go.RowKit

theorem inI_nil {P : Nat} {w : World} (h : P ≤ w.heap.size) : InI P w (.slice none 0 0) [] := ⟨h, none, 0, rfl, .inl rfl, fun _ => rfl, Nat.le_refl _⟩
theorem tkB_nil : tkB [] = false := rfl
theorem OwI.inAll {Q P : Nat} {w : World} {v : Value} {z : List Int} (h : OwI Q P w v z) : InI w.heap.size w v z := h.toIn.wide h.2.2.1 (Nat.le_refl _)
theorem InI.all {P : Nat} {w : World} {v : Value} {z : List Int} (h : InI P w v z) : InI w.heap.size w v z := h.wide h.1 (Nat.le_refl _)

/-- A proof that the reference answers. -/
def AnsPr (w : World) (p : PrD) (ok : Bool) (e : Ending) (w' : World) : Prop := ∃ a b c, e = .returned (.tuple #[.agg #[a, b, c], .bool ok]) ∧ (OwI w.heap.size w'.heap.size w' a p.c ∧ OwI w.heap.size w'.heap.size w' b p.h ∧ OwI w.heap.size w'.heap.size w' c p.r) ∧ Below w.heap.size w w'
theorem ansPr_nil {w w' : World} (h : Below w.heap.size w w') : AnsPr w ⟨[], [], []⟩ false (.returned (.tuple #[.agg #[.slice none 0 0, .slice none 0 0, .slice none 0 0], .bool false])) w' :=
  ⟨_, _, _, rfl, ⟨owI_nil _ _ h.size, owI_nil _ _ h.size, owI_nil _ _ h.size⟩, h⟩

theorem dp_none {zs : List Int} (h : spl 3 zs [] = none) : dpB zs = false := by simp [dpB, (splOk_none h).1]

set_option maxRecDepth 100000 in
set_option maxHeartbeats 1600000 in
theorem cReadProof_any {P : Nat} {w : World} {v : Value} {zs : List Int} (h : InI P w v zs) (hl : zs.length ≤ 1048576) :
    Calls Try.prog 53 #[v] w (AnsPr w (dpP zs) (dpB zs)) := by
  have hal := ba w (.cells #[.slice none 0 0, .slice none 0 0, .slice none 0 0] 28)
  have H1 := Lib.hid (h.below hal)
  have HX := Lib.hid (b3_new w (.slice none 0 0) (.slice none 0 0) (.slice none 0 0) 28)
  have HA := Lib.hid hal
  obtain ⟨ad, cap, rfl⟩ := h.shape
  have HI := Lib.hid (h.below hal).parts.2.1.ints
  clear hal h
  cases hr : hashB zs
  · have e1 : dpB zs = false := by simp [dpB, hr]
    rw [e1, dpP_no e1]
    have HR := Lib.hid hr
    obtain ⟨x0, x1, x2, xf⟩ := HX.out
    have xf0 := xf 0
    have xf1 := xf 1
    have xf2 := xf 2
    clear xf e1 hr
    go_enter Try.func53, Try.ntmps53
    go_wp2_with fail
    refine (l4Record_any _ _ _ zs rfl (by omega) _ (by exact HI.out)).mono ?_
    rw [HR.out]
    rintro e w' ⟨rfl, rfl⟩
    go_wp2
    (try simp only [Exit.inBlock, Exit.then])
    refine bodyPost_ret (v := .tuple #[.agg #[.slice none 0 0, .slice none 0 0, .slice none 0 0], .bool false]) ?_ rfl ?_
    · rw [results_cell_tmp rfl]; go_simp
    · exact ansPr_nil HA.out
  have HR := Lib.hid hr
  clear hr
  cases t1 : tkB zs
  · have HE := Lib.hid (dp_none (spl_stop (n := 2) (acc := []) t1))
    have HT1 := Lib.hid t1
    have hP0 := Lib.hid (inI_nil (P := P) H1.out.1)
    clear t1
    go_enter Try.func53, Try.ntmps53
    go_wp2_with fail
    refine (l4Record_any _ _ _ zs rfl (by omega) _ (by exact HI.out)).mono ?_
    rw [HR.out]
    rintro e w' ⟨rfl, rfl⟩
    go_wp2_with fail
    refine (l4Take_no H1.out (by first | omega | (simp)) HT1.out).mono ?_
    rintro e w' ⟨rfl, rfl⟩
    go_wp2_with fail
    refine (l4Take_no hP0.out (by first | omega | (simp)) tkB_nil).mono ?_
    rintro e w' ⟨rfl, rfl⟩
    go_wp2_with fail
    refine (l4Take_no hP0.out (by first | omega | (simp)) tkB_nil).mono ?_
    rintro e w' ⟨rfl, rfl⟩
    obtain ⟨x0, x1, x2, xf⟩ := HX.out
    have xf0 := xf 0
    have xf1 := xf 1
    have xf2 := xf 2
    clear xf
    go_wp2
    (try simp only [Exit.inBlock, Exit.then])
    refine bodyPost_ret (v := .tuple #[.agg #[.slice none 0 0, .slice none 0 0, .slice none 0 0], .bool false]) ?_ rfl ?_
    · rw [results_cell_tmp rfl]; go_simp
    · rw [HE.out, dpP_no HE.out]
      first | exact ansPr_nil HA.out | exact ansPr_nil (((HA.out.setCell (Nat.le_refl _) _).setCell (Nat.le_refl _) _).setCell (Nat.le_refl _) _)
  have hl1 := tkR_length t1
  cases t2 : tkB (tkR zs)
  · have HE := Lib.hid (dp_none (by rw [spl_go t1]; exact spl_stop (n := 1) t2))
    have HT1 := Lib.hid t1
    have HT2 := Lib.hid t2
    clear t1 t2
    go_enter Try.func53, Try.ntmps53
    go_wp2_with fail
    refine (l4Record_any _ _ _ zs rfl (by omega) _ (by exact HI.out)).mono ?_
    rw [HR.out]
    rintro e w' ⟨rfl, rfl⟩
    go_wp2_with fail
    refine (l4Take_yes H1.out (by omega) HT1.out).mono ?_
    rintro e w1 ⟨a1, r1, rfl, hoa, hir, hb⟩
    obtain ⟨aa1, ac1, rfl⟩ := own_shape hoa.1
    obtain ⟨ra1, rc1, rfl⟩ := hir.shape
    have IA1_1 := Lib.hid hoa
    have IR1 := Lib.hid hir
    have HA1 := Lib.hid (bt HA.out hb)
    have HX1 := Lib.hid (HX.out.below hb)
    clear hb hoa hir
    have hP0 := Lib.hid (inI_nil (P := P) IR1.out.1)
    go_wp2_with fail
    refine (l4Take_no IR1.out (by first | omega | (simp)) HT2.out).mono ?_
    rintro e w' ⟨rfl, rfl⟩
    go_wp2_with fail
    refine (l4Take_no hP0.out (by first | omega | (simp)) tkB_nil).mono ?_
    rintro e w' ⟨rfl, rfl⟩
    obtain ⟨x0, x1, x2, xf⟩ := HX1.out
    have xf0 := xf 0
    have xf1 := xf 1
    have xf2 := xf 2
    clear xf
    go_wp2
    (try simp only [Exit.inBlock, Exit.then])
    refine bodyPost_ret (v := .tuple #[.agg #[.slice none 0 0, .slice none 0 0, .slice none 0 0], .bool false]) ?_ rfl ?_
    · rw [results_cell_tmp rfl]; go_simp
    · rw [HE.out, dpP_no HE.out]
      first | exact ansPr_nil HA1.out | exact ansPr_nil (((HA1.out.setCell (Nat.le_refl _) _).setCell (Nat.le_refl _) _).setCell (Nat.le_refl _) _)
  have hl2 := tkR_length t2
  cases t3 : tkB (tkR (tkR zs))
  · have HE := Lib.hid (dp_none (by rw [spl_go t1, spl_go t2]; exact spl_stop (n := 0) t3))
    have HT1 := Lib.hid t1
    have HT2 := Lib.hid t2
    have HT3 := Lib.hid t3
    clear t1 t2 t3
    go_enter Try.func53, Try.ntmps53
    go_wp2_with fail
    refine (l4Record_any _ _ _ zs rfl (by omega) _ (by exact HI.out)).mono ?_
    rw [HR.out]
    rintro e w' ⟨rfl, rfl⟩
    go_wp2_with fail
    refine (l4Take_yes H1.out (by omega) HT1.out).mono ?_
    rintro e w1 ⟨a1, r1, rfl, hoa, hir, hb⟩
    obtain ⟨aa1, ac1, rfl⟩ := own_shape hoa.1
    obtain ⟨ra1, rc1, rfl⟩ := hir.shape
    have IA1_1 := Lib.hid hoa
    have IR1 := Lib.hid hir
    have HA1 := Lib.hid (bt HA.out hb)
    have HX1 := Lib.hid (HX.out.below hb)
    clear hb hoa hir
    go_wp2_with fail
    refine (l4Take_yes IR1.out (by omega) HT2.out).mono ?_
    rintro e w2 ⟨a2, r2, rfl, hoa, hir, hb⟩
    obtain ⟨aa2, ac2, rfl⟩ := own_shape hoa.1
    obtain ⟨ra2, rc2, rfl⟩ := hir.shape
    have IA2_2 := Lib.hid hoa
    have IR2 := Lib.hid hir
    have IA1_2 := Lib.hid (IA1_1.out.below hb)
    have HA2 := Lib.hid (bt HA1.out hb)
    have HX2 := Lib.hid (HX1.out.below hb)
    clear hb hoa hir
    go_wp2_with fail
    refine (l4Take_no IR2.out (by first | omega | (simp)) HT3.out).mono ?_
    rintro e w' ⟨rfl, rfl⟩
    obtain ⟨x0, x1, x2, xf⟩ := HX2.out
    have xf0 := xf 0
    have xf1 := xf 1
    have xf2 := xf 2
    clear xf
    go_wp2
    (try simp only [Exit.inBlock, Exit.then])
    refine bodyPost_ret (v := .tuple #[.agg #[.slice none 0 0, .slice none 0 0, .slice none 0 0], .bool false]) ?_ rfl ?_
    · rw [results_cell_tmp rfl]; go_simp
    · rw [HE.out, dpP_no HE.out]
      first | exact ansPr_nil HA2.out | exact ansPr_nil (((HA2.out.setCell (Nat.le_refl _) _).setCell (Nat.le_refl _) _).setCell (Nat.le_refl _) _)
  have hl3 := tkR_length t3
  have es : spl 3 zs [] = some ([tkA zs, tkA (tkR zs), tkA (tkR (tkR zs))], tkR (tkR (tkR zs))) := by
    rw [spl_go t1, spl_go t2, spl_go t3]; rfl
  have HES := Lib.hid es
  have HT1 := Lib.hid t1
  have HT2 := Lib.hid t2
  have HT3 := Lib.hid t3
  clear t1 t2 t3 es
  by_cases hz : tkR (tkR (tkR zs)) = []
  · have HL3 := Lib.hid (show (tkR (tkR (tkR zs))).length = 0 by rw [hz]; rfl)
    have HE := Lib.hid (splOk_some (by rw [HES.out, hz]))
    clear hz
    go_enter Try.func53, Try.ntmps53
    go_wp2_with fail
    refine (l4Record_any _ _ _ zs rfl (by omega) _ (by exact HI.out)).mono ?_
    rw [HR.out]
    rintro e w' ⟨rfl, rfl⟩
    go_wp2_with fail
    refine (l4Take_yes H1.out (by omega) HT1.out).mono ?_
    rintro e w1 ⟨a1, r1, rfl, hoa, hir, hb⟩
    obtain ⟨aa1, ac1, rfl⟩ := own_shape hoa.1
    obtain ⟨ra1, rc1, rfl⟩ := hir.shape
    have IA1_1 := Lib.hid hoa
    have IR1 := Lib.hid hir
    have HA1 := Lib.hid (bt HA.out hb)
    have HX1 := Lib.hid (HX.out.below hb)
    clear hb hoa hir
    go_wp2_with fail
    refine (l4Take_yes IR1.out (by omega) HT2.out).mono ?_
    rintro e w2 ⟨a2, r2, rfl, hoa, hir, hb⟩
    obtain ⟨aa2, ac2, rfl⟩ := own_shape hoa.1
    obtain ⟨ra2, rc2, rfl⟩ := hir.shape
    have IA2_2 := Lib.hid hoa
    have IR2 := Lib.hid hir
    have IA1_2 := Lib.hid (IA1_1.out.below hb)
    have HA2 := Lib.hid (bt HA1.out hb)
    have HX2 := Lib.hid (HX1.out.below hb)
    clear hb hoa hir
    go_wp2_with fail
    refine (l4Take_yes IR2.out (by omega) HT3.out).mono ?_
    rintro e w3 ⟨a3, r3, rfl, hoa, hir, hb⟩
    obtain ⟨aa3, ac3, rfl⟩ := own_shape hoa.1
    obtain ⟨ra3, rc3, rfl⟩ := hir.shape
    have IA3_3 := Lib.hid hoa
    have IR3 := Lib.hid hir
    have IA1_3 := Lib.hid (IA1_2.out.below hb)
    have IA2_3 := Lib.hid (IA2_2.out.below hb)
    have HA3 := Lib.hid (bt HA2.out hb)
    have HX3 := Lib.hid (HX2.out.below hb)
    clear hb hoa hir
    obtain ⟨x0, x1, x2, xf⟩ := HX3.out
    have xf0 := xf 0
    have xf1 := xf 1
    have xf2 := xf 2
    clear xf
    go_wp2_with (simp only [HL3.out])
    (try simp only [Exit.inBlock, Exit.then])
    refine bodyPost_ret (v := .tuple #[.agg #[.slice aa1 (tkA zs).length ac1, .slice aa2 (tkA (tkR zs)).length ac2, .slice aa3 (tkA (tkR (tkR zs))).length ac3], .bool true]) ?_ rfl ?_
    · rw [results_cell_tmp rfl]; go_simp
    · have e5 : dpB zs = true := by simp [dpB, HR.out, HE.out.1]
      rw [e5, dpP_yes e5, HE.out.2]
      have hb2 := ((HA3.out.setCell (p := ⟨w.heap.size, 0, none⟩) (Nat.le_refl _) (.slice aa1 (tkA zs).length ac1)).setCell (p := ⟨w.heap.size, 1, none⟩) (Nat.le_refl _) (.slice aa2 (tkA (tkR zs)).length ac2)).setCell (p := ⟨w.heap.size, 2, none⟩) (Nat.le_refl _) (.slice aa3 (tkA (tkR (tkR zs))).length ac3)
      have hm := ((mid_cell w3 w.heap.size 0 (.slice aa1 (tkA zs).length ac1)).trans (mid_cell _ w.heap.size 1 (.slice aa2 (tkA (tkR zs)).length ac2))).trans (mid_cell _ w.heap.size 2 (.slice aa3 (tkA (tkR (tkR zs))).length ac3))
      have q1 := IA1_3.out.mid hm (.inr (by simp))
      have q2 := IA2_3.out.mid hm (.inr HX1.out.lt)
      have q3 := IA3_3.out.mid hm (.inr HX2.out.lt)
      exact ⟨_, _, _, rfl, ⟨q1.wide HA.out.size q1.2.2.1 (Nat.le_refl _), q2.wide HA1.out.size q2.2.2.1 (Nat.le_refl _), q3.wide HA2.out.size q3.2.2.1 (Nat.le_refl _)⟩, hb2⟩
  · have HE := Lib.hid (show dpB zs = false by simp [dpB, (splOk_more HES.out hz).1])
    have hz0 : 0 < (tkR (tkR (tkR zs))).length := List.length_pos_iff.2 hz
    clear hz
    go_enter Try.func53, Try.ntmps53
    go_wp2_with fail
    refine (l4Record_any _ _ _ zs rfl (by omega) _ (by exact HI.out)).mono ?_
    rw [HR.out]
    rintro e w' ⟨rfl, rfl⟩
    go_wp2_with fail
    refine (l4Take_yes H1.out (by omega) HT1.out).mono ?_
    rintro e w1 ⟨a1, r1, rfl, hoa, hir, hb⟩
    obtain ⟨aa1, ac1, rfl⟩ := own_shape hoa.1
    obtain ⟨ra1, rc1, rfl⟩ := hir.shape
    have IA1_1 := Lib.hid hoa
    have IR1 := Lib.hid hir
    have HA1 := Lib.hid (bt HA.out hb)
    have HX1 := Lib.hid (HX.out.below hb)
    clear hb hoa hir
    go_wp2_with fail
    refine (l4Take_yes IR1.out (by omega) HT2.out).mono ?_
    rintro e w2 ⟨a2, r2, rfl, hoa, hir, hb⟩
    obtain ⟨aa2, ac2, rfl⟩ := own_shape hoa.1
    obtain ⟨ra2, rc2, rfl⟩ := hir.shape
    have IA2_2 := Lib.hid hoa
    have IR2 := Lib.hid hir
    have IA1_2 := Lib.hid (IA1_1.out.below hb)
    have HA2 := Lib.hid (bt HA1.out hb)
    have HX2 := Lib.hid (HX1.out.below hb)
    clear hb hoa hir
    go_wp2_with fail
    refine (l4Take_yes IR2.out (by omega) HT3.out).mono ?_
    rintro e w3 ⟨a3, r3, rfl, hoa, hir, hb⟩
    obtain ⟨aa3, ac3, rfl⟩ := own_shape hoa.1
    obtain ⟨ra3, rc3, rfl⟩ := hir.shape
    have IA3_3 := Lib.hid hoa
    have IR3 := Lib.hid hir
    have IA1_3 := Lib.hid (IA1_2.out.below hb)
    have IA2_3 := Lib.hid (IA2_2.out.below hb)
    have HA3 := Lib.hid (bt HA2.out hb)
    have HX3 := Lib.hid (HX2.out.below hb)
    clear hb hoa hir
    obtain ⟨x0, x1, x2, xf⟩ := HX3.out
    have xf0 := xf 0
    have xf1 := xf 1
    have xf2 := xf 2
    clear xf
    go_wp2
    (try simp only [Exit.inBlock, Exit.then])
    refine bodyPost_ret (v := .tuple #[.agg #[.slice none 0 0, .slice none 0 0, .slice none 0 0], .bool false]) ?_ rfl ?_
    · rw [results_cell_tmp rfl]; go_simp
    · rw [HE.out, dpP_no HE.out]
      first | exact ansPr_nil HA3.out | exact ansPr_nil (((HA3.out.setCell (Nat.le_refl _) _).setCell (Nat.le_refl _) _).setCell (Nat.le_refl _) _)

theorem sDecodeProof_any {P : Nat} {w : World} {v : Value} {zs : List Int} (h : InI P w v zs) (hl : zs.length ≤ 1048576) :
    Calls Try.prog 21 #[v] w (AnsPr w (dpP zs) (dpB zs)) := by
  have hal := ba w (.cells #[.slice none 0 0, .slice none 0 0, .slice none 0 0] 28)
  have H1 := Lib.hid (h.below hal)
  have HX := Lib.hid (b3_new w (.slice none 0 0) (.slice none 0 0) (.slice none 0 0) 28)
  have HA := Lib.hid hal
  obtain ⟨ad, cap, rfl⟩ := h.shape
  clear hal h
  go_enter Try.func21, Try.ntmps21
  go_wp2_with fail
  refine (cReadProof_any H1.out hl).mono ?_
  rintro e w1 ⟨a, b, c, rfl, ⟨j1, j2, j3⟩, hb⟩
  obtain ⟨a1, a2, rfl⟩ := own_shape j1.1
  obtain ⟨b1, b2, rfl⟩ := own_shape j2.1
  obtain ⟨c1, c2, rfl⟩ := own_shape j3.1
  have HX1 := Lib.hid (HX.out.below hb)
  have HA1 := Lib.hid (bt HA.out hb)
  have J1 := Lib.hid j1
  have J2 := Lib.hid j2
  have J3 := Lib.hid j3
  obtain ⟨x0, x1, x2, xf⟩ := HX1.out
  have xf0 := xf 0
  have xf1 := xf 1
  have xf2 := xf 2
  clear xf hb j1 j2 j3
  go_wp2
  (try simp only [Exit.inBlock, Exit.then])
  refine bodyPost_ret (v := .tuple #[.agg #[.slice a1 (dpP zs).c.length a2, .slice b1 (dpP zs).h.length b2, .slice c1 (dpP zs).r.length c2], .bool (dpB zs)]) ?_ rfl ?_
  · rw [results_cell_tmp rfl]; go_simp
  · have hb2 := ((HA1.out.setCell (p := ⟨w.heap.size, 0, none⟩) (Nat.le_refl _) (.slice a1 (dpP zs).c.length a2)).setCell (p := ⟨w.heap.size, 1, none⟩) (Nat.le_refl _) (.slice b1 (dpP zs).h.length b2)).setCell (p := ⟨w.heap.size, 2, none⟩) (Nat.le_refl _) (.slice c1 (dpP zs).r.length c2)
    have hm := ((mid_cell w1 w.heap.size 0 (.slice a1 (dpP zs).c.length a2)).trans (mid_cell _ w.heap.size 1 (.slice b1 (dpP zs).h.length b2))).trans (mid_cell _ w.heap.size 2 (.slice c1 (dpP zs).r.length c2))
    have q1 := J1.out.mid hm (.inr (by simp))
    have q2 := J2.out.mid hm (.inr (by simp))
    have q3 := J3.out.mid hm (.inr (by simp))
    exact ⟨_, _, _, rfl, ⟨q1.wide HA.out.size q1.2.2.1 (Nat.le_refl _), q2.wide HA.out.size q2.2.2.1 (Nat.le_refl _), q3.wide HA.out.size q3.2.2.1 (Nat.le_refl _)⟩, hb2⟩
theorem AnsPr.toIn {w w' : World} {a b c : Value} {p : PrD} (h : OwI w.heap.size w'.heap.size w' a p.c ∧ OwI w.heap.size w'.heap.size w' b p.h ∧ OwI w.heap.size w'.heap.size w' c p.r) : InP w'.heap.size w' (.agg #[a, b, c]) p :=
  ⟨_, _, _, rfl, h.1.toIn, h.2.1.toIn, h.2.2.toIn⟩

end Go.Proofs.Ytmiohdibbpckaaa

