/- Chapter 12: QualifiedIn of the program; answers and mended dealings of the reference. -/
import Derived.Test.YtchlnkdlnfjijaaDkU
import Derived.Deep.DeepCutAuto
import Derived.Deep.RegionHeld3
namespace Go.Proofs.Ytchlnkdlnfjijaa
open Go.RowKit
set_option linter.unusedVariables false
set_option linter.unusedSimpArgs false

def qaR (P Q G : Int) (ds : List DlD) (av : List (List Int)) : List Int := if kaB P Q G ds av then quL P Q G ds av ds.length else []
theorem qaR_off {P Q G : Int} {ds : List DlD} {av : List (List Int)} (h : kaB P Q G ds av = false) : qaR P Q G ds av = [] := by simp [qaR, h]
theorem qaR_on {P Q G : Int} {ds : List DlD} {av : List (List Int)} (h : kaB P Q G ds av = true) : qaR P Q G ds av = quL P Q G ds av ds.length := by simp [qaR, h]
theorem qaR_bound (P Q G : Int) (ds : List DlD) (av : List (List Int)) : (qaR P Q G ds av).length ≤ 7 := by
  cases h : kaB P Q G ds av
  · simp [qaR_off h]
  · rw [qaR_on h]
    have h1 := (quL_length P Q G ds av ds.length).2
    have h2 := (ki_facts (ka_facts h).1).2.1.2
    omega

set_option maxRecDepth 100000 in
set_option maxHeartbeats 3200000 in
theorem qualifiedIn_any (P Q G : Int) {B : Nat} {v : Value} {ds : List DlD} (hl : ds.length ≤ 1048576) (hr : nDs ds ≤ 1048576) {B2 : Nat} {u : Value} {av : List (List Int)} (hl2 : av.length ≤ 1048576) (hr2 : nS av ≤ 1048576) {w : World} (hz : InDs B w v ds) (hu : InS B2 w u av) :
    Calls Try.prog 21 #[gv P Q G, v, u] w (AnsY w (qaR P Q G ds av) (kaB P Q G ds av)) := by
  obtain ⟨la, lc, rfl⟩ := hz.shape
  obtain ⟨ua, uc, rfl⟩ := hu.shape
  have hmf : ∀ (fn : Fn) (first cap : Array Value) (w : World), (Instr.makeFunc fn first cap).run Try.prog w = .ok (.func fn first cap) w := fun _ _ _ _ => rfl
  have G_0 := Lib.hid (gr_atS w w.heap.size rfl P Q G 24)
  have HB_0 := Lib.hid (show Below w.heap.size w (w.alloc (.cells #[.int .i64 P, .int .i64 Q, .int .i64 G] 24)) from ba _ _)
  have L_0 := Lib.hid (hz.below HB_0.out)
  have U_0 := Lib.hid (hu.below HB_0.out)
  clear hz hu
  cases h0 : kaB P Q G ds av
  · have K0 := Lib.hid (show kaB P Q G ds av = false from h0)
    have E1 := Lib.hid h0
    rw [qaR_off E1.out]
    clear h0
    obtain ⟨gG0, gG1, gG2⟩ := G_0.out
    go_enter Try.func21, Try.ntmps21
    go_wp2_with fail
    refine (areAnswered_any P Q G hl hr hl2 hr2 L_0.out U_0.out).mono ?_
    rw [K0.out]
    rintro e v1 ⟨rfl, hb⟩
    have HB_1 := Lib.hid (bt HB_0.out hb)
    have G_1 := Lib.hid (G_0.out.below hb)
    have L_1 := Lib.hid (L_0.out.below hb)
    have U_1 := Lib.hid (U_0.out.below hb)
    clear hb gG0 gG1 gG2
    obtain ⟨gG0, gG1, gG2⟩ := G_1.out
    go_wp2
    go_ret2
    exact ⟨_, rfl, owI_nil _ _ HB_1.out.size, HB_1.out⟩
  have K0 := Lib.hid (show kaB P Q G ds av = true from h0)
  have E1 := Lib.hid h0
  rw [qaR_on E1.out]
  clear h0
  obtain ⟨gG0, gG1, gG2⟩ := G_0.out
  go_enter Try.func21, Try.ntmps21
  go_wp2_with fail
  refine (areAnswered_any P Q G hl hr hl2 hr2 L_0.out U_0.out).mono ?_
  rw [K0.out]
  rintro e v1 ⟨rfl, hb⟩
  have HB_1 := Lib.hid (bt HB_0.out hb)
  have G_1 := Lib.hid (G_0.out.below hb)
  have L_1 := Lib.hid (L_0.out.below hb)
  have U_1 := Lib.hid (U_0.out.below hb)
  clear hb gG0 gG1 gG2
  obtain ⟨gG0, gG1, gG2⟩ := G_1.out
  go_wp2_with fail
  refine (settle_any P Q G hl hr hl2 hr2 L_1.out U_1.out E1.out).mono ?_
  rintro e w4 ⟨q1, q2, rfl, ho, hi, hb4⟩
  have HO4 := Lib.hid ho
  have HB4 := Lib.hid (bt HB_1.out hb4)
  have HBS := Lib.hid HB_1.out.size
  clear ho hi hb4 gG0 gG1 gG2
  go_wp2
  go_ret2
  exact ⟨_, rfl, HO4.out.wide HBS.out (Nat.le_refl _) (Nat.le_refl _), HB4.out⟩

set_option maxRecDepth 100000 in
set_option maxHeartbeats 3200000 in
theorem kgAnswers_any (P Q G : Int) {B : Nat} {v : Value} {ds : List DlD} (hl : ds.length ≤ 1048576) (hr : nDs ds ≤ 1048576) {B2 : Nat} {u : Value} {av : List (List Int)} (hl2 : av.length ≤ 1048576) (hr2 : nS av ≤ 1048576) {w : World} (hz : InDs B w v ds) (hu : InS B2 w u av) :
    Calls Try.prog 69 #[gv P Q G, v, u] w fun e w' => e = .returned (.bool (kaB P Q G ds av)) ∧ Below w.heap.size w w' := by
  obtain ⟨la, lc, rfl⟩ := hz.shape
  obtain ⟨ua, uc, rfl⟩ := hu.shape
  have hmf : ∀ (fn : Fn) (first cap : Array Value) (w : World), (Instr.makeFunc fn first cap).run Try.prog w = .ok (.func fn first cap) w := fun _ _ _ _ => rfl
  have G_0 := Lib.hid (gr_atS w w.heap.size rfl P Q G 24)
  have HB_0 := Lib.hid (show Below w.heap.size w (w.alloc (.cells #[.int .i64 P, .int .i64 Q, .int .i64 G] 24)) from ba _ _)
  have L_0 := Lib.hid (hz.below HB_0.out)
  have U_0 := Lib.hid (hu.below HB_0.out)
  clear hz hu
  cases h0 : kiB P Q G ds
  · have K0 := Lib.hid (show kiB P Q G ds = false from h0)
    have E1 := Lib.hid (show kaB P Q G ds av = false by simp [kaB, h0])
    rw [E1.out]
    clear h0
    obtain ⟨gG0, gG1, gG2⟩ := G_0.out
    go_enter Try.func69, Try.ntmps69
    go_wp2_with fail
    refine (kgInput_any P Q G hl hr L_0.out).mono ?_
    rw [K0.out]
    rintro e v1 ⟨rfl, hb⟩
    have HB_1 := Lib.hid (bt HB_0.out hb)
    have G_1 := Lib.hid (G_0.out.below hb)
    have L_1 := Lib.hid (L_0.out.below hb)
    have U_1 := Lib.hid (U_0.out.below hb)
    clear hb gG0 gG1 gG2
    obtain ⟨gG0, gG1, gG2⟩ := G_1.out
    go_wp2
    go_ret
    exact ⟨rfl, HB_1.out⟩
  have K0 := Lib.hid (show kiB P Q G ds = true from h0)
  by_cases h1 : ¬ (av.length = ds.length)
  · have B1 : ((av.length : Int) != (ds.length : Int)) = true := by exact neq_len h1
    have E1 := Lib.hid (show kaB P Q G ds av = false by simp [kaB, h1])
    rw [E1.out]
    clear h0 h1
    obtain ⟨gG0, gG1, gG2⟩ := G_0.out
    go_enter Try.func69, Try.ntmps69
    go_wp2_with fail
    refine (kgInput_any P Q G hl hr L_0.out).mono ?_
    rw [K0.out]
    rintro e v1 ⟨rfl, hb⟩
    have HB_1 := Lib.hid (bt HB_0.out hb)
    have G_1 := Lib.hid (G_0.out.below hb)
    have L_1 := Lib.hid (L_0.out.below hb)
    have U_1 := Lib.hid (U_0.out.below hb)
    clear hb gG0 gG1 gG2
    obtain ⟨gG0, gG1, gG2⟩ := G_1.out
    go_wp2
    go_ret
    exact ⟨rfl, HB_1.out⟩
  replace h1 := Decidable.not_not.1 h1
  have B1 : ((av.length : Int) != (ds.length : Int)) = false := by exact eq_len h1
  have E1 := Lib.hid (show kaB P Q G ds av = (av.all fun a => shsB Q a) by unfold kaB; rw [h0, decide_eq_true h1]; rfl)
  rw [E1.out]
  have hmo := (trB_of (ki_facts h0).1).2.1
  clear h0 h1
  obtain ⟨gG0, gG1, gG2⟩ := G_0.out
  go_enter Try.func69, Try.ntmps69
  go_wp2_with fail
  refine (kgInput_any P Q G hl hr L_0.out).mono ?_
  rw [K0.out]
  rintro e v1 ⟨rfl, hb⟩
  have HB_1 := Lib.hid (bt HB_0.out hb)
  have G_1 := Lib.hid (G_0.out.below hb)
  have L_1 := Lib.hid (L_0.out.below hb)
  have U_1 := Lib.hid (U_0.out.below hb)
  clear hb gG0 gG1 gG2
  obtain ⟨gG0, gG1, gG2⟩ := G_1.out
  clear gG0 gG1 gG2
  go_wp2_with fail
  go_loopw [8, 22] (fun _ K wr => ∃ k : Nat, k ≤ av.length ∧ K = .int .i64 k ∧ av.all (fun a => shsB Q a) = (av.drop k).all (fun a => shsB Q a) ∧ Below v1.heap.size v1 wr) (fun _ K _ => av.length - (intOf K).toNat)
  case atStart => exact ⟨0, Nat.zero_le _, rfl, by simp, Below.refl _ _⟩
  case round =>
    obtain ⟨k, hk, rfl, he, hbel⟩ := hrel
    by_cases hkn : k < av.length
    · obtain ⟨b, off, p1, p2, z, rfl, hb, hx, hi, hd⟩ := (U_1.out.below hbel).at (k := k) hkn
      have HS := Lib.hid (show (shsB Q z = true → av.all (fun a => shsB Q a) = (av.drop (k + 1)).all (fun a => shsB Q a)) ∧ (shsB Q z = false → av.all (fun a => shsB Q a) = false) from by
        rw [hd, List.all_cons] at he
        exact ⟨fun h => by rw [he, h, Bool.true_and], fun h => by rw [he, h, Bool.false_and]⟩)
      have HB := Lib.hid hbel
      have hi2 := Lib.hid hi
      have hzn : z.length ≤ 1048576 := by
        have := nS_drop av k
        rw [hd, nS_cons] at this
        omega
      obtain ⟨gG0, gG1, gG2⟩ := G_1.out.below hbel
      clear he hd hbel hi
      by_cases h7 : z.length ≤ 7
      · have h7i : ¬ ((7 : Int) < (z.length : Int)) := by omega
        have hsz : shsB Q z = allIn z 0 (Q - 1) := by unfold shsB; rw [decide_eq_true h7, Bool.true_and]
        have HSZ := Lib.hid hsz
        clear hsz
        cases hi' : allIn z 0 (Q - 1)
        · have HI := Lib.hid hi'
          clear hi'
          go_wp2_with fail
          refine (gExps_any P Q G hmo.2 p1 z.length p2 z rfl (by omega) _ (inI_ints hi2.out)).mono ?_
          rw [HI.out]
          rintro e w1 ⟨rfl, hb1⟩
          have HB1 := Lib.hid (bt (bt HB_1.out HB.out) hb1)
          clear hb1 gG0 gG1 gG2
          go_wp2
          go_ret
          exact ⟨by rw [HS.out.2 (HSZ.out.trans HI.out)]; rfl, HB1.out⟩
        · have HI := Lib.hid hi'
          clear hi'
          go_wp2_with fail
          refine (gExps_any P Q G hmo.2 p1 z.length p2 z rfl (by omega) _ (inI_ints hi2.out)).mono ?_
          rw [HI.out]
          rintro e w1 ⟨rfl, hb1⟩
          have HB1 := Lib.hid (bt HB.out hb1)
          clear hb1 gG0 gG1 gG2
          go_wp2
          go_roundw
          case rel => exact ⟨k + 1, by omega, by go_num, HS.out.1 (HSZ.out.trans HI.out), HB1.out⟩
          case measure => simp only [intOf]; omega
      · have h7i : (7 : Int) < (z.length : Int) := by omega
        have hsz : shsB Q z = false := by unfold shsB; rw [decide_eq_false h7, Bool.false_and]
        have HSZ := Lib.hid hsz
        clear hsz h7
        go_wp2
        go_ret
        exact ⟨by rw [HS.out.2 HSZ.out]; rfl, bt HB_1.out HB.out⟩
    · have HE := Lib.hid he
      have HB := Lib.hid (bt HB_1.out hbel)
      clear he hbel
      go_wp2
      go_ret
      refine ⟨?_, HB.out⟩
      rw [HE.out, List.drop_of_length_le (by omega)]; rfl

def C0x (w : World) (a : Addr) (z : Int) : Prop := w.cell? a = some (.int .i64 z)
theorem C0x.below {w w' : World} {a : Addr} {z : Int} (h : C0x w a z) (hb : Below w.heap.size w w') : C0x w' a z := (hb.cell (World.block_lt_of_cell? w _ h)).trans h
theorem SumC.put {v w : World} {b Q M N P g n cap : Nat} {x : Value} {cs ys : List Int} (h : SumC v w b Q M N P x (.slice (some ⟨g, 0, none⟩) n cap) ⟨cs, ys⟩) (k : Nat) (z : Int)
    (hMN : M ≤ N) (hb : b < N ∨ P ≤ b) (hv : v.heap.size ≤ Q) : SumC v (w.setCell ⟨g, k, none⟩ (.int .i64 z)) b Q M N P x (.slice (some ⟨g, 0, none⟩) n cap) ⟨cs, ys.set k z⟩ := by
  obtain ⟨h1, h2, h3, h4⟩ := h
  have q1 := h1.2.2.2
  obtain ⟨l1, l2⟩ := owI_blk h2
  have hm := mid_cell w g k (.int .i64 z)
  exact ⟨h1.mid hm (.inl (by omega)), owI_set h2 k z, h3.mid hm (by omega), h4.setCell (p := ⟨g, k, none⟩) (by show v.heap.size ≤ g; omega) _⟩
def AnsM (w : World) (ok : Bool) (d : DlD) (e : Ending) (w' : World) : Prop := ∃ a1 n1 c1 a2 n2 c2, e = .returned (.tuple #[.agg #[.slice a1 n1 c1, .slice a2 n2 c2], .bool ok]) ∧ (ok = true → OwD w.heap.size w'.heap.size w' (.agg #[.slice a1 n1 c1, .slice a2 n2 c2]) d) ∧ Below w.heap.size w w'
set_option maxRecDepth 100000 in
set_option maxHeartbeats 6400000 in
theorem kgMended_any (P Q G : Int) {B B2 : Nat} {v u : Value} {d : DlD} {own : List Int} (hiv : ivB P Q G d.c d.s = true) (ho7 : own.length ≤ 7) (hor : ∀ z ∈ own, 0 ≤ z ∧ z < Q) {w : World} (hd : InD B w v d) (ho : InI B2 w u own) :
    Calls Try.prog 134 #[gv P Q G, v, u] w (AnsM w (mdB P Q G d own) (mdV P Q G d own)) := by
  obtain ⟨p1, p2, r1, r2, rfl, hci, hsi⟩ := hd.shape
  obtain ⟨o1, o2, rfl⟩ := ho.shape
  obtain ⟨hg9, hq9, hce, hc7, hs7, hsr⟩ := ivB_facts hiv
  have HGD := Lib.hid hg9
  have HCE := Lib.hid hce
  have HSR := Lib.hid hsr
  have HOR := Lib.hid hor
  have G_0 := Lib.hid (((gr_atS w w.heap.size rfl P Q G 24).below (ba (w.alloc (.cells #[.int .i64 P, .int .i64 Q, .int .i64 G] 24)) (.cells #[.slice p1 d.c.length p2, .slice r1 d.s.length r2] 42))).below (ba ((w.alloc (.cells #[.int .i64 P, .int .i64 Q, .int .i64 G] 24)).alloc (.cells #[.slice p1 d.c.length p2, .slice r1 d.s.length r2] 42)) (.cells #[.slice none 0 0, .slice none 0 0] 42)))
  have D_0 := Lib.hid ((v2_at (w.alloc (.cells #[.int .i64 P, .int .i64 Q, .int .i64 G] 24)) (w.heap.size + 1) (by simp) (.slice p1 d.c.length p2) (.slice r1 d.s.length r2) 42).below (ba ((w.alloc (.cells #[.int .i64 P, .int .i64 Q, .int .i64 G] 24)).alloc (.cells #[.slice p1 d.c.length p2, .slice r1 d.s.length r2] 42)) (.cells #[.slice none 0 0, .slice none 0 0] 42)))
  have Z_0 := Lib.hid (v2_at ((w.alloc (.cells #[.int .i64 P, .int .i64 Q, .int .i64 G] 24)).alloc (.cells #[.slice p1 d.c.length p2, .slice r1 d.s.length r2] 42)) (w.heap.size + 2) (by simp) (.slice none 0 0) (.slice none 0 0) 42)
  have HB_0 := Lib.hid (show Below w.heap.size w (((w.alloc (.cells #[.int .i64 P, .int .i64 Q, .int .i64 G] 24)).alloc (.cells #[.slice p1 d.c.length p2, .slice r1 d.s.length r2] 42)).alloc (.cells #[.slice none 0 0, .slice none 0 0] 42)) from bt (bt (ba _ _) (ba _ _)) (ba _ _))
  have HS3 : w.heap.size + 3 ≤ (((w.alloc (.cells #[.int .i64 P, .int .i64 Q, .int .i64 G] 24)).alloc (.cells #[.slice p1 d.c.length p2, .slice r1 d.s.length r2] 42)).alloc (.cells #[.slice none 0 0, .slice none 0 0] 42)).heap.size := by simp
  have HCI := Lib.hid hci
  have HSI := Lib.hid hsi
  have HOI := Lib.hid ho
  have hBd := hci.le
  have hdn : d.c.length + d.s.length ≤ 1048576 := by omega
  obtain ⟨v0, hv0⟩ : ∃ W, (((w.alloc (.cells #[.int .i64 P, .int .i64 Q, .int .i64 G] 24)).alloc (.cells #[.slice p1 d.c.length p2, .slice r1 d.s.length r2] 42)).alloc (.cells #[.slice none 0 0, .slice none 0 0] 42)) = W := ⟨_, rfl⟩
  rw [hv0] at G_0 D_0 Z_0 HB_0 HS3
  obtain ⟨gG0, gG1, gG2⟩ := G_0.out
  obtain ⟨e0, e1, _⟩ := D_0.out
  clear hd ho hci hsi hce hsr hor hg9 hiv
  go_enter Try.func134, Try.ntmps134
  go_wp2_with fail
  clear hv0
  refine (sBad_any P Q G HGD.out p1 r1 p2 r2 d.c d.s (by omega) HCE.out hs7 HSR.out (inI_ints (HCI.out.below HB_0.out)) (inI_ints (HSI.out.below HB_0.out))).mono ?_
  rw [show bdL P Q G d.c d.s d.s.length = badL P Q G d from rfl]
  rintro e w2 ⟨bv, rfl, hob, hb2⟩
  have HBR := Lib.hid (fun z (hz : z ∈ badL P Q G d) => badL_range hz)
  have hbl7 := badL_le P Q G d
  have HMD := Lib.hid (mdB_true (P := P) (Q := Q) (G := G) (d := d) (own := own))
  have HMV := Lib.hid (show mdV P Q G d own = ⟨d.c, putL d.s (badL P Q G d) own⟩ from rfl)
  generalize badL P Q G d = bad at *
  obtain ⟨ba1, bc1, rfl⟩ := own_shape hob.1
  have HB_2 := Lib.hid (bt HB_0.out hb2)
  have G_2 := Lib.hid (G_0.out.below hb2)
  have D_2 := Lib.hid (D_0.out.below hb2)
  have Z_2 := Lib.hid (Z_0.out.below hb2)
  have BD_2 := Lib.hid hob.toIn
  have hw2 : w.heap.size + 3 ≤ w2.heap.size := Nat.le_trans HS3 hb2.size
  clear hob hb2 gG0 gG1 gG2 e0 e1
  obtain ⟨e0, e1, _⟩ := D_2.out
  have HZ9 := Z_2
  by_cases hA : d.c.length ≤ bad.length
  · have HMF := Lib.hid (show mdB P Q G d own = false by rw [← Bool.not_eq_true, HMD.out]; omega)
    obtain ⟨y0, y1, yf⟩ := HZ9.out
    have yf0 := yf 0
    have yf1 := yf 1
    clear yf
    go_wp2
    (try simp only [Exit.inBlock, Exit.then])
    refine bodyPost_ret (v := .tuple #[.agg #[.slice p1 d.c.length p2, .slice r1 d.s.length r2], .bool false]) ?_ rfl ?_
    · rw [results_cell_tmp rfl]; go_simp
    · have hm5 := mid_two7 w2 (w.heap.size + 2) (.slice p1 d.c.length p2) (.slice r1 d.s.length r2)
      rw [HMF.out]
      exact ⟨_, _, _, _, _, _, rfl, (fun h => by cases h), HB_2.out.trans (hm5.toBelow (by omega) HB_2.out.size)⟩
  by_cases hBn : own.length = bad.length
  case neg =>
    have HMF := Lib.hid (show mdB P Q G d own = false by rw [← Bool.not_eq_true, HMD.out]; omega)
    have hne : ((own.length : Int) != (bad.length : Int)) = true := neq_len hBn
    clear hBn
    obtain ⟨y0, y1, yf⟩ := HZ9.out
    have yf0 := yf 0
    have yf1 := yf 1
    clear yf
    go_wp2
    (try simp only [Exit.inBlock, Exit.then])
    refine bodyPost_ret (v := .tuple #[.agg #[.slice p1 d.c.length p2, .slice r1 d.s.length r2], .bool false]) ?_ rfl ?_
    · rw [results_cell_tmp rfl]; go_simp
    · have hm5 := mid_two7 w2 (w.heap.size + 2) (.slice p1 d.c.length p2) (.slice r1 d.s.length r2)
      rw [HMF.out]
      exact ⟨_, _, _, _, _, _, rfl, (fun h => by cases h), HB_2.out.trans (hm5.toBelow (by omega) HB_2.out.size)⟩
  have hne : ((own.length : Int) != (bad.length : Int)) = false := eq_len hBn
  have HBN := Lib.hid hBn
  have CC_2 := Lib.hid (show LZ w2 p1 d.c from inI_ints (HCI.out.below HB_2.out))
  have CS_2 := Lib.hid (show LZ w2 r1 d.s from inI_ints (HSI.out.below HB_2.out))
  have E_2 := D_2
  have LE := Lib.hid (show w.heap.size + 1 < w2.heap.size by omega)
  have LO_2 := Lib.hid (show BZ w2 w2 from Below.refl _ _)
  clear hBn
  go_upto_region 4 with fail
  clear e0 e1
  go_cut [9] (fun s1 wx => ∃ (b : Nat) (va : Option Addr) (vc : Nat) (vb : Option Addr) (vd : Nat), s1 = .pointer (some ⟨b, 0, none⟩) ∧ SumB w2 wx b (.slice va d.c.length vc) (.slice vb d.s.length vd) d)
  case first =>
    have hbd : Below w2.heap.size w2 w2.drew := (Below.refl _ w2).drew
    have HB_s := Lib.hid (bt HB_2.out hbd)
    have E_s := Lib.hid (E_2.out.below hbd)
    have CC_s := Lib.hid (CC_2.out.below hbd)
    have CS_s := Lib.hid (CS_2.out.below hbd)
    have LO_s := Lib.hid (LO_2.out.below hbd)
    clear hbd
    refine wp_region_held_drew (S := (fun w' => w'.cell? ⟨w.heap.size + 1, 0, none⟩ = some (.slice p1 d.c.length p2) ∧ w'.cell? ⟨w.heap.size + 1, 1, none⟩ = some (.slice r1 d.s.length r2))) (by kernel_rfl) (show _ from ⟨E_2.out.1, E_2.out.2.1⟩) (fun hHeld => ?_)
    generalize hW0 : w2.drew = Ws at *
    clear hW0
    refine wpAnyH_take (i := 0) (v := ?_) rfl (by kernel_rfl) (by kernel_rfl) (by kernel_rfl) (fun _ _ _ h => h) (Or.inl ⟨by kernel_rfl, ?_⟩) (by assumption) ?_
    rotate_left 1
    · intro w9 hSw
      try dsimp only at hSw
      go_simp
      try with_reducible rfl
    try simp only [Act.put, List.getElem_toArray, List.getElem_cons_succ, List.getElem_cons_zero, List.setIfInBounds_toArray, List.set_cons_zero, List.set_cons_succ]
    refine wpAnyH_take (i := 1) (v := ?_) rfl (by kernel_rfl) (by kernel_rfl) (by kernel_rfl) (fun _ _ _ h => h) (Or.inl ⟨by kernel_rfl, ?_⟩) (by assumption) ?_
    rotate_left 1
    · intro w9 hSw
      try dsimp only at hSw
      go_simp
      try with_reducible rfl
    try simp only [Act.put, List.getElem_toArray, List.getElem_cons_succ, List.getElem_cons_zero, List.setIfInBounds_toArray, List.set_cons_zero, List.set_cons_succ]
    refine wpAnyH_take (i := 3) (v := ?_) rfl (by kernel_rfl) (by kernel_rfl) (by kernel_rfl) (fun _ _ _ h => h) (Or.inl ⟨by kernel_rfl, ?_⟩) (by assumption) ?_
    rotate_left 1
    · intro w9 hSw
      try dsimp only at hSw
      go_simp
      try with_reducible rfl
    try simp only [Act.put, List.getElem_toArray, List.getElem_cons_succ, List.getElem_cons_zero, List.setIfInBounds_toArray, List.set_cons_zero, List.set_cons_succ]
    refine wpAnyH_take (i := 4) (v := ?_) rfl (by kernel_rfl) (by kernel_rfl) (by kernel_rfl) (fun _ _ _ h => h) (Or.inl ⟨by kernel_rfl, ?_⟩) (by assumption) ?_
    rotate_left 1
    · intro w9 hSw
      try dsimp only at hSw
      go_simp
      try with_reducible rfl
    try simp only [Act.put, List.getElem_toArray, List.getElem_cons_succ, List.getElem_cons_zero, List.setIfInBounds_toArray, List.set_cons_zero, List.set_cons_succ]
    refine wpAnyH_ready (rs := [2, 7]) (by kernel_rfl) (by simp) ?_
    refine AllReadyH.cons rfl (fun K hK => ?_) (AllReadyH.cons rfl (fun K hK => ?_) (AllReadyH.nil))
    · go_simp
      (first | have LBC := Lib.hid Z2_s.out.lt | skip)
      have LC := Lib.hid LO_s.out.size
      go_at_call 123
      refine (l1OwnD_any p1 d.c.length p2 d.c rfl (by omega) (inI_nilc HCI.out) _ (show IsInts _ _ _ from CC_s.out)).mono ?_
      rintro e' Wsc ⟨vx, rfl, ho, hb⟩
      obtain ⟨va, vc, rfl⟩ := own_shape ho.1
      have HB_sc := Lib.hid (bt HB_s.out hb)
      have E_sc := Lib.hid (E_s.out.below hb)
      have CC_sc := Lib.hid (CC_s.out.below hb)
      have CS_sc := Lib.hid (CS_s.out.below hb)
      have LO_sc := Lib.hid (LO_s.out.below hb)
      have OC_sc := Lib.hid ho
      clear ho
      clear hb
      go_wp2_with fail
      refine hK.out _ _ (show _ from ⟨E_sc.out.1, E_sc.out.2.1⟩) (fun hHeld => ?_)
      clear hK K
      try simp only [Act.put, List.getElem_toArray, List.getElem_cons_succ, List.getElem_cons_zero, List.setIfInBounds_toArray, List.set_cons_zero, List.set_cons_succ]
      refine wpAnyH_ready (rs := [5, 7]) (by kernel_rfl) (by simp) ?_
      refine AllReadyH.cons rfl (fun K hK => ?_) (AllReadyH.cons rfl (fun K hK => ?_) (AllReadyH.nil))
      · go_simp
        (first | have LBS := Lib.hid Z2_sc.out.lt | skip)
        have LS := Lib.hid LO_sc.out.size
        have LCS := Lib.hid OC_sc.out.toIn.le
        go_at_call 123
        refine (l1OwnD_any r1 d.s.length r2 d.s rfl (by omega) (inI_nilc HSI.out) _ (show IsInts _ _ _ from CS_sc.out)).mono ?_
        rintro e' Wscf ⟨vx, rfl, ho, hb⟩
        obtain ⟨vb, vd, rfl⟩ := own_shape ho.1
        have HB_scf := Lib.hid (bt HB_sc.out hb)
        have E_scf := Lib.hid (E_sc.out.below hb)
        have CC_scf := Lib.hid (CC_sc.out.below hb)
        have CS_scf := Lib.hid (CS_sc.out.below hb)
        have LO_scf := Lib.hid (LO_sc.out.below hb)
        have OC_scf := Lib.hid (OC_sc.out.below hb)
        have OS_scf := Lib.hid ho
        clear ho
        clear hb
        go_wp2_with fail
        refine hK.out _ _ (show _ from ⟨E_scf.out.1, E_scf.out.2.1⟩) (fun hHeld => ?_)
        clear hK K
        try simp only [Act.put, List.getElem_toArray, List.getElem_cons_succ, List.getElem_cons_zero, List.setIfInBounds_toArray, List.set_cons_zero, List.set_cons_succ]
        refine wpAnyH_take (i := 6) (v := ?_) rfl (by kernel_rfl) (by kernel_rfl) (by kernel_rfl) (fun _ _ _ h => h) (Or.inl ⟨by kernel_rfl, ?_⟩) (by assumption) ?_
        rotate_left 1
        · intro w9 hSw
          try dsimp only at hSw
          go_simp
          try with_reducible rfl
        try simp only [Act.put, List.getElem_toArray, List.getElem_cons_succ, List.getElem_cons_zero, List.setIfInBounds_toArray, List.set_cons_zero, List.set_cons_succ]
        refine wpAnyH_ready (rs := [7]) (by kernel_rfl) (by simp) ?_
        refine AllReadyH.cons rfl (fun K hK => ?_) (AllReadyH.nil)
        go_simp
        have hb := ba Wscf (.cells #[.slice none 0 0, .slice none 0 0] 42)
        have HB_scfh := Lib.hid (bt HB_scf.out hb)
        have E_scfh := Lib.hid (E_scf.out.below hb)
        have CC_scfh := Lib.hid (CC_scf.out.below hb)
        have CS_scfh := Lib.hid (CS_scf.out.below hb)
        have LO_scfh := Lib.hid (LO_scf.out.below hb)
        have OC_scfh := Lib.hid (OC_scf.out.below hb)
        have OS_scfh := Lib.hid (OS_scf.out.below hb)
        have Z2_scfh := Lib.hid (show VD2 (Wscf.alloc (.cells #[.slice none 0 0, .slice none 0 0] 42)) Wscf.heap.size (.slice none 0 0) (.slice none 0 0) from v2_at Wscf Wscf.heap.size rfl _ _ 42)
        have LB := Lib.hid (show w2.heap.size ≤ Wscf.heap.size from LO_scf.out.size)
        (first | have LBD := Lib.hid OC_scf.out.toIn.le | skip)
        (first | have LBT := Lib.hid OS_scf.out.toIn.le | skip)
        clear hb
        refine hK.out _ _ (show _ from ⟨E_scfh.out.1, E_scfh.out.2.1⟩) (fun hHeld => ?_)
        clear hK K
        try simp only [Act.put, List.getElem_toArray, List.getElem_cons_succ, List.getElem_cons_zero, List.setIfInBounds_toArray, List.set_cons_zero, List.set_cons_succ]
        generalize hW9 : Wscf.alloc (.cells #[.slice none 0 0, .slice none 0 0] 42) = Wscfh at *
        clear hW9
        have BX := Lib.hid (show SumB w2 _ (Wscf.heap.size) (.slice va d.c.length vc) (.slice vb d.s.length vd) d from sumB_mk OC_scfh.out OS_scfh.out LCS.out Z2_scfh.out (by first | exact .inl LBC.out | exact .inr LBD.out) (by first | exact .inl LBS.out | exact .inr LBT.out) LC.out LB.out LO_scfh.out)
        refine wpAnyH_ready (rs := [8]) (by kernel_rfl) (by simp) ?_
        refine AllReadyH.cons rfl (fun K hK => ?_) AllReadyH.nil
        obtain ⟨y0, y1, yf⟩ := Z2_scfh.out
        have yf0 := yf 0
        have yf1 := yf 1
        clear yf
        go_simp
        have E_y := Lib.hid ((E_scfh.out.mid (mid_two7 _ (Wscf.heap.size) (.slice va d.c.length vc) (.slice vb d.s.length vd)) (.inl (by have := LE.out; have := LB.out; omega))))
        refine hK.out _ _ (show _ from ⟨E_y.out.1, E_y.out.2.1⟩) (fun hHeld => ?_)
        clear hK K
        try simp only [Act.put, List.getElem_toArray, List.getElem_cons_succ, List.getElem_cons_zero, List.setIfInBounds_toArray, List.set_cons_zero, List.set_cons_succ]
        refine wpAnyH_done (by kernel_rfl) ?_ _
        go_wp2_with fail
        go_meet
        exact ⟨_, _, _, _, _, rfl, BX.out⟩
      · go_simp
        have hb := ba Wsc (.cells #[.slice none 0 0, .slice none 0 0] 42)
        have HB_sch := Lib.hid (bt HB_sc.out hb)
        have E_sch := Lib.hid (E_sc.out.below hb)
        have CC_sch := Lib.hid (CC_sc.out.below hb)
        have CS_sch := Lib.hid (CS_sc.out.below hb)
        have LO_sch := Lib.hid (LO_sc.out.below hb)
        have OC_sch := Lib.hid (OC_sc.out.below hb)
        have Z2_sch := Lib.hid (show VD2 (Wsc.alloc (.cells #[.slice none 0 0, .slice none 0 0] 42)) Wsc.heap.size (.slice none 0 0) (.slice none 0 0) from v2_at Wsc Wsc.heap.size rfl _ _ 42)
        have LB := Lib.hid (show w2.heap.size ≤ Wsc.heap.size from LO_sc.out.size)
        (first | have LBD := Lib.hid OC_sc.out.toIn.le | skip)
        (first | have LBT := Lib.hid OS_sc.out.toIn.le | skip)
        clear hb
        refine hK.out _ _ (show _ from ⟨E_sch.out.1, E_sch.out.2.1⟩) (fun hHeld => ?_)
        clear hK K
        try simp only [Act.put, List.getElem_toArray, List.getElem_cons_succ, List.getElem_cons_zero, List.setIfInBounds_toArray, List.set_cons_zero, List.set_cons_succ]
        generalize hW9 : Wsc.alloc (.cells #[.slice none 0 0, .slice none 0 0] 42) = Wsch at *
        clear hW9
        refine wpAnyH_ready (rs := [5]) (by kernel_rfl) (by simp) ?_
        refine AllReadyH.cons rfl (fun K hK => ?_) (AllReadyH.nil)
        go_simp
        (first | have LBS := Lib.hid Z2_sch.out.lt | skip)
        have LS := Lib.hid LO_sch.out.size
        have LCS := Lib.hid OC_sch.out.toIn.le
        go_at_call 123
        refine (l1OwnD_any r1 d.s.length r2 d.s rfl (by omega) (inI_nilc HSI.out) _ (show IsInts _ _ _ from CS_sch.out)).mono ?_
        rintro e' Wschf ⟨vx, rfl, ho, hb⟩
        obtain ⟨vb, vd, rfl⟩ := own_shape ho.1
        have HB_schf := Lib.hid (bt HB_sch.out hb)
        have E_schf := Lib.hid (E_sch.out.below hb)
        have CC_schf := Lib.hid (CC_sch.out.below hb)
        have CS_schf := Lib.hid (CS_sch.out.below hb)
        have LO_schf := Lib.hid (LO_sch.out.below hb)
        have OC_schf := Lib.hid (OC_sch.out.below hb)
        have Z2_schf := Lib.hid (Z2_sch.out.below hb)
        have OS_schf := Lib.hid ho
        clear ho
        clear hb
        go_wp2_with fail
        refine hK.out _ _ (show _ from ⟨E_schf.out.1, E_schf.out.2.1⟩) (fun hHeld => ?_)
        clear hK K
        try simp only [Act.put, List.getElem_toArray, List.getElem_cons_succ, List.getElem_cons_zero, List.setIfInBounds_toArray, List.set_cons_zero, List.set_cons_succ]
        refine wpAnyH_take (i := 6) (v := ?_) rfl (by kernel_rfl) (by kernel_rfl) (by kernel_rfl) (fun _ _ _ h => h) (Or.inl ⟨by kernel_rfl, ?_⟩) (by assumption) ?_
        rotate_left 1
        · intro w9 hSw
          try dsimp only at hSw
          go_simp
          try with_reducible rfl
        try simp only [Act.put, List.getElem_toArray, List.getElem_cons_succ, List.getElem_cons_zero, List.setIfInBounds_toArray, List.set_cons_zero, List.set_cons_succ]
        have BX := Lib.hid (show SumB w2 _ (Wsc.heap.size) (.slice va d.c.length vc) (.slice vb d.s.length vd) d from sumB_mk OC_schf.out OS_schf.out LCS.out Z2_schf.out (by first | exact .inl LBC.out | exact .inr LBD.out) (by first | exact .inl LBS.out | exact .inr LBT.out) LC.out LB.out LO_schf.out)
        refine wpAnyH_ready (rs := [8]) (by kernel_rfl) (by simp) ?_
        refine AllReadyH.cons rfl (fun K hK => ?_) AllReadyH.nil
        obtain ⟨y0, y1, yf⟩ := Z2_schf.out
        have yf0 := yf 0
        have yf1 := yf 1
        clear yf
        go_simp
        have E_y := Lib.hid ((E_schf.out.mid (mid_two7 _ (Wsc.heap.size) (.slice va d.c.length vc) (.slice vb d.s.length vd)) (.inl (by have := LE.out; have := LB.out; omega))))
        refine hK.out _ _ (show _ from ⟨E_y.out.1, E_y.out.2.1⟩) (fun hHeld => ?_)
        clear hK K
        try simp only [Act.put, List.getElem_toArray, List.getElem_cons_succ, List.getElem_cons_zero, List.setIfInBounds_toArray, List.set_cons_zero, List.set_cons_succ]
        refine wpAnyH_done (by kernel_rfl) ?_ _
        go_wp2_with fail
        go_meet
        exact ⟨_, _, _, _, _, rfl, BX.out⟩
    · go_simp
      have hb := ba Ws (.cells #[.slice none 0 0, .slice none 0 0] 42)
      have HB_sh := Lib.hid (bt HB_s.out hb)
      have E_sh := Lib.hid (E_s.out.below hb)
      have CC_sh := Lib.hid (CC_s.out.below hb)
      have CS_sh := Lib.hid (CS_s.out.below hb)
      have LO_sh := Lib.hid (LO_s.out.below hb)
      have Z2_sh := Lib.hid (show VD2 (Ws.alloc (.cells #[.slice none 0 0, .slice none 0 0] 42)) Ws.heap.size (.slice none 0 0) (.slice none 0 0) from v2_at Ws Ws.heap.size rfl _ _ 42)
      have LB := Lib.hid (show w2.heap.size ≤ Ws.heap.size from LO_s.out.size)
      (first | have LBD := Lib.hid OC_s.out.toIn.le | skip)
      (first | have LBT := Lib.hid OS_s.out.toIn.le | skip)
      clear hb
      refine hK.out _ _ (show _ from ⟨E_sh.out.1, E_sh.out.2.1⟩) (fun hHeld => ?_)
      clear hK K
      try simp only [Act.put, List.getElem_toArray, List.getElem_cons_succ, List.getElem_cons_zero, List.setIfInBounds_toArray, List.set_cons_zero, List.set_cons_succ]
      generalize hW9 : Ws.alloc (.cells #[.slice none 0 0, .slice none 0 0] 42) = Wsh at *
      clear hW9
      refine wpAnyH_ready (rs := [2]) (by kernel_rfl) (by simp) ?_
      refine AllReadyH.cons rfl (fun K hK => ?_) (AllReadyH.nil)
      go_simp
      (first | have LBC := Lib.hid Z2_sh.out.lt | skip)
      have LC := Lib.hid LO_sh.out.size
      go_at_call 123
      refine (l1OwnD_any p1 d.c.length p2 d.c rfl (by omega) (inI_nilc HCI.out) _ (show IsInts _ _ _ from CC_sh.out)).mono ?_
      rintro e' Wshc ⟨vx, rfl, ho, hb⟩
      obtain ⟨va, vc, rfl⟩ := own_shape ho.1
      have HB_shc := Lib.hid (bt HB_sh.out hb)
      have E_shc := Lib.hid (E_sh.out.below hb)
      have CC_shc := Lib.hid (CC_sh.out.below hb)
      have CS_shc := Lib.hid (CS_sh.out.below hb)
      have LO_shc := Lib.hid (LO_sh.out.below hb)
      have Z2_shc := Lib.hid (Z2_sh.out.below hb)
      have OC_shc := Lib.hid ho
      clear ho
      clear hb
      go_wp2_with fail
      refine hK.out _ _ (show _ from ⟨E_shc.out.1, E_shc.out.2.1⟩) (fun hHeld => ?_)
      clear hK K
      try simp only [Act.put, List.getElem_toArray, List.getElem_cons_succ, List.getElem_cons_zero, List.setIfInBounds_toArray, List.set_cons_zero, List.set_cons_succ]
      refine wpAnyH_ready (rs := [5]) (by kernel_rfl) (by simp) ?_
      refine AllReadyH.cons rfl (fun K hK => ?_) (AllReadyH.nil)
      go_simp
      (first | have LBS := Lib.hid Z2_shc.out.lt | skip)
      have LS := Lib.hid LO_shc.out.size
      have LCS := Lib.hid OC_shc.out.toIn.le
      go_at_call 123
      refine (l1OwnD_any r1 d.s.length r2 d.s rfl (by omega) (inI_nilc HSI.out) _ (show IsInts _ _ _ from CS_shc.out)).mono ?_
      rintro e' Wshcf ⟨vx, rfl, ho, hb⟩
      obtain ⟨vb, vd, rfl⟩ := own_shape ho.1
      have HB_shcf := Lib.hid (bt HB_shc.out hb)
      have E_shcf := Lib.hid (E_shc.out.below hb)
      have CC_shcf := Lib.hid (CC_shc.out.below hb)
      have CS_shcf := Lib.hid (CS_shc.out.below hb)
      have LO_shcf := Lib.hid (LO_shc.out.below hb)
      have Z2_shcf := Lib.hid (Z2_shc.out.below hb)
      have OC_shcf := Lib.hid (OC_shc.out.below hb)
      have OS_shcf := Lib.hid ho
      clear ho
      clear hb
      go_wp2_with fail
      refine hK.out _ _ (show _ from ⟨E_shcf.out.1, E_shcf.out.2.1⟩) (fun hHeld => ?_)
      clear hK K
      try simp only [Act.put, List.getElem_toArray, List.getElem_cons_succ, List.getElem_cons_zero, List.setIfInBounds_toArray, List.set_cons_zero, List.set_cons_succ]
      refine wpAnyH_take (i := 6) (v := ?_) rfl (by kernel_rfl) (by kernel_rfl) (by kernel_rfl) (fun _ _ _ h => h) (Or.inl ⟨by kernel_rfl, ?_⟩) (by assumption) ?_
      rotate_left 1
      · intro w9 hSw
        try dsimp only at hSw
        go_simp
        try with_reducible rfl
      try simp only [Act.put, List.getElem_toArray, List.getElem_cons_succ, List.getElem_cons_zero, List.setIfInBounds_toArray, List.set_cons_zero, List.set_cons_succ]
      have BX := Lib.hid (show SumB w2 _ (Ws.heap.size) (.slice va d.c.length vc) (.slice vb d.s.length vd) d from sumB_mk OC_shcf.out OS_shcf.out LCS.out Z2_shcf.out (by first | exact .inl LBC.out | exact .inr LBD.out) (by first | exact .inl LBS.out | exact .inr LBT.out) LC.out LB.out LO_shcf.out)
      refine wpAnyH_ready (rs := [8]) (by kernel_rfl) (by simp) ?_
      refine AllReadyH.cons rfl (fun K hK => ?_) AllReadyH.nil
      obtain ⟨y0, y1, yf⟩ := Z2_shcf.out
      have yf0 := yf 0
      have yf1 := yf 1
      clear yf
      go_simp
      have E_y := Lib.hid ((E_shcf.out.mid (mid_two7 _ (Ws.heap.size) (.slice va d.c.length vc) (.slice vb d.s.length vd)) (.inl (by have := LE.out; have := LB.out; omega))))
      refine hK.out _ _ (show _ from ⟨E_y.out.1, E_y.out.2.1⟩) (fun hHeld => ?_)
      clear hK K
      try simp only [Act.put, List.getElem_toArray, List.getElem_cons_succ, List.getElem_cons_zero, List.setIfInBounds_toArray, List.set_cons_zero, List.set_cons_succ]
      refine wpAnyH_done (by kernel_rfl) ?_ _
      go_wp2_with fail
      go_meet
      exact ⟨_, _, _, _, _, rfl, BX.out⟩
  case rest =>
    obtain ⟨b, va, vc, vb, vd, rfl, hsb⟩ := hcut
    obtain ⟨Q0, M0, N0, P0, hs1, hs2, hMN, hs3, hbQ, hbN, hvQ, hvb, hs4⟩ := hsb
    have SC0 := Lib.hid (show SumC w2 _ b Q0 M0 N0 P0 (.slice va d.c.length vc) (.slice vb d.s.length vd) d from ⟨hs1, hs2, hs3, hs4⟩)
    have HNUM := Lib.hid (And.intro hMN (And.intro hbQ (And.intro hbN (And.intro hvQ hvb))))
    clear hs1 hs2 hs3 hs4 hMN hbQ hbN hvQ hvb
    go_wp2_with fail
    go_loopw [10, 11, 38] (fun _ _ J wr => ∃ (j : Nat) (cur : List Int), j ≤ bad.length ∧ J = .int .i64 j ∧ fitsL P Q G d.c bad own = fitsL P Q G d.c (bad.drop j) (own.drop j) ∧ putL d.s bad own = putL cur (bad.drop j) (own.drop j) ∧ cur.length = d.s.length ∧ SumC w2 wr b Q0 M0 N0 P0 (.slice va d.c.length vc) (.slice vb d.s.length vd) ⟨d.c, cur⟩) (fun _ _ J _ => bad.length - (intOf J).toNat)
    case atStart => exact ⟨0, d.s, Nat.zero_le _, rfl, by simp, by simp, rfl, SC0.out⟩
    case round =>
      obtain ⟨j, cur, hj9, rfl, hfl, hpl, hcl, hsc⟩ := hrel
      have HCL := Lib.hid hcl
      have HFL := Lib.hid hfl
      have HPL := Lib.hid hpl
      have SC_r := Lib.hid hsc
      have HB_r := Lib.hid (bt HB_2.out hsc.2.2.2)
      have G_r := Lib.hid (G_2.out.below hsc.2.2.2)
      have D_r := Lib.hid (D_2.out.below hsc.2.2.2)
      have Z_r := Lib.hid (Z_2.out.below hsc.2.2.2)
      have BD_r := Lib.hid (BD_2.out.below hsc.2.2.2)
      have hw2r := hsc.2.2.2.size
      clear hcl hfl hpl hsc SC0
      by_cases hjn : j < bad.length
      · obtain ⟨bb, bo, i, rfl, hbb, hbx, hbd⟩ := (show IsInts wr ba1 bad from inI_ints BD_r.out).at (k := j) hjn
        obtain ⟨hi1, hi2⟩ := HBR.out i (mem_drop hbd)
        have hjo : j < own.length := by have := HBN.out; omega
        obtain ⟨ob, oo, x, rfl, hob, hoxx, hoxd⟩ := (show IsInts wr o1 own from inI_ints (HOI.out.below HB_r.out)).at (k := j) hjo
        obtain ⟨hx0, hx1⟩ := HOR.out x (mem_drop hoxd)
        have HFS := Lib.hid (fits_step (P := P) (Q := Q) (G := G) (cs := d.c) hbd hoxd)
        have HPS := Lib.hid (put_step (cur := cur) hbd hoxd)
        have X_r := Lib.hid (show C0x wr ⟨ob, oo + j, none⟩ x from hoxx)
        clear hbd hoxd
        cases hf : fitB P Q G d.c i x
        · have HF := Lib.hid hf
          have HMF := Lib.hid (show mdB P Q G d own = false by rw [← Bool.not_eq_true, HMD.out, HFL.out, HFS.out, hf]; simp)
          clear hf
          go_wp2_with fail
          refine wp_region_held_drew (S := (fun w' => (w'.cell? ⟨w.heap.size, 0, none⟩ = some (.int .i64 P) ∧ w'.cell? ⟨w.heap.size, 1, none⟩ = some (.int .i64 Q) ∧ w'.cell? ⟨w.heap.size, 2, none⟩ = some (.int .i64 G)) ∧ (w'.cell? ⟨w.heap.size + 1, 0, none⟩ = some (.slice p1 d.c.length p2) ∧ w'.cell? ⟨w.heap.size + 1, 1, none⟩ = some (.slice r1 d.s.length r2)) ∧ w'.cell? ⟨ob, oo + j, none⟩ = some (.int .i64 x))) (by kernel_rfl) (by first | exact ⟨G_r.out, ⟨D_r.out.1, D_r.out.2.1⟩, X_r.out⟩ | (dsimp only; exact ⟨G_r.out, ⟨D_r.out.1, D_r.out.2.1⟩, X_r.out⟩)) (fun hHeld => ?_)
          refine wpAnyH_take (i := 0) (v := ?_) rfl (by kernel_rfl) (by kernel_rfl) (by kernel_rfl) (fun _ _ _ h => h) (Or.inl ⟨by kernel_rfl, ?_⟩) (by assumption) ?_
          rotate_left 1
          · intro w hSw
            try dsimp only at hSw
            go_simp
            try with_reducible rfl
          try simp only [Act.put, List.getElem_toArray, List.getElem_cons_succ, List.getElem_cons_zero, List.setIfInBounds_toArray, List.set_cons_zero, List.set_cons_succ]
          refine wpAnyH_take (i := 1) (v := ?_) rfl (by kernel_rfl) (by kernel_rfl) (by kernel_rfl) (fun _ _ _ h => h) (Or.inl ⟨by kernel_rfl, ?_⟩) (by assumption) ?_
          rotate_left 1
          · intro w hSw
            try dsimp only at hSw
            go_simp
            try with_reducible rfl
          try simp only [Act.put, List.getElem_toArray, List.getElem_cons_succ, List.getElem_cons_zero, List.setIfInBounds_toArray, List.set_cons_zero, List.set_cons_succ]
          refine wpAnyH_take (i := 2) (v := ?_) rfl (by kernel_rfl) (by kernel_rfl) (by kernel_rfl) (fun _ _ _ h => h) (Or.inl ⟨by kernel_rfl, ?_⟩) (by assumption) ?_
          rotate_left 1
          · intro w hSw
            try dsimp only at hSw
            go_simp
            try with_reducible rfl
          try simp only [Act.put, List.getElem_toArray, List.getElem_cons_succ, List.getElem_cons_zero, List.setIfInBounds_toArray, List.set_cons_zero, List.set_cons_succ]
          refine wpAnyH_take (i := 3) (v := ?_) rfl (by kernel_rfl) (by kernel_rfl) (by kernel_rfl) (fun _ _ _ h => h) (Or.inl ⟨by kernel_rfl, ?_⟩) (by assumption) ?_
          rotate_left 1
          · intro w hSw
            try dsimp only at hSw
            go_simp
            try with_reducible rfl
          try simp only [Act.put, List.getElem_toArray, List.getElem_cons_succ, List.getElem_cons_zero, List.setIfInBounds_toArray, List.set_cons_zero, List.set_cons_succ]
          refine wpAnyH_take (i := 4) (v := ?_) rfl (by kernel_rfl) (by kernel_rfl) (by kernel_rfl) (fun _ _ _ h => h) (Or.inl ⟨by kernel_rfl, ?_⟩) (by assumption) ?_
          rotate_left 1
          · intro w hSw
            try dsimp only at hSw
            go_simp
            try with_reducible rfl
          try simp only [Act.put, List.getElem_toArray, List.getElem_cons_succ, List.getElem_cons_zero, List.setIfInBounds_toArray, List.set_cons_zero, List.set_cons_succ]
          refine wpAnyH_take (i := 5) (v := ?_) rfl (by kernel_rfl) (by kernel_rfl) (by kernel_rfl) (fun _ _ _ h => h) (Or.inl ⟨by kernel_rfl, ?_⟩) (by assumption) ?_
          rotate_left 1
          · intro w hSw
            try dsimp only at hSw
            go_simp
            try with_reducible rfl
          try simp only [Act.put, List.getElem_toArray, List.getElem_cons_succ, List.getElem_cons_zero, List.setIfInBounds_toArray, List.set_cons_zero, List.set_cons_succ]
          refine wpAnyH_take (i := 6) (v := ?_) rfl (by kernel_rfl) (by kernel_rfl) (by kernel_rfl) (fun _ _ _ h => h) (Or.inl ⟨by kernel_rfl, ?_⟩) (by assumption) ?_
          rotate_left 1
          · intro w hSw
            try dsimp only at hSw
            go_simp
            try with_reducible rfl
          try simp only [Act.put, List.getElem_toArray, List.getElem_cons_succ, List.getElem_cons_zero, List.setIfInBounds_toArray, List.set_cons_zero, List.set_cons_succ]
          refine wpAnyH_take (i := 7) (v := ?_) rfl (by kernel_rfl) (by kernel_rfl) (by kernel_rfl) (fun _ _ _ h => h) (Or.inl ⟨by kernel_rfl, ?_⟩) (by assumption) ?_
          rotate_left 1
          · intro w hSw
            try dsimp only at hSw
            go_simp
            try with_reducible rfl
          try simp only [Act.put, List.getElem_toArray, List.getElem_cons_succ, List.getElem_cons_zero, List.setIfInBounds_toArray, List.set_cons_zero, List.set_cons_succ]
          refine wpAnyH_ready (rs := [8]) (by kernel_rfl) (by simp) ?_
          refine AllReadyH.cons rfl (fun K hK => ?_) AllReadyH.nil
          go_simp
          have hbd : Below wr.heap.size wr wr.drew := (Below.refl _ wr).drew
          have C_d := Lib.hid (HCI.out.below (bt HB_r.out hbd))
          go_at_call 128
          refine (sFits_any P Q G i x HGD.out (by omega) (by omega) ⟨hx0, hx1⟩ p1 d.c.length p2 d.c rfl (by omega) HCE.out _ (inI_ints C_d.out)).mono ?_
          rw [HF.out]
          rintro e' wf ⟨rfl, hbf0⟩
          have hbf := bt hbd hbf0
          clear hbd hbf0 C_d
          have G_s := Lib.hid (G_r.out.below hbf)
          have D_s := Lib.hid (D_r.out.below hbf)
          have X_s := Lib.hid (X_r.out.below hbf)
          have Z_s := Lib.hid (Z_r.out.below hbf)
          have SC_s := Lib.hid (SC_r.out.below hbf)
          have HB_s := Lib.hid (bt HB_r.out hbf)
          clear hbf
          refine hK.out _ _ (by first | exact ⟨G_s.out, ⟨D_s.out.1, D_s.out.2.1⟩, X_s.out⟩ | (dsimp only; exact ⟨G_s.out, ⟨D_s.out.1, D_s.out.2.1⟩, X_s.out⟩)) (fun hHeld => ?_)
          clear hK K
          try simp only [Act.put, List.getElem_toArray, List.getElem_cons_succ, List.getElem_cons_zero, List.setIfInBounds_toArray, List.set_cons_zero, List.set_cons_succ]
          refine wpAnyH_take (i := 9) (v := ?_) rfl (by kernel_rfl) (by kernel_rfl) (by kernel_rfl) (fun _ _ _ h => h) (Or.inl ⟨by kernel_rfl, ?_⟩) (by assumption) ?_
          rotate_left 1
          · intro w hSw
            try dsimp only at hSw
            go_simp
            try with_reducible rfl
          try simp only [Act.put, List.getElem_toArray, List.getElem_cons_succ, List.getElem_cons_zero, List.setIfInBounds_toArray, List.set_cons_zero, List.set_cons_succ]
          refine wpAnyH_done (by kernel_rfl) ?_ _
          clear hHeld
          obtain ⟨e0, e1, _⟩ := D_s.out
          obtain ⟨y0, y1, yf⟩ := Z_s.out
          have yf0 := yf 0
          have yf1 := yf 1
          clear yf
          go_wp2
          (try simp only [Exit.inBlock, Exit.then])
          refine bodyPost_ret (v := .tuple #[.agg #[.slice p1 d.c.length p2, .slice r1 d.s.length r2], .bool false]) ?_ rfl ?_
          · rw [results_cell_tmp rfl]; go_simp
          · have hm5 := mid_two7 wf (w.heap.size + 2) (.slice p1 d.c.length p2) (.slice r1 d.s.length r2)
            rw [HMF.out]
            exact ⟨_, _, _, _, _, _, rfl, (fun h => by cases h), HB_s.out.trans (hm5.toBelow (by omega) HB_s.out.size)⟩
        · have HF := Lib.hid hf
          clear hf
          go_wp2_with fail
          refine wp_region_held_drew (S := (fun w' => (w'.cell? ⟨w.heap.size, 0, none⟩ = some (.int .i64 P) ∧ w'.cell? ⟨w.heap.size, 1, none⟩ = some (.int .i64 Q) ∧ w'.cell? ⟨w.heap.size, 2, none⟩ = some (.int .i64 G)) ∧ (w'.cell? ⟨w.heap.size + 1, 0, none⟩ = some (.slice p1 d.c.length p2) ∧ w'.cell? ⟨w.heap.size + 1, 1, none⟩ = some (.slice r1 d.s.length r2)) ∧ w'.cell? ⟨ob, oo + j, none⟩ = some (.int .i64 x))) (by kernel_rfl) (by first | exact ⟨G_r.out, ⟨D_r.out.1, D_r.out.2.1⟩, X_r.out⟩ | (dsimp only; exact ⟨G_r.out, ⟨D_r.out.1, D_r.out.2.1⟩, X_r.out⟩)) (fun hHeld => ?_)
          refine wpAnyH_take (i := 0) (v := ?_) rfl (by kernel_rfl) (by kernel_rfl) (by kernel_rfl) (fun _ _ _ h => h) (Or.inl ⟨by kernel_rfl, ?_⟩) (by assumption) ?_
          rotate_left 1
          · intro w hSw
            try dsimp only at hSw
            go_simp
            try with_reducible rfl
          try simp only [Act.put, List.getElem_toArray, List.getElem_cons_succ, List.getElem_cons_zero, List.setIfInBounds_toArray, List.set_cons_zero, List.set_cons_succ]
          refine wpAnyH_take (i := 1) (v := ?_) rfl (by kernel_rfl) (by kernel_rfl) (by kernel_rfl) (fun _ _ _ h => h) (Or.inl ⟨by kernel_rfl, ?_⟩) (by assumption) ?_
          rotate_left 1
          · intro w hSw
            try dsimp only at hSw
            go_simp
            try with_reducible rfl
          try simp only [Act.put, List.getElem_toArray, List.getElem_cons_succ, List.getElem_cons_zero, List.setIfInBounds_toArray, List.set_cons_zero, List.set_cons_succ]
          refine wpAnyH_take (i := 2) (v := ?_) rfl (by kernel_rfl) (by kernel_rfl) (by kernel_rfl) (fun _ _ _ h => h) (Or.inl ⟨by kernel_rfl, ?_⟩) (by assumption) ?_
          rotate_left 1
          · intro w hSw
            try dsimp only at hSw
            go_simp
            try with_reducible rfl
          try simp only [Act.put, List.getElem_toArray, List.getElem_cons_succ, List.getElem_cons_zero, List.setIfInBounds_toArray, List.set_cons_zero, List.set_cons_succ]
          refine wpAnyH_take (i := 3) (v := ?_) rfl (by kernel_rfl) (by kernel_rfl) (by kernel_rfl) (fun _ _ _ h => h) (Or.inl ⟨by kernel_rfl, ?_⟩) (by assumption) ?_
          rotate_left 1
          · intro w hSw
            try dsimp only at hSw
            go_simp
            try with_reducible rfl
          try simp only [Act.put, List.getElem_toArray, List.getElem_cons_succ, List.getElem_cons_zero, List.setIfInBounds_toArray, List.set_cons_zero, List.set_cons_succ]
          refine wpAnyH_take (i := 4) (v := ?_) rfl (by kernel_rfl) (by kernel_rfl) (by kernel_rfl) (fun _ _ _ h => h) (Or.inl ⟨by kernel_rfl, ?_⟩) (by assumption) ?_
          rotate_left 1
          · intro w hSw
            try dsimp only at hSw
            go_simp
            try with_reducible rfl
          try simp only [Act.put, List.getElem_toArray, List.getElem_cons_succ, List.getElem_cons_zero, List.setIfInBounds_toArray, List.set_cons_zero, List.set_cons_succ]
          refine wpAnyH_take (i := 5) (v := ?_) rfl (by kernel_rfl) (by kernel_rfl) (by kernel_rfl) (fun _ _ _ h => h) (Or.inl ⟨by kernel_rfl, ?_⟩) (by assumption) ?_
          rotate_left 1
          · intro w hSw
            try dsimp only at hSw
            go_simp
            try with_reducible rfl
          try simp only [Act.put, List.getElem_toArray, List.getElem_cons_succ, List.getElem_cons_zero, List.setIfInBounds_toArray, List.set_cons_zero, List.set_cons_succ]
          refine wpAnyH_take (i := 6) (v := ?_) rfl (by kernel_rfl) (by kernel_rfl) (by kernel_rfl) (fun _ _ _ h => h) (Or.inl ⟨by kernel_rfl, ?_⟩) (by assumption) ?_
          rotate_left 1
          · intro w hSw
            try dsimp only at hSw
            go_simp
            try with_reducible rfl
          try simp only [Act.put, List.getElem_toArray, List.getElem_cons_succ, List.getElem_cons_zero, List.setIfInBounds_toArray, List.set_cons_zero, List.set_cons_succ]
          refine wpAnyH_take (i := 7) (v := ?_) rfl (by kernel_rfl) (by kernel_rfl) (by kernel_rfl) (fun _ _ _ h => h) (Or.inl ⟨by kernel_rfl, ?_⟩) (by assumption) ?_
          rotate_left 1
          · intro w hSw
            try dsimp only at hSw
            go_simp
            try with_reducible rfl
          try simp only [Act.put, List.getElem_toArray, List.getElem_cons_succ, List.getElem_cons_zero, List.setIfInBounds_toArray, List.set_cons_zero, List.set_cons_succ]
          refine wpAnyH_ready (rs := [8]) (by kernel_rfl) (by simp) ?_
          refine AllReadyH.cons rfl (fun K hK => ?_) AllReadyH.nil
          go_simp
          have hbd : Below wr.heap.size wr wr.drew := (Below.refl _ wr).drew
          have C_d := Lib.hid (HCI.out.below (bt HB_r.out hbd))
          go_at_call 128
          refine (sFits_any P Q G i x HGD.out (by omega) (by omega) ⟨hx0, hx1⟩ p1 d.c.length p2 d.c rfl (by omega) HCE.out _ (inI_ints C_d.out)).mono ?_
          rw [HF.out]
          rintro e' wf ⟨rfl, hbf0⟩
          have hbf := bt hbd hbf0
          clear hbd hbf0 C_d
          have G_s := Lib.hid (G_r.out.below hbf)
          have D_s := Lib.hid (D_r.out.below hbf)
          have X_s := Lib.hid (X_r.out.below hbf)
          have Z_s := Lib.hid (Z_r.out.below hbf)
          have SC_s := Lib.hid (SC_r.out.below hbf)
          have HB_s := Lib.hid (bt HB_r.out hbf)
          clear hbf
          refine hK.out _ _ (by first | exact ⟨G_s.out, ⟨D_s.out.1, D_s.out.2.1⟩, X_s.out⟩ | (dsimp only; exact ⟨G_s.out, ⟨D_s.out.1, D_s.out.2.1⟩, X_s.out⟩)) (fun hHeld => ?_)
          clear hK K
          try simp only [Act.put, List.getElem_toArray, List.getElem_cons_succ, List.getElem_cons_zero, List.setIfInBounds_toArray, List.set_cons_zero, List.set_cons_succ]
          refine wpAnyH_take (i := 9) (v := ?_) rfl (by kernel_rfl) (by kernel_rfl) (by kernel_rfl) (fun _ _ _ h => h) (Or.inl ⟨by kernel_rfl, ?_⟩) (by assumption) ?_
          rotate_left 1
          · intro w hSw
            try dsimp only at hSw
            go_simp
            try with_reducible rfl
          try simp only [Act.put, List.getElem_toArray, List.getElem_cons_succ, List.getElem_cons_zero, List.setIfInBounds_toArray, List.set_cons_zero, List.set_cons_succ]
          refine wpAnyH_done (by kernel_rfl) ?_ _
          clear hHeld
          obtain ⟨g, rfl⟩ := owI_some SC_s.out.2.1 (by have := HCL.out; simp only; omega)
          obtain ⟨i0, rfl⟩ : ∃ i0 : Nat, i = (i0 : Int) + 1 := ⟨(i - 1).toNat, by omega⟩
          have hw1 : IntKind.i64.wrap ((i0 : Int) + 1 - 1) = (i0 : Int) := by rw [IntKind.wrap_i64]; omega
          have hw3 : IntKind.i64.wrap (i0 : Int) = (i0 : Int) := by rw [IntKind.wrap_i64]; omega
          have hi0 : i0 < d.s.length := by omega
          obtain ⟨hcu, hfu⟩ := owI_at SC_s.out.2.1 (List.getElem?_eq_getElem (show i0 < cur.length by have := HCL.out; omega))
          obtain ⟨u0, u1, _⟩ := SC_s.out.2.2.1
          have hxx : wf.cell? ⟨ob, oo + j, none⟩ = some (.int .i64 x) := X_s.out
          have SC_t := Lib.hid (SumC.put SC_s.out i0 x HNUM.out.1 HNUM.out.2.2.1 HNUM.out.2.2.2.1)
          go_wp2
          go_region
          all_goals go_wp2
          go_roundw
          case rel => exact ⟨j + 1, cur.set i0 x, by omega, by go_num, by rw [HFL.out, HFS.out, HF.out, Bool.true_and], by rw [HPL.out, HPS.out]; congr 2; omega, by rw [List.length_set]; exact HCL.out, SC_t.out.below (Below.refl _ _).drew⟩
          case measure => simp only [intOf]; omega
      · have HMT := Lib.hid (show mdB P Q G d own = true from HMD.out.2 ⟨by omega, HBN.out, by rw [HFL.out]; exact fits_end (by omega)⟩)
        have HME := Lib.hid (show mdV P Q G d own = ⟨d.c, cur⟩ by rw [HMV.out, HPL.out, put_end (by omega)])
        have HZ9 := Z_r
        obtain ⟨u0, u1, _⟩ := SC_r.out.2.2.1
        obtain ⟨y0, y1, yf⟩ := HZ9.out
        have yf0 := yf 0
        have yf1 := yf 1
        clear yf
        go_wp2
        (try simp only [Exit.inBlock, Exit.then])
        refine bodyPost_ret (v := .tuple #[.agg #[.slice va d.c.length vc, .slice vb d.s.length vd], .bool true]) ?_ rfl ?_
        · rw [results_cell_tmp rfl]; go_simp
        · have hm5 := mid_two7 wr (w.heap.size + 2) (.slice va d.c.length vc) (.slice vb d.s.length vd)
          rw [HMT.out, HME.out]
          obtain ⟨hMN, hbQ, hbN, hvQ, hvb⟩ := HNUM.out
          have hq1 := SC_r.out.1.2.2.2
          have hq2 := SC_r.out.2.1.2.2.2
          have h1 := SC_r.out.1.mid hm5 (.inr (by omega))
          have h2 := SC_r.out.2.1.mid hm5 (.inr (by omega))
          exact ⟨_, _, _, _, _, _, rfl, (fun _ => ⟨_, _, M0, rfl, h1.wide (by omega) (Nat.le_refl _) h1.2.2.1, h2.wide hMN (h2.le) (Nat.le_refl _)⟩), HB_r.out.trans (hm5.toBelow (by omega) HB_r.out.size)⟩

end Go.Proofs.Ytchlnkdlnfjijaa

