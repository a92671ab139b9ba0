/- Chapter 12, the program: answers, settled dealings, QualifiedIn. -/
import Derived.Test.YtchlnkdlnfjijaaDkP
import Derived.Test.YtchlnkdlnfjijaaFac
import Derived.Deep.LoopGhost
import Derived.WalkMore
namespace Go.Proofs.Ytchlnkdlnfjijaa
open Go.RowKit
set_option linter.unusedVariables false
set_option linter.unusedSimpArgs false

set_option maxHeartbeats 1600000 in
theorem allShares_any (P Q G : Int) {B : Nat} {av : List (List Int)} (hl : av.length ≤ 1048576) (hr : nS av ≤ 1048576) {v : Value} {w : World} (hz : InS B w v av) :
    Calls Try.prog 111 #[v, .func (.func 106) #[gv P Q G] #[]] w fun e w' => e = .returned (.bool (av.all fun a => shsB Q a)) ∧ Below w.heap.size w w' := by
  obtain ⟨ad, cap, rfl⟩ := hz.shape
  generalize hn : av.length = n at hz
  have HN := Lib.hid hn
  have H := Lib.hid hz
  clear hz
  go_enter Try.func111, Try.ntmps111
  go_wp2
  go_loopw [9] (fun K wr => ∃ k : Nat, k ≤ n ∧ K = .int .i64 k ∧ av.all (fun a => shsB Q a) = (av.drop k).all (fun a => shsB Q a) ∧ Below w.heap.size w wr) (fun K _ => n - (intOf K).toNat)
  case atStart => exact ⟨0, Nat.zero_le _, rfl, by simp, Below.refl _ _⟩
  case round =>
    obtain ⟨k, hk, rfl, he, hbel⟩ := hrel
    by_cases hkn : k < n
    · obtain ⟨b, off, p1, p2, z, rfl, hb, hx, hi, hd⟩ := (H.out.below hbel).at (k := k) (by have := HN.out; omega)
      have HS := Lib.hid (show (shsB Q z = true → av.all (fun a => shsB Q a) = (av.drop (k + 1)).all (fun a => shsB Q a)) ∧ (shsB Q z = false → av.all (fun a => shsB Q a) = false) from by
        rw [hd, List.all_cons] at he
        exact ⟨fun h => by rw [he, h, Bool.true_and], fun h => by rw [he, h, Bool.false_and]⟩)
      have HB := Lib.hid hbel
      have hi2 := Lib.hid hi
      have hzn : z.length ≤ 1048576 := by
        have := nS_drop av k
        rw [hd, nS_cons] at this
        omega
      clear he hd hbel hi
      cases hi' : shsB Q z
      · have HI := Lib.hid hi'
        clear hi'
        go_wp2_with fail
        refine (areShares_any P Q G p1 z.length p2 z rfl (by omega) _ (inI_ints hi2.out)).mono ?_
        rintro e w1 ⟨rfl, hb1⟩
        rw [HI.out]
        have HB1 := Lib.hid (bt HB.out hb1)
        clear hb1
        go_wp2
        go_ret
        exact ⟨by rw [HS.out.2 HI.out]; rfl, HB1.out⟩
      · have HI := Lib.hid hi'
        clear hi'
        go_wp2_with fail
        refine (areShares_any P Q G p1 z.length p2 z rfl (by omega) _ (inI_ints hi2.out)).mono ?_
        rintro e w1 ⟨rfl, hb1⟩
        rw [HI.out]
        have HB1 := Lib.hid (bt HB.out hb1)
        clear hb1
        go_wp2
        go_roundw
        case rel => exact ⟨k + 1, by omega, by go_num, HS.out.1 HI.out, HB1.out⟩
        case measure => simp only [intOf]; omega
    · have HE := Lib.hid he
      have HB := Lib.hid hbel
      clear he hbel
      go_wp2
      go_ret
      refine ⟨?_, HB.out⟩
      rw [HE.out, List.drop_of_length_le (by have := HN.out; omega)]; rfl

set_option maxRecDepth 100000 in
set_option maxHeartbeats 3200000 in
theorem areAnswered_any (P Q G : Int) {B : Nat} {v : Value} {ds : List DlD} (hl : ds.length ≤ 1048576) (hr : nDs ds ≤ 1048576) {B2 : Nat} {u : Value} {av : List (List Int)} (hl2 : av.length ≤ 1048576) (hr2 : nS av ≤ 1048576) {w : World} (hz : InDs B w v ds) (hu : InS B2 w u av) :
    Calls Try.prog 67 #[gv P Q G, v, u] w fun e w' => e = .returned (.bool (kaB P Q G ds av)) ∧ Below w.heap.size w w' := by
  obtain ⟨la, lc, rfl⟩ := hz.shape
  obtain ⟨ua, uc, rfl⟩ := hu.shape
  have hmf : ∀ (fn : Fn) (first cap : Array Value) (w : World), (Instr.makeFunc fn first cap).run Try.prog w = .ok (.func fn first cap) w := fun _ _ _ _ => rfl
  have G_0 := Lib.hid (gr_atS w w.heap.size rfl P Q G 24)
  have HB_0 := Lib.hid (show Below w.heap.size w (w.alloc (.cells #[.int .i64 P, .int .i64 Q, .int .i64 G] 24)) from ba _ _)
  have L_0 := Lib.hid (hz.below HB_0.out)
  have U_0 := Lib.hid (hu.below HB_0.out)
  clear hz hu
  by_cases h0 : ¬ (av.length = ds.length)
  · have B0 : ((av.length : Int) == (ds.length : Int)) = false := by simp only [beq_eq_false_iff_ne, ne_eq]; omega
    have E1 := Lib.hid (show kaB P Q G ds av = false by simp [kaB, h0])
    rw [E1.out]
    clear h0
    obtain ⟨gG0, gG1, gG2⟩ := G_0.out
    go_enter Try.func67, Try.ntmps67
    go_wp2
    go_ret
    exact ⟨rfl, HB_0.out⟩
  replace h0 := Decidable.not_not.1 h0
  have B0 : ((av.length : Int) == (ds.length : Int)) = true := by simp [h0]
  cases h1 : kiB P Q G ds
  · have K1 := Lib.hid (show kiB P Q G ds = false from h1)
    have E1 := Lib.hid (show kaB P Q G ds av = false by simp [kaB, h1])
    rw [E1.out]
    clear h0 h1
    obtain ⟨gG0, gG1, gG2⟩ := G_0.out
    go_enter Try.func67, Try.ntmps67
    go_wp2_with fail
    refine (isKeyGenInput_any P Q G hl hr L_0.out).mono ?_
    rw [K1.out]
    rintro e v1 ⟨rfl, hb⟩
    have HB_1 := Lib.hid (bt HB_0.out hb)
    have G_1 := Lib.hid (G_0.out.below hb)
    have L_1 := Lib.hid (L_0.out.below hb)
    have U_1 := Lib.hid (U_0.out.below hb)
    clear hb gG0 gG1 gG2
    obtain ⟨gG0, gG1, gG2⟩ := G_1.out
    go_wp2
    go_ret
    exact ⟨rfl, HB_1.out⟩
  have K1 := Lib.hid (show kiB P Q G ds = true from h1)
  cases h2 : (av.all fun a => shsB Q a)
  · have K2 := Lib.hid (show (av.all fun a => shsB Q a) = false from h2)
    have E1 := Lib.hid (show kaB P Q G ds av = false by unfold kaB; rw [h2]; simp)
    rw [E1.out]
    clear h0 h1 h2
    obtain ⟨gG0, gG1, gG2⟩ := G_0.out
    go_enter Try.func67, Try.ntmps67
    go_wp2_with fail
    refine (isKeyGenInput_any P Q G hl hr L_0.out).mono ?_
    rw [K1.out]
    rintro e v1 ⟨rfl, hb⟩
    have HB_1 := Lib.hid (bt HB_0.out hb)
    have G_1 := Lib.hid (G_0.out.below hb)
    have L_1 := Lib.hid (L_0.out.below hb)
    have U_1 := Lib.hid (U_0.out.below hb)
    clear hb gG0 gG1 gG2
    obtain ⟨gG0, gG1, gG2⟩ := G_1.out
    go_wp2_with fail
    refine (allShares_any P Q G hl2 hr2 U_1.out).mono ?_
    rw [K2.out]
    rintro e v2 ⟨rfl, hb⟩
    have HB_2 := Lib.hid (bt HB_1.out hb)
    have G_2 := Lib.hid (G_1.out.below hb)
    have L_2 := Lib.hid (L_1.out.below hb)
    have U_2 := Lib.hid (U_1.out.below hb)
    clear hb gG0 gG1 gG2
    obtain ⟨gG0, gG1, gG2⟩ := G_2.out
    go_wp2
    go_ret
    exact ⟨rfl, HB_2.out⟩
  have K2 := Lib.hid (show (av.all fun a => shsB Q a) = true from h2)
  have E1 := Lib.hid (show kaB P Q G ds av = true by unfold kaB; rw [h1, h2, decide_eq_true h0]; rfl)
  rw [E1.out]
  clear h0 h1 h2
  obtain ⟨gG0, gG1, gG2⟩ := G_0.out
  go_enter Try.func67, Try.ntmps67
  go_wp2_with fail
  refine (isKeyGenInput_any P Q G hl hr L_0.out).mono ?_
  rw [K1.out]
  rintro e v1 ⟨rfl, hb⟩
  have HB_1 := Lib.hid (bt HB_0.out hb)
  have G_1 := Lib.hid (G_0.out.below hb)
  have L_1 := Lib.hid (L_0.out.below hb)
  have U_1 := Lib.hid (U_0.out.below hb)
  clear hb gG0 gG1 gG2
  obtain ⟨gG0, gG1, gG2⟩ := G_1.out
  go_wp2_with fail
  refine (allShares_any P Q G hl2 hr2 U_1.out).mono ?_
  rw [K2.out]
  rintro e v2 ⟨rfl, hb⟩
  have HB_2 := Lib.hid (bt HB_1.out hb)
  have G_2 := Lib.hid (G_1.out.below hb)
  have L_2 := Lib.hid (L_1.out.below hb)
  have U_2 := Lib.hid (U_1.out.below hb)
  clear hb gG0 gG1 gG2
  obtain ⟨gG0, gG1, gG2⟩ := G_2.out
  go_wp2
  go_ret
  exact ⟨rfl, HB_2.out⟩

def Xr (v1 v2 : Value) (b : Nat) : Prop := v1.ownBlock = some b ∨ v2.ownBlock = some b
def AnsT (w : World) (q : List Int) (ds : List DlD) (e : Ending) (w' : World) : Prop := ∃ v1 v2, e = .returned (.tuple #[v1, v2]) ∧ OwI w.heap.size w'.heap.size w' v1 q ∧ InDs w'.heap.size w' v2 ds ∧ Below w.heap.size w w'
theorem mem_drop9 {l : List Int} {k : Nat} {x : Int} (h : l.drop k = x :: l.drop (k + 1)) : x ∈ l := List.mem_of_mem_drop (i := k) (by rw [h]; simp)

theorem bs_bad {P Q G : Int} {d : DlD} (h : ivB P Q G d.c d.s = true) : bsR P Q G d.c d.s = badL P Q G d := bs_on h
theorem owI_set {Q M g n cap : Nat} {w : World} {zs : List Int} (h : OwI Q M w (.slice (some ⟨g, 0, none⟩) n cap) zs) (j : Nat) (z : Int) : OwI Q M (w.setCell ⟨g, j, none⟩ (.int .i64 z)) (.slice (some ⟨g, 0, none⟩) n cap) (zs.set j z) := by
  obtain rfl := owI_eq h
  obtain ⟨h1, h2, h3, h4⟩ := h
  refine ⟨?_, h2, by simpa using h3, h4⟩
  show World.ownsRow _ _ _ _ _ _ _
  rw [List.length_set]
  exact own_set h1 z
set_option maxRecDepth 100000 in
set_option maxHeartbeats 6400000 in
theorem settle_any (P Q G : Int) {B : Nat} {v : Value} {ds : List DlD} (hl : ds.length ≤ 1048576) (hr : nDs ds ≤ 1048576) {B2 : Nat} {u : Value} {av : List (List Int)} (hl2 : av.length ≤ 1048576) (hr2 : nS av ≤ 1048576) {w : World} (hz : InDs B w v ds) (hu : InS B2 w u av) (hk : kaB P Q G ds av = true) :
    Calls Try.prog 68 #[gv P Q G, v, u] w (AnsT w (quL P Q G ds av ds.length) (qdL P Q G ds av ds.length)) := by
  obtain ⟨la, lc, rfl⟩ := hz.shape
  obtain ⟨ua, uc, rfl⟩ := hu.shape
  have hmf : ∀ (fn : Fn) (first cap : Array Value) (w : World), (Instr.makeFunc fn first cap).run Try.prog w = .ok (.func fn first cap) w := fun _ _ _ _ => rfl
  have G_0 := Lib.hid (gr_atS w w.heap.size rfl P Q G 24)
  have HB_0 := Lib.hid (show Below w.heap.size w (w.alloc (.cells #[.int .i64 P, .int .i64 Q, .int .i64 G] 24)) from ba _ _)
  have L_0 := Lib.hid (hz.below HB_0.out)
  have U_0 := Lib.hid (hu.below HB_0.out)
  clear hz hu
  obtain ⟨hki, hal0, has0⟩ := ka_facts hk
  obtain ⟨htr, ⟨hd1, hd7⟩, hdd⟩ := ki_facts hki
  have HGD := Lib.hid (trB_of htr).1
  have HDD := Lib.hid hdd
  have HAL := Lib.hid hal0
  have HAS := Lib.hid has0
  clear hki hal0 has0 htr hdd hk
  obtain ⟨i0, hi0, hy0, hy1, hy2⟩ := info_parts Try.info3
  obtain ⟨i1, hj0, hw0, hw1, hw2⟩ := info_parts Try.infoDD
  have hBL := L_0.out.le
  have hBU := U_0.out.le
  obtain ⟨v0, hv0⟩ : ∃ W, w.alloc (.cells #[.int .i64 P, .int .i64 Q, .int .i64 G] 24) = W := ⟨_, rfl⟩
  rw [hv0] at G_0 HB_0 L_0 U_0 hBL hBU
  go_enter Try.func68, Try.ntmps68
  go_wp2
  go_step3
  go_wp2
  go_step3
  go_wp2
  clear hv0
  go_loopg [8, 9, 10, 11, 12, 13, 14, 15, 16, 17, 20, 52] ds.length (fun gk V S _ _ _ _ _ _ _ _ K _ wr => ∃ (k m : Nat) (va : Option Addr) (vc : Nat) (vb : Option Addr) (vd : Nat) (vs : List Value), gk + k = ds.length ∧ k ≤ ds.length ∧ (quL P Q G ds av k).length = m ∧ V = .slice va m vc ∧ S = .slice vb m vd ∧ K = .int .i64 k ∧ wr.ownsRow v0.heap.size 3 1 (.slice va m vc) m ((quL P Q G ds av k).map (Value.int .i64)) ∧ wr.ownsRow v0.heap.size 42 2 (.slice vb m vd) m vs ∧ ElX (Xr (.slice va m vc) (.slice vb m vd)) wr vs (qdL P Q G ds av k) ∧ Below v0.heap.size v0 wr)
  case atStart => exact ⟨0, 0, none, 0, none, 0, [], by omega, Nat.zero_le _, rfl, rfl, rfl, rfl, World.ownsRow_nil _ _ _ _, World.ownsRow_nil _ _ _ _, (fun i d hd => by simp [qdL] at hd), Below.refl _ _⟩
  case round =>
    obtain ⟨k, m, va, vc, vb, vd, vs, hgk, hk, hm, rfl, rfl, rfl, hrv, hrs, hel, hbel⟩ := hrel
    have HGK := Lib.hid hgk
    have HM := Lib.hid hm
    have hmk : m ≤ k := by rw [← hm]; exact (quL_length P Q G ds av k).2
    clear hgk hm
    by_cases hkn : k < ds.length
    · generalize wr = wq at *
      obtain ⟨b, off, x, y, d, rfl, hb, hx, hy, hi, hj, hd⟩ := L_0.out.at (k := k) hkn
      obtain ⟨p1, p2, rfl⟩ := hi.shape
      obtain ⟨r1, r2, rfl⟩ := hj.shape
      have hku : k < av.length := by have := HAL.out; omega
      obtain ⟨bu, ou, o1, o2, own, rfl, hbu, hox, hoi, hod⟩ := U_0.out.at (k := k) hku
      have hx9 := (hbel.cell (p := ⟨b, off + k * 2, none⟩) hb).trans hx
      have hy9 := (hbel.cell (p := ⟨b, off + k * 2 + 1, none⟩) hb).trans hy
      have hdn : d.c.length + d.s.length ≤ 1048576 := by
        have := nDs_drop ds k
        rw [hd, nDs_cons] at this
        unfold DlD.n at this
        omega
      have hdm : d ∈ ds := List.mem_of_mem_drop (i := k) (by rw [hd]; simp)
      have hiv := (HDD.out d hdm).1
      obtain ⟨hg9, hq9, hce, hc7, hs7, hsr⟩ := ivB_facts hiv
      obtain ⟨ho7, hor⟩ := HAS.out own (List.mem_of_mem_drop (i := k) (by rw [hod]; simp))
      have HD := Lib.hid (show ds.getD k nilD = d from getD_drop hd)
      have HO9 := Lib.hid (show av.getD k [] = own from getD_drop hod)
      have HIV := Lib.hid hiv
      have HCE := Lib.hid hce
      have HSR := Lib.hid hsr
      have HOR := Lib.hid hor
      have HCI := Lib.hid hi
      have HSI := Lib.hid hj
      have HOI := Lib.hid hoi
      have HOX := Lib.hid hox
      have ha0 := ba wq (.cells #[.slice p1 d.c.length p2, .slice r1 d.s.length r2] 42)
      have HB_x := Lib.hid (bt hbel ha0)
      have D_x := Lib.hid (v2_at wq wq.heap.size rfl (.slice p1 d.c.length p2) (.slice r1 d.s.length r2) 42)
      have HV_x := Lib.hid (own_below hrv ha0)
      have HS_x := Lib.hid (own_below hrs ha0)
      have HE_x := Lib.hid (hel.below ha0)
      have HXV := Lib.hid (show ∀ b, Xr (.slice va m vc) (.slice vb m vd) b → v0.heap.size ≤ b ∧ b < wq.heap.size from fun b hb => hb.elim (fun h => hrv.lt b h) (fun h => hrs.lt b h))
      obtain ⟨gG0, gG1, gG2⟩ := G_0.out.below HB_x.out
      clear hiv hg9 hce hsr hor ha0 hi hj hd hod hrv hrs hel hbel hoi hox hx hy hdm
      go_wp2_with fail
      refine (badShares_any P Q G p1 r1 p2 r2 d.c d.s (by omega) (by omega) (inI_ints (HCI.out.below HB_x.out)) (inI_ints (HSI.out.below HB_x.out))).mono ?_
      rw [HIV.out, bs_bad HIV.out]
      rintro e w2 ⟨bv, rfl, hob, hb2⟩
      have HBR := Lib.hid (fun z (hz : z ∈ badL P Q G d) => badL_range hz)
      have hbl7 := badL_le P Q G d
      have HMD := Lib.hid (mdB_true (P := P) (Q := Q) (G := G) (d := d) (own := own))
      have HMV := Lib.hid (show mdV P Q G d own = ⟨d.c, putL d.s (badL P Q G d) own⟩ from rfl)
      generalize badL P Q G d = bad at *
      obtain ⟨ba1, bc1, rfl⟩ := own_shape hob.1
      have HB_2 := Lib.hid (bt HB_x.out hb2)
      have D_2 := Lib.hid (D_x.out.below hb2)
      have BD_2 := Lib.hid hob.toIn
      have HV_2 := Lib.hid (own_below HV_x.out hb2)
      have HS_2 := Lib.hid (own_below HS_x.out hb2)
      have HE_2 := Lib.hid (HE_x.out.below hb2)
      have hwq : wq.heap.size + 1 ≤ w2.heap.size := by have := hb2.size; simpa using this
      obtain ⟨e0, e1, _⟩ := D_2.out
      have hu9 := (HB_2.out.cell (p := ⟨bu, ou + k, none⟩) hbu).trans HOX.out
      clear hob hb2 gG0 gG1 gG2 hx9 hy9 HB_x D_x HV_x HS_x HE_x
      by_cases hA : d.c.length ≤ bad.length
      · have hmd : mdB P Q G d own = false := by rw [← Bool.not_eq_true, HMD.out]; omega
        have HQ := Lib.hid (qu_off HD.out HO9.out hmd)
        clear hmd
        go_wp2
        go_roundg (ds.length - (k + 1))
        case measure => have := HGK.out; omega
        case rel => exact ⟨k + 1, m, va, vc, vb, vd, vs, by omega, by omega, by rw [HQ.out.1]; exact HM.out, rfl, rfl, by go_num, by rw [HQ.out.1]; exact HV_2.out, HS_2.out, by rw [HQ.out.2]; exact HE_2.out, HB_2.out⟩
      by_cases hBn : own.length = bad.length
      case neg =>
        have hmd : mdB P Q G d own = false := by rw [← Bool.not_eq_true, HMD.out]; omega
        have HQ := Lib.hid (qu_off HD.out HO9.out hmd)
        have hne : ((bad.length : Int) != (own.length : Int)) = true := neq_len (fun h => hBn h.symm)
        clear hmd hBn
        go_wp2
        go_roundg (ds.length - (k + 1))
        case measure => have := HGK.out; omega
        case rel => exact ⟨k + 1, m, va, vc, vb, vd, vs, by omega, by omega, by rw [HQ.out.1]; exact HM.out, rfl, rfl, by go_num, by rw [HQ.out.1]; exact HV_2.out, HS_2.out, by rw [HQ.out.2]; exact HE_2.out, HB_2.out⟩
      have hne : ((bad.length : Int) != (own.length : Int)) = false := eq_len hBn.symm
      have HBN := Lib.hid hBn
      clear hBn
      go_wp2_with fail
      refine (cloneD_any r1 d.s.length r2 d.s rfl (by omega) (inI_nilc HSI.out) _ (inI_ints (HSI.out.below HB_2.out))).mono ?_
      rintro e w3 ⟨sv, rfl, hos, hb3⟩
      obtain ⟨sa, sc, rfl⟩ := own_shape hos.1
      have HS0 := Lib.hid hos
      have HB30 := Lib.hid hb3
      clear hos hb3 e0 e1 hu9
      go_wp2_with fail
      go_loopg [15, 16, 17, 52] bad.length (fun gi _ _ _ J wr => ∃ (j : Nat) (cur : List Int), gi + j = bad.length ∧ j ≤ bad.length ∧ J = .int .i64 j ∧ fitsL P Q G d.c bad own = fitsL P Q G d.c (bad.drop j) (own.drop j) ∧ putL d.s bad own = putL cur (bad.drop j) (own.drop j) ∧ cur.length = d.s.length ∧ OwI w2.heap.size w3.heap.size wr (.slice sa d.s.length sc) cur ∧ Below w2.heap.size w2 wr)
      case atStart => exact ⟨0, d.s, by omega, Nat.zero_le _, rfl, by simp, by simp, rfl, HS0.out, HB30.out⟩
      case round =>
        obtain ⟨j, cur, hgj, hj9, rfl, hfl, hpl, hcl, hos, hb4⟩ := hrel
        have HGJ := Lib.hid hgj
        have HCL := Lib.hid hcl
        have HB_4 := Lib.hid (bt HB_2.out hb4)
        have D_4 := Lib.hid (D_2.out.below hb4)
        have HV_4 := Lib.hid (own_below HV_2.out hb4)
        have HS_4 := Lib.hid (own_below HS_2.out hb4)
        have HE_4 := Lib.hid (HE_2.out.below hb4)
        have HOS := Lib.hid hos
        have HFL := Lib.hid hfl
        have HPL := Lib.hid hpl
        have HB4 := Lib.hid hb4
        have hw24 := hb4.size
        obtain ⟨e0, e1, _⟩ := D_4.out
        have hu9 := (HB_4.out.cell (p := ⟨bu, ou + k, none⟩) hbu).trans HOX.out
        clear hgj hcl hfl hpl hos hb4
        by_cases hjn : j < bad.length
        · obtain ⟨bb, bo, i, rfl, hbb, hbx, hbd⟩ := (show IsInts wr ba1 bad from inI_ints (BD_2.out.below HB4.out)).at (k := j) hjn
          obtain ⟨hi1, hi2⟩ := HBR.out i (mem_drop hbd)
          obtain ⟨i0, rfl⟩ : ∃ i0 : Nat, i = (i0 : Int) + 1 := ⟨(i - 1).toNat, by omega⟩
          have hjo : j < own.length := by have := HBN.out; omega
          obtain ⟨ob, oo, x, rfl, hob, hoxx, hoxd⟩ := (show IsInts wr o1 own from inI_ints (HOI.out.below HB_4.out)).at (k := j) hjo
          obtain ⟨hx0, hx1⟩ := HOR.out x (mem_drop hoxd)
          have HFS := Lib.hid (fits_step (P := P) (Q := Q) (G := G) (cs := d.c) hbd hoxd)
          have HPS := Lib.hid (put_step (cur := cur) hbd hoxd)
          have hw1 : IntKind.i64.wrap ((i0 : Int) + 1 - 1) = (i0 : Int) := by rw [IntKind.wrap_i64]; omega
          have hw2 : IntKind.i64.wrap (i0 : Int) = (i0 : Int) := by rw [IntKind.wrap_i64]; omega
          have hi0 : i0 < d.s.length := by omega
          obtain ⟨gG0, gG1, gG2⟩ := G_0.out.below HB_4.out
          clear hbd hoxd
          cases hf : fitB P Q G d.c ((i0 : Int) + 1) x
          · have HF := Lib.hid hf
            have hmd : mdB P Q G d own = false := by
              rw [← Bool.not_eq_true, HMD.out, HFL.out, HFS.out, hf]; simp
            have HQ := Lib.hid (qu_off HD.out HO9.out hmd)
            clear hf hmd
            go_wp2_with fail
            refine (isShare_any P Q G ((i0 : Int) + 1) x HGD.out (by omega) (by omega) ⟨hx0, hx1⟩ p1 d.c.length p2 d.c rfl (by omega) HCE.out _ (inI_ints (HCI.out.below HB_4.out))).mono ?_
            rw [HF.out]
            rintro e w5 ⟨rfl, hb5⟩
            have HB_5 := Lib.hid (bt HB_4.out hb5)
            have HV_5 := Lib.hid (own_below HV_4.out hb5)
            have HS_5 := Lib.hid (own_below HS_4.out hb5)
            have HE_5 := Lib.hid (HE_4.out.below hb5)
            clear hb5 gG0 gG1 gG2
            go_wp2
            go_roundg (ds.length - (k + 1))
            case measure => have := HGK.out; omega
            case rel => exact ⟨k + 1, m, va, vc, vb, vd, vs, by omega, by omega, by rw [HQ.out.1]; exact HM.out, rfl, rfl, by go_num, by rw [HQ.out.1]; exact HV_5.out, HS_5.out, by rw [HQ.out.2]; exact HE_5.out, HB_5.out⟩
          · have HF := Lib.hid hf
            clear hf
            go_wp2_with fail
            refine (isShare_any P Q G ((i0 : Int) + 1) x HGD.out (by omega) (by omega) ⟨hx0, hx1⟩ p1 d.c.length p2 d.c rfl (by omega) HCE.out _ (inI_ints (HCI.out.below HB_4.out))).mono ?_
            rw [HF.out]
            rintro e w5 ⟨rfl, hb5⟩
            obtain ⟨g, rfl⟩ := owI_some HOS.out (by have := HCL.out; omega)
            have hos5 := HOS.out.below hb5
            obtain ⟨hcu, hfu⟩ := owI_at hos5 (List.getElem?_eq_getElem (show i0 < cur.length by have := HCL.out; omega))
            have HO6 := Lib.hid (owI_set hos5 i0 x)
            have HB6 := Lib.hid ((bt HB4.out hb5).setCell (p := ⟨g, i0, none⟩) (show w2.heap.size ≤ g from (owI_blk hos5).1) (.int .i64 x))
            clear hb5 hos5 gG0 gG1 gG2 e0 e1 hu9
            go_wp2
            go_roundg (bad.length - (j + 1))
            case measure => have := HGJ.out; omega
            case rel => exact ⟨j + 1, cur.set i0 x, by omega, by omega, by go_num, by rw [HFL.out, HFS.out, HF.out, Bool.true_and], by rw [HPL.out, HPS.out]; congr 2; omega, by rw [List.length_set]; exact HCL.out, HO6.out, HB6.out⟩
        · have hfit : fitsL P Q G d.c bad own = true := by rw [HFL.out]; exact fits_end (by omega)
          have hmd : mdB P Q G d own = true := HMD.out.2 ⟨by omega, HBN.out, hfit⟩
          have HQ := Lib.hid (qu_on HD.out HO9.out hmd)
          have HME := Lib.hid (show mdV P Q G d own = ⟨d.c, cur⟩ by rw [HMV.out, HPL.out, put_end (by omega)])
          have hCX := InX.of (X := Xr (.slice va m vc) (.slice vb m vd)) (HCI.out.below HB_4.out) (fun b hb => by have := (HXV.out b hb).1; omega)
          have hSX := InX.ofOw (X := Xr (.slice va m vc) (.slice vb m vd)) HOS.out (fun b hb => .inl (by have := (HXV.out b hb).2; omega))
          have hvl : vs.length = (qdL P Q G ds av k).length * 2 := by have h1 := HS_4.out.1; have h2 := (quL_length P Q G ds av k).1; have h3 := HM.out; omega
          have hE4 := HE_4.out.snoc hvl (d := ⟨d.c, cur⟩) hCX hSX
          have ha1 := ba wr (.cells #[.int .i64 ((k : Int) + 1)] 3)
          have HV_l := Lib.hid (own_below HV_4.out ha1)
          have HS_l := Lib.hid (own_below HS_4.out ha1)
          have HE_l := Lib.hid (hE4.below ha1)
          have HB_l := Lib.hid (bt HB_4.out ha1)
          have D_l := Lib.hid (D_4.out.below ha1)
          have hxk : IntKind.i64.wrap ((k : Int) + 1) = (k : Int) + 1 := by rw [IntKind.wrap_i64]; omega
          have hwr3 : wq.heap.size + 1 ≤ wr.heap.size := by omega
          clear hfit hmd hCX hSX hvl hE4 ha1 e0 e1 hu9
          go_wp2_with (first
            | (at_builtin
               refine wpList_append_lies _ rfl _ _ 25 rfl v0.heap.size 42 i1 (.agg #[.slice none 0 0, .slice none 0 0]) 2 48 Try.underlying25 hj0 hw0 hw1 hw2 rfl (by decide) _ _ _ rfl HS_m.out ⟨w6.heap.size, 0, none⟩ 1 1 [.slice p1 d.c.length p2, .slice sa d.s.length sc] rfl rfl (pair_new _ _ _ _) (by intro u hu; simp at hu; rcases hu with rfl | rfl <;> rfl) (by decide) (by unfold maxLen; omega) (by omega) HB_m.out.size (w6.heap.size + 1) (by simp) ?_
               intro g8 c8 w8 hown8 hgr8 hli8 hlt8
               have HV_8 := Lib.hid (rows_kept HS_m.out HV_m.out (by decide) hgr8)
               have HS_8 := Lib.hid hown8
               have HE_8 := Lib.hid (HE_m.out.grown (X' := Xr (.slice (some ⟨g6, 0, none⟩) (m + 1) c6) (.slice (some ⟨g8, 0, none⟩) (m + 1) c8)) hgr8 (fun k hk => .inr hk) (fun k hk => hk.elim (fun h => .inl (.inl h)) (fun h => by
                 have e : g8 = k := by simpa [Value.ownBlock] using h
                 subst e
                 exact hli8.elim (fun h => .inl (.inr h)) (fun h => .inr (by rw [h]; simp)))))
               have HB_8 := Lib.hid (HB_m.out.grown hgr8 HB_m.out.size (fun q hq => (HS_m.out.lt q hq).1))
               clear hown8 hgr8 hli8 hlt8)
            | (at_builtin
               refine wpList_append_lies _ rfl _ _ 29 rfl v0.heap.size 3 i0 (.int .i64 0) 1 8 Try.underlying29 hi0 hy0 hy1 hy2 rfl (by decide) _ _ _ rfl HV_l.out ⟨wr.heap.size, 0, none⟩ 1 1 [.int .i64 ((k : Int) + 1)] rfl rfl (cell_one_new _ _ _) (ints_oneCell .i64 [(k : Int) + 1]) (by decide) (by unfold maxLen; omega) (by omega) HB_l.out.size (wr.heap.size + 1) (by simp) ?_
               intro g6 c6 w6 hown6 hgr6 hli6 hlt6
               have HV_6 := Lib.hid (show w6.ownsRow v0.heap.size 3 1 (.slice (some ⟨g6, 0, none⟩) (m + 1) c6) (m + 1) ((quL P Q G ds av k ++ [(k : Int) + 1]).map (Value.int .i64)) by rw [List.map_append]; exact hown6)
               have hS6 := rows_kept HV_l.out HS_l.out (by decide) hgr6
               have hE6 := HE_l.out.grown (X' := Xr (.slice (some ⟨g6, 0, none⟩) (m + 1) c6) (.slice vb m vd)) hgr6 (fun k hk => .inl hk) (fun k hk => hk.elim (fun h => by
                 have e : g6 = k := by simpa [Value.ownBlock] using h
                 subst e
                 exact hli6.elim (fun h => .inl (.inl h)) (fun h => .inr (by rw [h]; simp))) (fun h => .inl (.inr h)))
               have hB6 := HB_l.out.grown hgr6 HB_l.out.size (fun q hq => (HV_l.out.lt q hq).1)
               have e0 := (hgr6.cell_far ⟨wq.heap.size, 0, none⟩ (by simp; omega) (fun e => by have := (HXV.out wq.heap.size (.inl e.symm)).2; omega)).trans D_l.out.1
               have ha2 := ba w6 (.cells #[.slice p1 d.c.length p2, .slice sa d.s.length sc] 42)
               have HV_m := Lib.hid (own_below HV_6.out ha2)
               have HS_m := Lib.hid (own_below hS6 ha2)
               have HE_m := Lib.hid (hE6.below ha2)
               have HB_m := Lib.hid (bt hB6 ha2)
               clear hown6 hgr6 hli6 hlt6 hS6 hE6 hB6 ha2))
          go_roundg (ds.length - (k + 1))
          case measure => have := HGK.out; omega
          case rel => exact ⟨k + 1, m + 1, some ⟨g6, 0, none⟩, c6, some ⟨g8, 0, none⟩, c8, vs ++ [.slice p1 d.c.length p2, .slice sa d.s.length sc], by omega, by omega, by rw [HQ.out.1, List.length_append, HM.out]; rfl, rfl, rfl, by go_num, by rw [HQ.out.1]; exact HV_8.out, HS_8.out, by rw [HQ.out.2, HME.out]; exact HE_8.out, HB_8.out⟩
    · obtain rfl : k = ds.length := by omega
      have HRV := Lib.hid hrv
      have HRS := Lib.hid hrs
      have HEL := Lib.hid hel
      have HBE := Lib.hid hbel
      clear hrv hrs hel hbel
      go_wp2
      (try rw [Exit.noGoto_ret])
      go_ret2
      exact ⟨_, _, rfl, (owI_mk HRV.out HBE.out.size).wide HB_0.out.size (Nat.le_refl _) (Nat.le_refl _), inDs_of_row HRS.out (by have := (quL_length P Q G ds av ds.length).1; have := HM.out; omega) HEL.out, bt HB_0.out HBE.out⟩

end Go.Proofs.Ytchlnkdlnfjijaa

