/- Chapter 12: ComplaintsIn of both. -/
import Derived.Test.YtchlnkdlnfjijaaDkA
import Derived.Test.YtchlnkdlnfjijaaShM
namespace Go.Proofs.Ytchlnkdlnfjijaa
open Go.RowKit
set_option linter.unusedVariables false
set_option linter.unusedSimpArgs false

def AnsS (w : World) (zss : List (List Int)) (ok : Bool) (e : Ending) (w' : World) : Prop := ∃ v, e = .returned (.tuple #[v, .bool ok]) ∧ OwS w.heap.size w'.heap.size w' v zss ∧ Below w.heap.size w w'
theorem owS_nil (Q : Nat) (w : World) (hQ : Q ≤ w.heap.size) : OwS Q w.heap.size w (.slice none 0 0) [] :=
  ⟨w.heap.size, [], OwR.mk (World.ownsRow_nil _ _ _ _) hQ, ⟨Nat.le_refl _, Nat.le_refl _⟩⟩
theorem OwS.wide {Q P Q' P' : Nat} {w : World} {v : Value} {zss : List (List Int)} (h : OwS Q P w v zss) (hQ : Q' ≤ Q) (hP : P ≤ P') (hs : P' ≤ w.heap.size) : OwS Q' P' w v zss := by
  obtain ⟨M, vs, h1, h2⟩ := h
  exact ⟨M, vs, h1.wide hQ (Nat.le_refl _) h1.2.2.1, h2.wide hP hs⟩
theorem ki_facts {P Q G : Int} {ds : List DlD} (h : kiB P Q G ds = true) : trB P Q G = true ∧ (1 ≤ ds.length ∧ ds.length ≤ 7) ∧ ∀ d ∈ ds, ivB P Q G d.c d.s = true ∧ d.s.length = ds.length ∧ likeD (ds.headD nilD) d = true := by
  simp only [kiB, alB, Bool.and_eq_true, List.all_eq_true] at h
  obtain ⟨h1, ⟨h2, h3, h4⟩, h5⟩ := h
  have := inB_true.1 h2
  refine ⟨h1, by omega, fun d hd => ⟨by unfold ivB; rw [h1, h3 d hd]; rfl, ?_, h4 d hd⟩⟩
  have h6 := h4 d hd
  unfold likeD at h6
  rw [Bool.and_eq_true] at h6
  have h7 := of_decide_eq_true h6.2
  have h8 := of_decide_eq_true h5
  omega
def ciL (P Q G : Int) (ds : List DlD) : List (List Int) := ds.map fun d => bsR P Q G d.c d.s
def ciR (P Q G : Int) (ds : List DlD) : List (List Int) := if kiB P Q G ds then ciL P Q G ds else []
theorem ciR_off {P Q G : Int} {ds : List DlD} (h : kiB P Q G ds = false) : ciR P Q G ds = [] := by simp [ciR, h]
theorem ciR_on {P Q G : Int} {ds : List DlD} (h : kiB P Q G ds = true) : ciR P Q G ds = ciL P Q G ds := by simp [ciR, h]
theorem ciL_length (P Q G : Int) (ds : List DlD) : (ciL P Q G ds).length = ds.length := by simp [ciL]
theorem ciL_take {P Q G : Int} {ds : List DlD} {k : Nat} {d : DlD} (h : ds.drop k = d :: ds.drop (k + 1)) (hk : k < ds.length) : (ciL P Q G ds).take (k + 1) = (ciL P Q G ds).take k ++ [bsR P Q G d.c d.s] := by
  have hd : ds[k] = d := by rw [List.drop_eq_getElem_cons hk] at h; exact (List.cons.inj h).1
  rw [List.take_succ_eq_append_getElem (by rw [ciL_length]; exact hk)]
  simp [ciL, hd]
theorem nS_ciL (P Q G : Int) : ∀ ds : List DlD, nS (ciL P Q G ds) ≤ ds.length * 7
  | [] => by simp [ciL, nS]
  | d :: ds => by
    have h1 := nS_ciL P Q G ds
    have h2 := bsR_le P Q G d.c d.s
    show nS (bsR P Q G d.c d.s :: ciL P Q G ds) ≤ _
    rw [nS_cons, List.length_cons]; omega
theorem ciR_bound (P Q G : Int) (ds : List DlD) : (ciR P Q G ds).length ≤ 7 ∧ nS (ciR P Q G ds) ≤ 49 := by
  unfold ciR
  split
  · rename_i h
    obtain ⟨_, ⟨_, h7⟩, _⟩ := ki_facts h
    have := nS_ciL P Q G ds
    rw [ciL_length]; omega
  · simp [nS]
theorem bs_on {P Q G : Int} {cs ss : List Int} (h : ivB P Q G cs ss = true) : bsR P Q G cs ss = bdL P Q G cs ss ss.length := by simp [bsR, h]

set_option maxRecDepth 100000 in
set_option maxHeartbeats 3200000 in
theorem complaintsIn_any (P Q G : Int) {B : Nat} {v : Value} {ds : List DlD} (hl : ds.length ≤ 1048576) (hr : nDs ds ≤ 1048576) {w : World} (hz : InDs B w v ds) :
    Calls Try.prog 49 #[gv P Q G, v] w (AnsS w (ciR P Q G ds) (kiB P Q G ds)) := by
  obtain ⟨la, lc, rfl⟩ := hz.shape
  have hmf : ∀ (fn : Fn) (first cap : Array Value) (w : World), (Instr.makeFunc fn first cap).run Try.prog w = .ok (.func fn first cap) w := fun _ _ _ _ => rfl
  have G_0 := Lib.hid (gr_atS w w.heap.size rfl P Q G 24)
  have HB_0 := Lib.hid (show Below w.heap.size w (w.alloc (.cells #[.int .i64 P, .int .i64 Q, .int .i64 G] 24)) from ba _ _)
  have L_0 := Lib.hid (hz.below HB_0.out)
  clear hz
  cases h0 : kiB P Q G ds
  · have K0 := Lib.hid (show kiB P Q G ds = false from h0)
    have E1 := Lib.hid h0
    rw [ciR_off E1.out]
    clear h0
    obtain ⟨gG0, gG1, gG2⟩ := G_0.out
    go_enter Try.func49, Try.ntmps49
    go_wp2_with fail
    refine (isKeyGenInput_any P Q G hl hr L_0.out).mono ?_
    rw [K0.out]
    rintro e v1 ⟨rfl, hb⟩
    have HB_1 := Lib.hid (bt HB_0.out hb)
    have G_1 := Lib.hid (G_0.out.below hb)
    have L_1 := Lib.hid (L_0.out.below hb)
    clear hb gG0 gG1 gG2
    obtain ⟨gG0, gG1, gG2⟩ := G_1.out
    go_wp2
    go_ret2
    exact ⟨_, rfl, owS_nil _ _ HB_1.out.size, HB_1.out⟩
  have K0 := Lib.hid (show kiB P Q G ds = true from h0)
  have E1 := Lib.hid h0
  rw [ciR_on E1.out]
  clear h0
  obtain ⟨_, ⟨hd1, hd7⟩, _⟩ := ki_facts E1.out
  obtain ⟨i0, hi0, hy0, hy1, hy2⟩ := info_parts Try.infoSL
  have HZ2 := Lib.hid hy2
  clear hy2
  obtain ⟨gG0, gG1, gG2⟩ := G_0.out
  go_enter Try.func49, Try.ntmps49
  go_wp2_with fail
  refine (isKeyGenInput_any P Q G hl hr L_0.out).mono ?_
  rw [K0.out]
  rintro e v1 ⟨rfl, hb⟩
  have HB_1 := Lib.hid (bt HB_0.out hb)
  have G_1 := Lib.hid (G_0.out.below hb)
  have L_1 := Lib.hid (L_0.out.below hb)
  clear hb gG0 gG1 gG2
  obtain ⟨gG0, gG1, gG2⟩ := G_1.out
  go_wp2_with (at_make; refine wpList_make_full _ rfl _ _ 26 rfl v1.heap.size 29 i0 (.slice none 0 0) 1 Try.underlying26 hi0 hy0 hy1 .i64 .i64 _ _ ds.length rfl rfl rfl rfl (by rw [HZ2.out]; omega) (by unfold maxLen; omega) (Nat.le_refl _) ?_; intro w1 hown hgrow)
  go_loopw [7, 8, 18] (fun _ _ K wr => ∃ (k : Nat) (vs : List Value), k ≤ ds.length ∧ K = .int .i64 k ∧ vs.length = k ∧ wr.ownsRow v1.heap.size 29 1 (.slice (some ⟨v1.heap.size, 0, none⟩) ds.length ds.length) ds.length (rowMix vs ds.length) ∧ ChI wr.heap.size wr (v1.heap.size + 1) vs ((ciL P Q G ds).take k) ∧ Below v1.heap.size v1 wr) (fun _ _ K _ => ds.length - (intOf K).toNat)
  case atStart =>
    have hb := (Below.refl v1.heap.size v1).grown hgrow (Nat.le_refl _) (by simp)
    refine ⟨0, [], Nat.zero_le _, rfl, rfl, ?_, ⟨?_, Nat.le_refl _⟩, hb⟩
    · have h := hown
      rw [show Value.cells (.slice none 0 0) = #[.slice none 0 0] from rfl, Nat.mul_one, toList_madeCells_one] at h
      simpa [rowMix] using h
    · exact (hown.lt v1.heap.size rfl).2
  case round =>
    obtain ⟨k, vs, hk, rfl, hvs, hownr, hch, hbel⟩ := hrel
    clear hown hgrow gG0 gG1 gG2
    by_cases hkn : k < ds.length
    · obtain ⟨b, off, x, y, d, hbo, hb, hx, hy, hi, hj, hd⟩ := (L_1.out.below hbel).at (k := k) hkn
      obtain ⟨p1, p2, rfl⟩ := hi.shape
      obtain ⟨r1, r2, rfl⟩ := hj.shape
      subst hbo
      have hdn : d.c.length + d.s.length ≤ 1048576 := by
        have := nDs_drop ds k
        rw [hd, nDs_cons] at this
        unfold DlD.n at this
        omega
      have hiv := ((ki_facts E1.out).2.2 d (List.mem_of_mem_drop (i := k) (by rw [hd]; simp))).1
      have hal := ba wr (.cells #[.slice p1 d.c.length p2, .slice r1 d.s.length r2] 42)
      have G_x := Lib.hid ((G_1.out.below hbel).below hal)
      have CI_x := Lib.hid (hi.below hal)
      have SI_x := Lib.hid (hj.below hal)
      have HO := Lib.hid (own_below hownr hal)
      have HC := Lib.hid (hch.below hal)
      have HB := Lib.hid (bt hbel hal)
      have HD := Lib.hid (ciL_take (P := P) (Q := Q) (G := G) hd hkn)
      have HV := Lib.hid hvs
      obtain ⟨gG0, gG1, gG2⟩ := G_x.out
      clear hownr hch hbel hd hvs hal hi hj
      go_wp2_with fail
      refine (badShares_any P Q G p1 r1 p2 r2 d.c d.s (by omega) (by omega) (inI_ints CI_x.out) (inI_ints SI_x.out)).mono ?_
      rintro e w2 ⟨u2, rfl, ho2, hb2⟩
      obtain ⟨va, vc, rfl⟩ := own_shape ho2.1
      have hal9 : wr.heap.size ≤ (wr.alloc (.cells #[.slice p1 d.c.length p2, .slice r1 d.s.length r2] 42)).heap.size := by simp
      obtain ⟨d1, d2⟩ := rowMix_cell (own_below HO.out hb2) HV.out hkn
      have HO2 := Lib.hid (own_below HO.out hb2)
      have HC2 := Lib.hid (((HC.out.wide hal9 (Nat.le_refl _)).below hb2).snoc ho2)
      have HB2 := Lib.hid (bt HB.out hb2)
      clear hb2 ho2 hx hy gG0 gG1 gG2 hal9
      go_wp2
      go_roundw
      case rel =>
        refine ⟨k + 1, vs ++ [.slice va (bsR P Q G d.c d.s).length vc], by omega, by go_num, by have := HV.out; simp [this], ?_, ?_, HB2.out.setCell (Nat.le_refl _) _⟩
        · have := (HO2.out.stored k (.slice va (bsR P Q G d.c d.s).length vc)).1
          rwa [rowMix_set HV.out hkn] at this
        · rw [HD.out]
          have := HC2.out.mid (mid_cell w2 v1.heap.size k (.slice va (bsR P Q G d.c d.s).length vc)) (.inr (Nat.le_refl _))
          exact this.wide (by simp) (Nat.le_refl _)
      case measure => simp only [intOf]; omega
    · have HO := Lib.hid hownr
      have HC := Lib.hid hch
      have HB := Lib.hid hbel
      have HV := Lib.hid hvs
      clear hownr hch hbel hvs
      obtain rfl : k = ds.length := by omega
      go_wp2
      go_ret2
      refine ⟨_, rfl, ⟨v1.heap.size + 1, vs, ?_, ?_⟩, bt HB_1.out HB.out⟩
      · have h := HO.out
        unfold rowMix at h
        rw [HV.out] at h
        simp only [Nat.sub_self, List.replicate_zero, List.append_nil] at h
        rw [ciL_length]
        have hs := HB_1.out.size
        refine ⟨own_rebase h (fun g hg => by have := (h.lt g hg).1; omega), ?_, (HC.out.le).1, by omega⟩
        rintro g ⟨⟩
        exact Nat.lt_succ_self _
      · have h := HC.out
        rwa [List.take_of_length_le (by rw [ciL_length]; exact Nat.le_refl _)] at h

theorem owI_out7 {Q P base n : Nat} {w w' : World} {u v : Value} {z : List Int} {vs : List Value} (h : OwI Q P w u z) (ho : w.ownsRow base 29 1 v n vs) (hg : w.grownBy w' v.ownBlock) : OwI Q P w' u z := by
  refine ⟨own_block h.1 (fun g hgu => ?_), h.2.1, Nat.le_trans h.2.2.1 hg.size, h.2.2.2⟩
  refine hg.block g (by have := h.2.1 g hgu; have := h.2.2.1; omega) (fun e => ?_)
  rcases h.1.2 with ⟨rfl, _⟩ | ⟨g1, c1, cur1, rfl, _, hh1, _⟩
  · simp [Value.ownBlock] at hgu
  · rcases ho.2 with ⟨rfl, _⟩ | ⟨g2, c2, cur2, rfl, _, hh2, _⟩
    · simp [Value.ownBlock] at e
    · simp [Value.ownBlock] at e hgu
      subst hgu
      subst e
      rw [hh1] at hh2
      simp at hh2
theorem InI.out {P base n : Nat} {w w' : World} {u v : Value} {z : List Int} {vs : List Value} (h : InI P w u z) (hP : P ≤ base) (ho : w.ownsRow base 29 1 v n vs) (hg : w.grownBy w' v.ownBlock) : InI P w' u z :=
  h.belowP ((Below.refl P w).grown hg h.1 (fun k hk => Nat.le_trans hP (ho.lt k hk).1))

theorem rows_snoc7 {Q P : Nat} {w : World} {vs : List Value} {acc : List (List Int)} {a : Value} {z : List Int} (h : ∀ (i : Nat) z, acc[i]? = some z → ∃ u, vs[i]? = some u ∧ OwI Q P w u z) (hl : vs.length = acc.length) (ha : OwI Q P w a z) :
    ∀ (i : Nat) z', (acc ++ [z])[i]? = some z' → ∃ u, (vs ++ [a])[i]? = some u ∧ OwI Q P w u z' := by
  intro i z' hi
  by_cases hlt : i < acc.length
  · rw [List.getElem?_append_left hlt] at hi
    obtain ⟨u, hu, ho⟩ := h i z' hi
    exact ⟨u, by rw [List.getElem?_append_left (by omega)]; exact hu, ho⟩
  · rw [List.getElem?_append_right (by omega)] at hi
    have h0 : i - acc.length = 0 := by
      rcases Nat.eq_zero_or_pos (i - acc.length) with h | h
      · exact h
      · rw [List.getElem?_eq_none (by simp; omega)] at hi; cases hi
    rw [h0] at hi
    simp at hi
    subst hi
    exact ⟨a, by rw [List.getElem?_append_right (by omega), show i - vs.length = 0 by omega]; rfl, ha⟩
theorem inS_of_rows7 {Q base n cap : Nat} {w : World} {va : Option Addr} {vs : List Value} {acc : List (List Int)} (ho : w.ownsRow base 29 1 (.slice va n cap) n vs) (hl : acc.length = n)
    (h : ∀ (i : Nat) z, acc[i]? = some z → ∃ u, vs[i]? = some u ∧ OwI Q w.heap.size w u z) : InS w.heap.size w (.slice va n cap) acc := by
  subst hl
  rcases ho.2 with ⟨h1, hn⟩ | ⟨g, cap', cur, h1, _, hg, _⟩
  · simp only [Value.slice.injEq] at h1
    obtain ⟨rfl, _, rfl⟩ := h1
    exact ⟨Nat.le_refl _, none, 0, rfl, fun _ => rfl, .inl (List.length_eq_zero_iff.1 hn)⟩
  · simp only [Value.slice.injEq] at h1
    obtain ⟨rfl, _, rfl⟩ := h1
    have hgl := (Array.getElem?_eq_some_iff.1 hg).1
    refine ⟨Nat.le_refl _, some ⟨g, 0, none⟩, cap, rfl, (fun h => by cases h), .inr ⟨g, 0, rfl, hgl, hgl, fun i z hz => ?_⟩⟩
    obtain ⟨u, hu, hi⟩ := h i z hz
    refine ⟨u, ?_, hi.toIn⟩
    have := ho.cells (g := g) rfl i u hu
    have e1 : (⟨g, 0, none⟩ : Addr).add i = ⟨g, 0 + i, none⟩ := by
      unfold Addr.add; split
      · subst_vars; rfl
      · rfl
    rwa [e1] at this

def AnsSi (w : World) (zss : List (List Int)) (ok : Bool) (e : Ending) (w' : World) : Prop := ∃ v, e = .returned (.tuple #[v, .bool ok]) ∧ InS w'.heap.size w' v zss ∧ Below w.heap.size w w'

set_option maxRecDepth 100000 in
set_option maxHeartbeats 3200000 in
theorem sComplaintsIn_any (P Q G : Int) {B : Nat} {v : Value} {ds : List DlD} (hl : ds.length ≤ 1048576) (hr : nDs ds ≤ 1048576) {w : World} (hz : InDs B w v ds) :
    Calls Try.prog 48 #[gv P Q G, v] w (AnsSi w (ciR P Q G ds) (kiB P Q G ds)) := by
  obtain ⟨la, lc, rfl⟩ := hz.shape
  have hmf : ∀ (fn : Fn) (first cap : Array Value) (w : World), (Instr.makeFunc fn first cap).run Try.prog w = .ok (.func fn first cap) w := fun _ _ _ _ => rfl
  have G_0 := Lib.hid (gr_atS w w.heap.size rfl P Q G 24)
  have HB_0 := Lib.hid (show Below w.heap.size w (w.alloc (.cells #[.int .i64 P, .int .i64 Q, .int .i64 G] 24)) from ba _ _)
  have L_0 := Lib.hid (hz.below HB_0.out)
  clear hz
  cases h0 : kiB P Q G ds
  · have K0 := Lib.hid (show kiB P Q G ds = false from h0)
    have E1 := Lib.hid h0
    rw [ciR_off E1.out]
    clear h0
    obtain ⟨gG0, gG1, gG2⟩ := G_0.out
    go_enter Try.func48, Try.ntmps48
    go_wp2_with fail
    refine (kgInput_any P Q G hl hr L_0.out).mono ?_
    rw [K0.out]
    rintro e v1 ⟨rfl, hb⟩
    have HB_1 := Lib.hid (bt HB_0.out hb)
    have G_1 := Lib.hid (G_0.out.below hb)
    have L_1 := Lib.hid (L_0.out.below hb)
    clear hb gG0 gG1 gG2
    obtain ⟨gG0, gG1, gG2⟩ := G_1.out
    go_wp2
    go_ret2
    exact ⟨_, rfl, (owS_nil _ _ HB_1.out.size).toIn, HB_1.out⟩
  have K0 := Lib.hid (show kiB P Q G ds = true from h0)
  have E1 := Lib.hid h0
  rw [ciR_on E1.out]
  clear h0
  obtain ⟨htr, ⟨hd1, hd7⟩, _⟩ := ki_facts E1.out
  have HGD := Lib.hid (trB_of htr).1
  clear htr
  obtain ⟨i0, hi0, hy0, hy1, hy2⟩ := info_parts Try.infoSL
  obtain ⟨gG0, gG1, gG2⟩ := G_0.out
  go_enter Try.func48, Try.ntmps48
  go_wp2_with fail
  refine (kgInput_any P Q G hl hr L_0.out).mono ?_
  rw [K0.out]
  rintro e v1 ⟨rfl, hb⟩
  have HB_1 := Lib.hid (bt HB_0.out hb)
  have G_1 := Lib.hid (G_0.out.below hb)
  have L_1 := Lib.hid (L_0.out.below hb)
  clear hb gG0 gG1 gG2
  obtain ⟨gG0, gG1, gG2⟩ := G_1.out
  go_wp2_with fail
  go_loopw [6, 8, 15] (fun V _ K wr => ∃ (k : Nat) (va : Option Addr) (vc : Nat) (vs : List Value), k ≤ ds.length ∧ K = .int .i64 k ∧ V = .slice va k vc ∧ wr.ownsRow v1.heap.size 29 1 (.slice va k vc) k vs ∧ (∀ (i : Nat) z, ((ciL P Q G ds).take k)[i]? = some z → ∃ u, vs[i]? = some u ∧ OwI v1.heap.size wr.heap.size wr u z) ∧ Below v1.heap.size v1 wr) (fun _ _ K _ => ds.length - (intOf K).toNat)
  case atStart => exact ⟨0, none, 0, [], Nat.zero_le _, rfl, rfl, World.ownsRow_nil _ _ _ _, (fun i z hz => by simp at hz), Below.refl _ _⟩
  case round =>
    obtain ⟨k, va, vc, vs, hk, rfl, rfl, hown, hrows, hbel⟩ := hrel
    clear gG0 gG1 gG2
    have hvl : vs.length = k := by have := hown.1; simpa using this
    by_cases hkn : k < ds.length
    · obtain ⟨b, off, x, y, d, hbo, hb, hx, hy, hi, hj, hd⟩ := (L_1.out.below hbel).at (k := k) hkn
      obtain ⟨p1, p2, rfl⟩ := hi.shape
      obtain ⟨r1, r2, rfl⟩ := hj.shape
      subst hbo
      have hdn : d.c.length + d.s.length ≤ 1048576 := by
        have := nDs_drop ds k
        rw [hd, nDs_cons] at this
        unfold DlD.n at this
        omega
      have hiv := ((ki_facts E1.out).2.2 d (List.mem_of_mem_drop (i := k) (by rw [hd]; simp))).1
      obtain ⟨hg9, hq9, hce, hc7, hs7, hsr⟩ := ivB_facts hiv
      have HE9 := Lib.hid (bs_on hiv)
      have HCE := Lib.hid hce
      have HSR := Lib.hid hsr
      have hal := ba wr (.cells #[.slice p1 d.c.length p2, .slice r1 d.s.length r2] 42)
      have G_x := Lib.hid ((G_1.out.below hbel).below hal)
      have CI_x := Lib.hid (hi.below hal)
      have SI_x := Lib.hid (hj.below hal)
      have HO := Lib.hid (own_below hown hal)
      have HROW := Lib.hid (fun (i : Nat) z (hz : ((ciL P Q G ds).take k)[i]? = some z) => (fun ⟨u, hu, ho⟩ => ⟨u, hu, (ho.below hal).wide (Nat.le_refl _) hal.size (Nat.le_refl _)⟩ : _ → ∃ u, vs[i]? = some u ∧ OwI v1.heap.size _ _ u z) (hrows i z hz))
      have HB := Lib.hid (bt hbel hal)
      have HBS := Lib.hid HB.out.size
      have HD := Lib.hid (ciL_take (P := P) (Q := Q) (G := G) hd hkn)
      have HVL := Lib.hid hvl
      have HACC := Lib.hid (show ((ciL P Q G ds).take k).length = k by rw [List.length_take, ciL_length]; omega)
      obtain ⟨gG0, gG1, gG2⟩ := G_x.out
      clear hown hrows hbel hd hvl hal hi hj hiv hg9 hce hsr
      go_wp2_with fail
      refine (sBad_any P Q G HGD.out p1 r1 p2 r2 d.c d.s (by omega) HCE.out hs7 HSR.out (inI_ints CI_x.out) (inI_ints SI_x.out)).mono ?_
      rw [← HE9.out]
      rintro e w2 ⟨u2, rfl, hoa, hba⟩
      obtain ⟨aa, ac, rfl⟩ := own_shape hoa.1
      generalize hla : (bsR P Q G d.c d.s).length = la at *
      have HLA := Lib.hid hla
      have hal := ba w2 (.cells #[.slice aa la ac] 29)
      have HOA := Lib.hid (hoa.below hal)
      have HO1 := Lib.hid (own_below (own_below HO.out hba) hal)
      have HR1 := Lib.hid (fun (i : Nat) z (hz : ((ciL P Q G ds).take k)[i]? = some z) => (fun ⟨u, hu, ho⟩ => ⟨u, hu, ((ho.below hba).below hal).wide (Nat.le_refl _) (Nat.le_trans hba.size hal.size) (Nat.le_refl _)⟩ : _ → ∃ u, vs[i]? = some u ∧ OwI v1.heap.size _ _ u z) (HROW.out i z hz))
      have HB1 := Lib.hid (bt HB.out (bt hba hal))
      clear hoa hba hal hla gG0 gG1 gG2
      go_wp2_with (at_builtin; refine wpList_append_own _ rfl _ _ 26 rfl v1.heap.size 29 i0 (.slice none 0 0) 1 24 Try.underlying26 hi0 hy0 hy1 hy2 rfl (by decide) _ k vs rfl HO1.out ⟨w2.heap.size, 0, none⟩ 1 1 [.slice aa la ac] rfl rfl (cell_one_new _ _ _) (by intro u hu; simp at hu; subst hu; rfl) (by unfold maxLen; omega) (by omega) HB1.out.size ?_; intro v' w2 hown' hgrow _; obtain ⟨va', vc', rfl⟩ := own_shape hown'; have HO2 := Lib.hid hown'; have HOA2 := Lib.hid (owI_out7 HOA.out HO1.out hgrow); have HR2 := Lib.hid (fun (i : Nat) z (hz : ((ciL P Q G ds).take k)[i]? = some z) => (fun ⟨u, hu, ho⟩ => ⟨u, hu, (owI_out7 ho HO1.out hgrow).wide (Nat.le_refl _) hgrow.size (Nat.le_refl _)⟩ : _ → ∃ u, vs[i]? = some u ∧ OwI v1.heap.size w2.heap.size w2 u z) (HR1.out i z hz)); have HB2 := Lib.hid (HB1.out.grown hgrow HB1.out.size (fun q hq => (HO1.out.lt q hq).1)); clear hown' hgrow)
      go_roundw
      case rel => exact ⟨k + 1, va', vc', vs ++ [.slice aa la ac], by omega, by go_num, rfl, HO2.out, by rw [HD.out]; exact rows_snoc7 HR2.out (by rw [HVL.out, HACC.out]) (HOA2.out.wide HBS.out (by have := HO2.out; have := HOA2.out.2.2.1; omega) (Nat.le_refl _)), HB2.out⟩
      case measure => simp only [intOf]; omega
    · have HO := Lib.hid hown
      have HR := Lib.hid hrows
      have HB := Lib.hid hbel
      clear hown hrows hbel hvl
      obtain rfl : k = ds.length := by omega
      rw [List.take_of_length_le (by rw [ciL_length]; exact Nat.le_refl _)] at HR
      go_wp2
      go_ret2
      exact ⟨_, rfl, inS_of_rows7 HO.out (ciL_length _ _ _ _) HR.out, bt HB_1.out HB.out⟩

end Go.Proofs.Ytchlnkdlnfjijaa

