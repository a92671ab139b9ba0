/- Counted lists are read back. -/
import Derived.Test.YtmiohdibbpckaaaRecC
namespace Go.Proofs.Ytmiohdibbpckaaa
open Go.RowKit

/-! ### The plain facts -/
/-- Can a counted list be taken from the front? The list; the rest. -/
def tkB (l : List Int) : Bool := match l with | [] => false | h :: t => decide (0 ≤ h) && decide (h ≤ t.length)
def tkA (l : List Int) : List Int := (l.drop 1).take (l.headD 0).toNat
def tkR (l : List Int) : List Int := l.drop (1 + (l.headD 0).toNat)
def spl : Nat → List Int → List (List Int) → Option (List (List Int) × List Int)
  | 0, l, acc => some (acc, l)
  | n + 1, l, acc => if tkB l then spl n (tkR l) (acc ++ [tkA l]) else none
def splOk (n : Nat) (l : List Int) : Bool := match spl n l [] with | some (_, []) => true | _ => false
def splRes (n : Nat) (l : List Int) : List (List Int) := match spl n l [] with | some (a, []) => a | _ => []
theorem tkB_cons {h : Int} {t : List Int} : tkB (h :: t) = true ↔ 0 ≤ h ∧ h ≤ t.length := by simp [tkB]
theorem tkR_length {l : List Int} (h : tkB l = true) : (tkR l).length < l.length := by
  cases l with
  | nil => simp [tkB] at h
  | cons x t => simp [tkR]; omega
theorem spl_go {n : Nat} {l : List Int} {acc : List (List Int)} (h : tkB l = true) : spl (n + 1) l acc = spl n (tkR l) (acc ++ [tkA l]) := by simp [spl, h]
theorem spl_stop {n : Nat} {l : List Int} {acc : List (List Int)} (h : tkB l = false) : spl (n + 1) l acc = none := by simp [spl, h]
theorem spl_short : ∀ (n : Nat) (l : List Int) (acc : List (List Int)), l.length < n → spl n l acc = none
  | 0, l, acc, h => by omega
  | n + 1, l, acc, h => by
    cases hb : tkB l
    · exact spl_stop hb
    · rw [spl_go hb]
      exact spl_short n _ _ (by have := tkR_length hb; omega)
theorem splOk_none {n : Nat} {l : List Int} (h : spl n l [] = none) : splOk n l = false ∧ splRes n l = [] := by simp [splOk, splRes, h]
theorem splOk_some {n : Nat} {l : List Int} {a : List (List Int)} (h : spl n l [] = some (a, [])) : splOk n l = true ∧ splRes n l = a := by simp [splOk, splRes, h]
theorem splOk_more {n : Nat} {l r : List Int} {a : List (List Int)} (h : spl n l [] = some (a, r)) (hr : r ≠ []) : splOk n l = false ∧ splRes n l = [] := by
  cases r with
  | nil => exact absurd rfl hr
  | cons x t => simp [splOk, splRes, h]
/-- Every list that is read is a part of what is read. -/
theorem spl_bound : ∀ (n : Nat) (l : List Int) (acc : List (List Int)) (a : List (List Int)) (r : List Int), spl n l acc = some (a, r) → a.length = acc.length + n ∧ nS a + n + r.length = nS acc + l.length
  | 0, l, acc, a, r, h => by simp [spl] at h; obtain ⟨rfl, rfl⟩ := h; simp
  | n + 1, l, acc, a, r, h => by
    cases hb : tkB l
    · rw [spl_stop hb] at h; cases h
    · rw [spl_go hb] at h
      obtain ⟨h1, h2⟩ := spl_bound n _ _ a r h
      refine ⟨by simp at h1; omega, ?_⟩
      rw [nS_append] at h2
      cases l with
      | nil => simp [tkB] at hb
      | cons x t =>
        obtain ⟨hx0, hx1⟩ := tkB_cons.1 hb
        simp [tkA, tkR, nS] at h2 ⊢
        omega
theorem splRes_bound (n : Nat) (l : List Int) : (splRes n l).length ≤ l.length ∧ nS (splRes n l) ≤ l.length := by
  unfold splRes
  split
  · rename_i a h
    obtain ⟨h1, h2⟩ := spl_bound n l [] a [] h
    simp [nS] at h1 h2 ⊢
    omega
  · simp [nS]

/-- What is cut out of a list. -/
theorem InB.cut {P : Nat} {w : World} {b off cap : Nat} {zs : List Int} (h : InB P w (some ⟨b, off, none⟩) zs) (k : Nat) (hk : k ≤ zs.length) (hc : zs.length ≤ cap) :
    InB P w (if cap = k then some ⟨b, off, none⟩ else some ⟨b, off + k, none⟩) (zs.drop k) := by
  by_cases h0 : zs.drop k = []
  · exact .inl h0
  · have hlt : k < zs.length := by
      rcases Nat.lt_or_ge k zs.length with h' | h'
      · exact h'
      · exact absurd (List.drop_of_length_le h') h0
    rw [if_neg (by omega)]
    rcases h with h | ⟨b', off', h1, h2, h3, h4⟩
    · subst h; simp at hlt
    · simp only [Option.some.injEq, Addr.mk.injEq, and_true] at h1
      obtain ⟨rfl, rfl⟩ := h1
      refine .inr ⟨b, off + k, rfl, h2, h3, fun i hi => ?_⟩
      rw [List.length_drop] at hi
      have := h4 (k + i) (by omega)
      rw [show off + k + i = off + (k + i) by omega, this]
      simp [List.getD_eq_getElem?_getD, List.getElem?_drop]
theorem InB.takeN {P : Nat} {w : World} {ad : Option Addr} {zs : List Int} (h : InB P w ad zs) (k : Nat) : InB P w ad (zs.take k) := by
  rcases h with h | ⟨b, off, h1, h2, h3, h4⟩
  · subst h; exact .inl (by simp)
  · refine .inr ⟨b, off, h1, h2, h3, fun i hi => ?_⟩
    rw [List.length_take] at hi
    rw [h4 i (by omega)]
    simp [List.getD_eq_getElem?_getD, show i < k by omega]

/-- A list of lists that is answered, with a bool. -/
def AnsS (w : World) (zss : List (List Int)) (ok : Bool) (e : Ending) (w' : World) : Prop := ∃ v, e = .returned (.tuple #[v, .bool ok]) ∧ OwS w.heap.size w'.heap.size w' v zss ∧ Below w.heap.size w w'
theorem ansS_nil {w w' : World} (h : Below w.heap.size w w') : AnsS w [] false (.returned (.tuple #[.slice none 0 0, .bool false])) w' :=
  ⟨_, rfl, ⟨w'.heap.size, [], OwR.mk (World.ownsRow_nil _ _ _ _) h.size, ⟨Nat.le_refl _, Nat.le_refl _⟩⟩, h⟩

set_option maxRecDepth 100000 in
set_option maxHeartbeats 3200000 in
theorem decodeParts_any {P : Nat} {w : World} {v : Value} {zs : List Int} (n : Nat) (h : InI P w v zs) (hl : zs.length ≤ 1048576) (hd : ∀ z ∈ zs, 0 ≤ z ∧ z ≤ 4611686018427387903) (hn : n ≤ 4611686018427387903) :
    Calls Try.prog 55 #[v, .int .i64 n] w (AnsS w (splRes n zs) (splOk n zs)) := by
  obtain ⟨ad, cap, rfl⟩ := h.shape
  obtain ⟨hzl, hin, hnil⟩ := h.parts
  have hcap := h.cap
  have hP := h.1
  generalize hm : zs.length = m at h hcap hzl
  by_cases hnm : m < n
  · obtain ⟨e1, e2⟩ := splOk_none (spl_short n zs [] (by omega))
    rw [e1, e2]
    have hnmi : (m : Int) < (n : Int) := by omega
    clear e1 e2 h hin hm hzl hd hnil
    go_enter Try.func55, Try.ntmps55
    go_wp2
    go_ret2
    exact ansS_nil (Below.refl _ _)
  obtain ⟨i0, hi, hz0, hz1, hz2⟩ := info_parts Try.infoSL
  obtain ⟨j0, ji, jz0, jz1, jz2⟩ := info_parts Try.info3
  have hnmi : (n : Int) ≤ (m : Int) := by omega
  have hn' : n ≤ 1048576 := by omega
  have hm' : m ≤ 1048576 := by omega
  have HZ2 := Lib.hid hz2
  have HD := Lib.hid hd
  have HM := Lib.hid hm
  have HI := Lib.hid hin
  have HCAP := Lib.hid hcap
  have HNIL := Lib.hid hnil
  clear hz2 hd hm h hin hcap hzl hnil
  go_enter Try.func55, Try.ntmps55
  go_wp2_with (at_make; refine wpList_make_full _ rfl _ _ 53 rfl w.heap.size 22 i0 (.slice none 0 0) 1 Try.underlying53 hi hz0 hz1 .i64 .i64 _ _ n rfl rfl rfl rfl (by rw [HZ2.out]; omega) (by unfold maxLen; omega) (Nat.le_refl _) ?_; intro w1 hown hgrow)
  go_loopw [0, 7, 8, 17] (fun L _ _ K wr => ∃ (k : Nat) (vs : List Value) (acc : List (List Int)) (la : Option Addr) (lm lc : Nat) (rest : List Int), k ≤ n ∧ K = .int .i64 k ∧ L = .slice la lm lc ∧ rest.length = lm ∧ lm ≤ lc ∧ (lm ≤ m) ∧ (la = none → lc = 0) ∧ InB P wr la rest ∧ (∀ z ∈ rest, 0 ≤ z ∧ z ≤ 4611686018427387903) ∧ vs.length = k ∧ wr.ownsRow w.heap.size 22 1 (.slice (some ⟨w.heap.size, 0, none⟩) n n) n (rowMix vs n) ∧ ChI wr.heap.size wr (w.heap.size + 1) vs acc ∧ Below w.heap.size w wr ∧ spl n zs [] = spl (n - k) rest acc) (fun _ _ _ K _ => n - (intOf K).toNat)
  case atStart =>
    have hb := (Below.refl w.heap.size w).grown hgrow (Nat.le_refl _) (by simp)
    refine ⟨0, [], [], ad, m, cap, zs, Nat.zero_le _, rfl, rfl, HM.out, HCAP.out, Nat.le_refl _, HNIL.out, HI.out.below (hb.mono hP), HD.out, rfl, ?_, ⟨?_, Nat.le_refl _⟩, hb, rfl⟩
    · have h := hown
      rw [show Value.cells (.slice none 0 0) = #[.slice none 0 0] from rfl, Nat.mul_one, toList_madeCells_one] at h
      simpa [rowMix] using h
    · exact (hown.lt w.heap.size rfl).2
  case round =>
    clear hown hgrow
    obtain ⟨k, vs, acc, la, lm, lc, rest, hk, rfl, rfl, hrl, hlc, hlm, hlnil, hin, hdig, hvs, hown, hch, hbel, he⟩ := hrel
    by_cases hkn : k < n
    · cases hb : tkB rest
      · have e0 : spl n zs [] = none := by
          rw [he, show n - k = (n - k - 1) + 1 by omega]; exact spl_stop hb
        have HE := Lib.hid (splOk_none e0)
        have HB := Lib.hid hbel
        cases rest with
        | nil =>
          obtain rfl : lm = 0 := by simpa using hrl.symm
          clear hb he e0 hbel hown hch hin hdig hvs hrl
          go_wp2
          go_ret2
          rw [HE.out.1, HE.out.2]
          exact ansS_nil HB.out
        | cons x t =>
          have hx := hdig x (by simp)
          have hxl : (t.length : Int) < x := by
            rcases Int.lt_or_le t.length x with h | h
            · exact h
            · have := tkB_cons.2 ⟨hx.1, h⟩; rw [this] at hb; cases hb
          obtain ⟨bb, off, z, rfl, hbl, hc, hdr⟩ := hin.ints.at (k := 0) (by simp)
          obtain rfl : x = z := by simpa using (List.cons.inj hdr).1
          simp only [List.length_cons] at hrl
          have hlm1 : (1 : Int) ≤ (lm : Int) ∧ (lm : Int) ≤ x := by omega
          obtain ⟨hlm1, hlm2⟩ := hlm1
          obtain ⟨hx0, hx1⟩ := hx
          have hlm0 : 0 < lm := by omega
          rw [Nat.add_zero] at hc
          clear hb he e0 hbel hown hch hin hdig hvs hrl hdr hxl hlnil
          go_wp2
          go_ret2
          rw [HE.out.1, HE.out.2]
          exact ansS_nil HB.out
      · cases rest with
        | nil => simp [tkB] at hb
        | cons x t =>
          obtain ⟨hx0, hx1⟩ := tkB_cons.1 hb
          obtain ⟨q, rfl⟩ : ∃ q : Nat, x = (q : Int) := ⟨x.toNat, by omega⟩
          have hqt : q ≤ t.length := by omega
          have hrl' : lm = t.length + 1 := by simpa using hrl.symm
          have eA : tkA ((q : Int) :: t) = t.take q := by simp [tkA]
          have eR : tkR ((q : Int) :: t) = t.drop q := by simp [tkR, Nat.add_comm 1 q]
          have he2 : spl n zs [] = spl (n - (k + 1)) (t.drop q) (acc ++ [t.take q]) := by
            rw [he, show n - k = (n - (k + 1)) + 1 by omega, spl_go hb, eA, eR]
          obtain ⟨bb, off, z, rfl, hbl, hc, hdr⟩ := hin.ints.at (k := 0) (by simp)
          obtain rfl : (q : Int) = z := by simpa using (List.cons.inj hdr).1
          rw [Nat.add_zero] at hc
          have c1 := (hin.cut (cap := lc) 1 (by simp) (by simp; omega)).takeN q
          have c2 := hin.cut (cap := lc) (1 + q) (by simp; omega) (by simp; omega)
          rw [List.drop_one, List.tail_cons] at c1
          rw [show (((q : Int) :: t).drop (1 + q)) = t.drop q by rw [Nat.add_comm, List.drop_succ_cons]] at c2
          have hlq : (q : Int) < (lm : Int) := by omega
          have hq0 : 0 ≤ (q : Int) := by omega
          have hlqn : q < lm := by omega
          have ht1 : ((lm : Int) == 0) = false := by rw [beq_eq_false_iff_ne]; omega
          have ht2 : decide (lm ≤ q) = false := by rw [decide_eq_false_iff_not]; omega
          have hq1 : (q : Int) ≤ 1048576 := by omega
          have hlcq : (1 : Int) + q ≤ (lc : Int) := by omega
          have hlmq : (1 : Int) + q ≤ (lm : Int) := by omega
          have hlm0 : 0 < lm := by omega
          obtain ⟨d1, d2⟩ := rowMix_cell hown hvs hkn
          have HE := Lib.hid he2
          have HB := Lib.hid hbel
          have HO := Lib.hid hown
          have HC := Lib.hid hch
          have HV := Lib.hid hvs
          have HDG := Lib.hid hdig
          have HRL := Lib.hid hrl'
          by_cases g1 : lc = 1
          · subst g1
            obtain rfl : q = 0 := by omega
            obtain rfl : t = [] := List.length_eq_zero_iff.1 (by omega)
            obtain rfl : lm = 1 := by omega
            rw [if_pos rfl] at c1 c2
            rw [show ((0 : Nat) : Int) = 0 from rfl] at hc
            have C1 := Lib.hid c1
            have HOL := Lib.hid (own_lit wr [] (by simp) 3)
            clear hb he he2 hbel hown hch hin hdig hvs hrl hdr hlnil hx0 hx1 eA eR c1 c2 hrl' d1 d2 hqt hlq hq0 hq1 hlqn ht1 ht2 hlcq hlmq hlm0
            go_wp2_with (at_builtin; refine wpList_append_ints rfl _ _ 22 rfl wr.heap.size 3 j0 Try.underlying22 ji jz0 jz1 jz2 _ 0 [] rfl HOL.out (some ⟨bb, off, none⟩) 0 0 [] rfl rfl (C1.out.below ((ba wr _).mono (Nat.le_trans hP HB.out.size))).ints (fun h => by cases h) (by omega) (ba wr _).size ?_; intro v' w2 hown' hgrow; obtain ⟨va', vc', hv'⟩ := own_shape hown'; subst hv'; have hb2 := (ba wr (.cells #[] 3)).grown hgrow (ba wr _).size (fun q hq => (HOL.out.lt q hq).1); have HO1 := Lib.hid (owI_mk (zs := []) (by simpa using hown') hb2.size); obtain ⟨d1, d2⟩ := rowMix_cell (own_below HO.out hb2) HV.out hkn; have HB2 := Lib.hid hb2; clear hown' hgrow hb2)
            go_roundw
            case rel =>
              refine ⟨k + 1, vs ++ [.slice va' 0 vc'], acc ++ [[]], _, _, _, [], by omega, by go_num, rfl, ?_, ?_, ?_, (fun h => by cases h), ?_, ?_, ?_, ?_, ?_, ?_, HE.out⟩
              · simp
              · omega
              · omega
              · exact InB.nil
              · exact fun z hz => by cases hz
              · have := HV.out; simp [this]
              · have := ((own_below HO.out HB2.out).stored k (.slice va' 0 vc')).1
                rwa [rowMix_set HV.out hkn] at this
              · have := ((HC.out.below HB2.out).snoc HO1.out).mid (mid_cell w2 w.heap.size k (.slice va' 0 vc')) (.inr (Nat.le_refl _))
                exact this.wide (by simp) (Nat.le_refl _)
              · exact (HB.out.trans (HB2.out.mono HB.out.size)).setCell (Nat.le_refl _) _
            case measure => simp only [intOf]; omega
          by_cases g2 : lc = 1 + q
          · subst g2
            have hq00 : ¬ q = 0 := by omega
            rw [if_neg g1] at c1
            rw [if_pos rfl] at c2
            have C1 := Lib.hid c1
            have C2 := Lib.hid c2
            have HOL := Lib.hid (own_lit wr [] (by simp) 3)
            clear hb he he2 hbel hown hch hin hdig hvs hrl hdr hlnil hx0 hx1 eA eR c1 c2 hrl' d1 d2 g1
            go_wp2_with (at_builtin; refine wpList_append_ints rfl _ _ 22 rfl wr.heap.size 3 j0 Try.underlying22 ji jz0 jz1 jz2 _ 0 [] rfl HOL.out (some ⟨bb, off + 1, none⟩) (1 + q - 1) q (t.take q) rfl (by simp; omega) (C1.out.below ((ba wr _).mono (Nat.le_trans hP HB.out.size))).ints (fun h => by cases h) (by omega) (ba wr _).size ?_; intro v' w2 hown' hgrow; obtain ⟨va', vc', hv'⟩ := own_shape hown'; rw [show 0 + (1 + q - 1) = q by omega] at hv' hown'; subst hv'; have hb2 := (ba wr (.cells #[] 3)).grown hgrow (ba wr _).size (fun q hq => (HOL.out.lt q hq).1); have HO1 := Lib.hid (owI_mk (zs := t.take q) (by simpa using hown') hb2.size); obtain ⟨d1, d2⟩ := rowMix_cell (own_below HO.out hb2) HV.out hkn; have HB2 := Lib.hid hb2; clear hown' hgrow hb2)
            go_roundw
            case rel =>
              refine ⟨k + 1, vs ++ [.slice va' q vc'], acc ++ [t.take q], _, _, _, t.drop q, by omega, by go_num, rfl, ?_, ?_, ?_, (fun h => by cases h), ?_, ?_, ?_, ?_, ?_, ?_, HE.out⟩
              · have := HRL.out; simp; omega
              · omega
              · omega
              · exact (C2.out.below (HB2.out.mono (Nat.le_trans hP HB.out.size))).below ((Below.refl P w2).setCell (p := ⟨w.heap.size, k, none⟩) hP _)
              · exact fun z hz => HDG.out z (List.mem_cons_of_mem _ (List.mem_of_mem_drop hz))
              · have := HV.out; simp [this]
              · have := ((own_below HO.out HB2.out).stored k (.slice va' q vc')).1
                rwa [rowMix_set HV.out hkn] at this
              · have := ((HC.out.below HB2.out).snoc HO1.out).mid (mid_cell w2 w.heap.size k (.slice va' q vc')) (.inr (Nat.le_refl _))
                exact this.wide (by simp) (Nat.le_refl _)
              · exact (HB.out.trans (HB2.out.mono HB.out.size)).setCell (Nat.le_refl _) _
            case measure => simp only [intOf]; omega
          rw [if_neg g1] at c1
          rw [if_neg g2] at c2
          have C1 := Lib.hid c1
          have C2 := Lib.hid c2
          have HOL := Lib.hid (own_lit wr [] (by simp) 3)
          clear hb he he2 hbel hown hch hin hdig hvs hrl hdr hlnil hx0 hx1 eA eR c1 c2 hrl' d1 d2
          go_wp2_with (at_builtin; refine wpList_append_ints rfl _ _ 22 rfl wr.heap.size 3 j0 Try.underlying22 ji jz0 jz1 jz2 _ 0 [] rfl HOL.out (some ⟨bb, off + 1, none⟩) (1 + q - 1) (lc - 1) (t.take q) rfl (by simp; omega) (C1.out.below ((ba wr _).mono (Nat.le_trans hP HB.out.size))).ints (fun h => by cases h) (by omega) (ba wr _).size ?_; intro v' w2 hown' hgrow; obtain ⟨va', vc', hv'⟩ := own_shape hown'; rw [show 0 + (1 + q - 1) = q by omega] at hv' hown'; subst hv'; have hb2 := (ba wr (.cells #[] 3)).grown hgrow (ba wr _).size (fun q hq => (HOL.out.lt q hq).1); have HO1 := Lib.hid (owI_mk (zs := t.take q) (by simpa using hown') hb2.size); obtain ⟨d1, d2⟩ := rowMix_cell (own_below HO.out hb2) HV.out hkn; have HB2 := Lib.hid hb2; clear hown' hgrow hb2)
          go_roundw
          case rel =>
            refine ⟨k + 1, vs ++ [.slice va' q vc'], acc ++ [t.take q], _, _, _, t.drop q, by omega, by go_num, rfl, ?_, ?_, ?_, (fun h => by cases h), ?_, ?_, ?_, ?_, ?_, ?_, HE.out⟩
            · have := HRL.out; simp; omega
            · omega
            · omega
            · exact (C2.out.below (HB2.out.mono (Nat.le_trans hP HB.out.size))).below ((Below.refl P w2).setCell (p := ⟨w.heap.size, k, none⟩) hP _)
            · exact fun z hz => HDG.out z (List.mem_cons_of_mem _ (List.mem_of_mem_drop hz))
            · have := HV.out; simp [this]
            · have := ((own_below HO.out HB2.out).stored k (.slice va' q vc')).1
              rwa [rowMix_set HV.out hkn] at this
            · have := ((HC.out.below HB2.out).snoc HO1.out).mid (mid_cell w2 w.heap.size k (.slice va' q vc')) (.inr (Nat.le_refl _))
              exact this.wide (by simp) (Nat.le_refl _)
            · exact (HB.out.trans (HB2.out.mono HB.out.size)).setCell (Nat.le_refl _) _
          case measure => simp only [intOf]; omega
    · have HE := Lib.hid he
      have HB := Lib.hid hbel
      have HO := Lib.hid hown
      have HC := Lib.hid hch
      have HV := Lib.hid hvs
      have HRL := Lib.hid hrl
      obtain rfl : k = n := by omega
      clear he hbel hown hch hin hdig hvs hlnil hrl
      by_cases h0 : lm = 0
      · subst h0
        obtain rfl : rest = [] := List.length_eq_zero_iff.1 HRL.out
        go_wp2
        go_ret2
        have e1 := HE.out
        rw [Nat.sub_self] at e1
        obtain ⟨q1, q2⟩ := splOk_some (show spl k zs [] = some (acc, []) from e1)
        rw [q1, q2]
        have hlen : acc.length = k := by have := HC.out.len; have := HV.out; omega
        refine ⟨_, rfl, ⟨w.heap.size + 1, vs, ?_, HC.out⟩, HB.out⟩
        have h := HO.out
        unfold rowMix at h
        rw [HV.out] at h
        simp only [Nat.sub_self, List.replicate_zero, List.append_nil] at h
        rw [hlen]
        refine ⟨h, ?_, (HC.out.le).1, Nat.le_succ _⟩
        rintro g ⟨⟩
        exact Nat.lt_succ_self _
      · have hl0 : 0 < lm := by omega
        have hl1 : (0 : Int) < (lm : Int) := by omega
        go_wp2
        go_ret2
        have e1 := HE.out
        rw [Nat.sub_self] at e1
        obtain ⟨q1, q2⟩ := splOk_more (show spl k zs [] = some (acc, rest) from e1) (fun h => by have := HRL.out; rw [h] at this; simp at this; omega)
        rw [q1, q2]
        exact ansS_nil HB.out

end Go.Proofs.Ytmiohdibbpckaaa

