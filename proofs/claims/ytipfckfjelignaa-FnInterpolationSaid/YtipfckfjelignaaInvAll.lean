/- InvertAll of the program and of the reference. -/
import Derived.Test.YtipfckfjelignaaBas
import Derived.Laws.AppendOwn
namespace Go.Proofs.Ytipfckfjelignaa
open Go.RowKit

def invAll (zs : List Int) (m : Int) : List Int := zs.map fun z => Num.inv z m
def invAllOk (zs : List Int) (m : Int) : Bool := listB zs m && zs.all fun z => Num.invOk z m
def invAllRes (zs : List Int) (m : Int) : List Int := if invAllOk zs m then invAll zs m else []

theorem invAll_length (zs : List Int) (m : Int) : (invAll zs m).length = zs.length := by simp [invAll]
theorem invAll_get {zs rest : List Int} {z m : Int} {k : Nat} (h : zs.drop k = z :: rest) (hk : k < (invAll zs m).length) : (invAll zs m)[k] = Num.inv z m := by
  have hk' : k < zs.length := by rwa [invAll_length] at hk
  have hz : zs[k] = z := by rw [List.drop_eq_getElem_cons hk'] at h; simpa using (List.cons.inj h).1
  simp [invAll, hz]

theorem inv_store {wr : World} {B g n cap k : Nat} {xs ys : List Int} {x : Int} (hown : wr.ownsRow B 3 1 (.slice (some ⟨g, 0, none⟩) n cap) n ((over xs ys k).map (Value.int .i64)))
    (hx : ∀ h : k < xs.length, xs[k] = x) (hk : k < xs.length) (hk' : k < ys.length) :
    (wr.setCell ⟨g, k, none⟩ (.int .i64 x)).ownsRow B 3 1 (.slice (some ⟨g, 0, none⟩) n cap) n ((over xs ys (k + 1)).map (Value.int .i64)) := by
  have := (hown.stored k (.int .i64 x)).1
  have e := over_step hk hk'
  rw [hx hk] at e
  rwa [← List.map_set, e] at this

set_option maxHeartbeats 1600000 in
theorem invertAll_any (ad : Option Addr) (n cap : Nat) (zs : List Int) (m : Int) (hn : zs.length = n) (hl : n ≤ 17592186044416) (w : World) (hz : IsInts w ad zs) :
    Calls Try.prog 14 #[.slice ad n cap, .int .i64 m] w (ListOut w (invAllRes zs m) (invAllOk zs m)) := by
  have HN := Lib.hid hn
  clear hn
  cases hr : listB zs m
  · have e1 : invAllOk zs m = false := by simp [invAllOk, hr]
    have e2 : invAllRes zs m = [] := by simp [invAllRes, e1]
    rw [e1, e2]
    have HR := Lib.hid hr
    clear hr e1 e2
    go_enter Try.func14, Try.ntmps14
    go_wp2_with (go_at_call 61; refine (areResidues_any _ _ _ _ _ HN.out (by omega) _ hz).mono ?_; rintro e w' ⟨rfl, rfl⟩; rw [HR.out])
    go_ret2
    exact listOut_nil _ _ (Below.refl _ _)
  · obtain ⟨h2, h3, h4, h5⟩ := res_of_list hr
    have e1 : invAllOk zs m = zs.all fun z => Num.invOk z m := by simp [invAllOk, hr]
    have H5 := Lib.hid h5
    have H4 := Lib.hid h4
    have HR := Lib.hid hr
    have HE1 := Lib.hid e1
    clear hr h5 h4 e1
    obtain ⟨i0, hi, hz0, hz1, hz2⟩ := info_parts Try.info3
    have HZ2 := Lib.hid hz2
    clear hz2
    go_enter Try.func14, Try.ntmps14
    go_wp2_with (first | (go_at_call 61; refine (areResidues_any _ _ _ _ _ HN.out (by omega) _ hz).mono ?_; rintro e w' ⟨rfl, rfl⟩; rw [HR.out]) | (at_make; refine wpList_make_full _ rfl _ _ 27 rfl w.heap.size 3 i0 (.int .i64 0) 1 Try.underlying27 hi hz0 hz1 .i64 .i64 _ _ n rfl rfl rfl rfl (by rw [HZ2.out]; omega) (by unfold maxLen; omega) (Nat.le_refl _) ?_; intro w1 hown hgrow))
    go_loopw [20] (fun K wr => ∃ k : Nat, k ≤ n ∧ K = .int .i64 k ∧ wr.ownsRow w.heap.size 3 1 (.slice (some ⟨w.heap.size, 0, none⟩) n n) n ((over (invAll zs m) (List.replicate n 0) k).map (Value.int .i64)) ∧ Below w.heap.size w wr ∧ (zs.all fun z => Num.invOk z m) = ((zs.drop k).all fun z => Num.invOk z m)) (fun K _ => n - (intOf K).toNat)
    case atStart =>
      refine ⟨0, Nat.zero_le _, rfl, ?_, (Below.refl _ _).grown hgrow (Nat.le_refl _) (by simp), rfl⟩
      rw [over_zero]
      have h := hown
      rw [show Value.cells (.int .i64 0) = #[.int .i64 0] from rfl, Nat.mul_one, toList_madeCells_one] at h
      simpa using h
    case round =>
      obtain ⟨k, hk, rfl, hownr, hbel, he⟩ := hrel
      clear hown hgrow
      by_cases hkn : k < n
      · obtain ⟨b, off, z, rfl, hb, hc, hd⟩ := (hz.below hbel (Nat.le_refl _)).at (k := k) (by have := HN.out; omega)
        obtain ⟨⟨u, hcu⟩, hfu⟩ := own_cell hownr hkn
        obtain ⟨hza, hzb⟩ := H5.out z (mem_drop hd)
        have HS := Lib.hid (all_step hd he)
        have HO := Lib.hid (inv_store hownr (fun h => invAll_get hd h) (by rw [invAll_length]; have := HN.out; omega) (by simpa using hkn))
        have HB := Lib.hid hbel
        clear hownr hbel hd he
        cases hok : Num.invOk z m
        · have HK := Lib.hid hok
          clear hok
          go_wp2_with (go_at_call 55; refine (invert_any _ _ (by omega) (by omega) (by omega) _).mono ?_; rintro e w' ⟨rfl, rfl⟩; rw [HK.out])
          go_ret2
          have e3 : invAllOk zs m = false := HE1.out.trans (HS.out.2 HK.out)
          have e2 : invAllRes zs m = [] := by simp [invAllRes, e3]
          rw [e3, e2]
          exact listOut_nil _ _ HB.out
        · have HK := Lib.hid hok
          clear hok
          go_wp2_with (go_at_call 55; refine (invert_any _ _ (by omega) (by omega) (by omega) _).mono ?_; rintro e w' ⟨rfl, rfl⟩; rw [HK.out])
          go_roundw
          case rel => exact ⟨k + 1, by omega, by go_num, HO.out, HB.out.setCell (Nat.le_refl _) _, HS.out.1 HK.out⟩
          case measure => simp only [intOf]; omega
      · have HO := Lib.hid hownr
        have HB := Lib.hid hbel
        have HE := Lib.hid he
        clear hownr hbel he
        go_wp2
        go_ret2
        have e3 : invAllOk zs m = true := by rw [HE1.out, HE.out, List.drop_of_length_le (by have := HN.out; omega)]; rfl
        have e2 : invAllRes zs m = invAll zs m := by simp [invAllRes, e3]
        rw [e3, e2]
        refine ⟨_, n, n, rfl, ?_, HB.out⟩
        have h := HO.out
        rwa [over_all _ _ (by rw [invAll_length]; have := HN.out; omega) (by simp; omega)] at h


theorem invAll_take {zs rest : List Int} {z m : Int} {k : Nat} (h : zs.drop k = z :: rest) (hk : Num.invOk z m = true) : (invAll zs m).take (k + 1) = (invAll zs m).take k ++ [Num.ninv z m] := by
  have hk' : k < zs.length := by
    rcases Nat.lt_or_ge k zs.length with h' | h'
    · exact h'
    · rw [List.drop_of_length_le h'] at h; cases h
  have hz : zs[k] = z := by rw [List.drop_eq_getElem_cons hk'] at h; simpa using (List.cons.inj h).1
  rw [List.take_succ_eq_append_getElem (by rw [invAll_length]; exact hk')]
  simp [invAll, hz, Num.inv_ninv, hk]

set_option maxHeartbeats 1600000 in
theorem sInvertAll_any (ad : Option Addr) (n cap : Nat) (zs : List Int) (m : Int) (hn : zs.length = n) (hl : n ≤ 17592186044416) (w : World) (hz : IsInts w ad zs) :
    Calls Try.prog 15 #[.slice ad n cap, .int .i64 m] w (ListOut w (invAllRes zs m) (invAllOk zs m)) := by
  have HN := Lib.hid hn
  clear hn
  cases hm : modB m
  · have e1 : invAllOk zs m = false := by simp [invAllOk, listB, hm]
    have e2 : invAllRes zs m = [] := by simp [invAllRes, e1]
    rw [e1, e2]
    have HM := Lib.hid hm
    clear hm e1 e2
    go_enter Try.func15, Try.ntmps15
    go_wp2_with (go_at_call 56; refine (nModulus_any _ _).mono ?_; rintro e w' ⟨rfl, rfl⟩; rw [HM.out])
    go_ret2
    exact listOut_nil _ _ (Below.refl _ _)
  · have HM := Lib.hid hm
    clear hm
    cases hr : listB zs m
    · have e1 : invAllOk zs m = false := by simp [invAllOk, hr]
      have e2 : invAllRes zs m = [] := by simp [invAllRes, e1]
      rw [e1, e2]
      have HR := Lib.hid hr
      clear hr e1 e2
      go_enter Try.func15, Try.ntmps15
      go_wp2_with (first | (go_at_call 56; refine (nModulus_any _ _).mono ?_; rintro e w' ⟨rfl, rfl⟩; rw [HM.out]) | (go_at_call 62; refine (nList_any _ _ _ _ _ HN.out (by omega) HM.out _ hz).mono ?_; rintro e w' ⟨rfl, rfl⟩; rw [HR.out]))
      go_ret2
      exact listOut_nil _ _ (Below.refl _ _)
    · obtain ⟨h2, h3, h4, h5⟩ := res_of_list hr
      have e1 : invAllOk zs m = zs.all fun z => Num.invOk z m := by simp [invAllOk, hr]
      have H5 := Lib.hid h5
      have HR := Lib.hid hr
      have HE1 := Lib.hid e1
      clear hr h5 h4 e1
      obtain ⟨i0, hi, hz0, hz1, hz2⟩ := info_parts Try.info3
      go_enter Try.func15, Try.ntmps15
      go_wp2_with (first | (go_at_call 56; refine (nModulus_any _ _).mono ?_; rintro e w' ⟨rfl, rfl⟩; rw [HM.out]) | (go_at_call 62; refine (nList_any _ _ _ _ _ HN.out (by omega) HM.out _ hz).mono ?_; rintro e w' ⟨rfl, rfl⟩; rw [HR.out]))
      go_loopw [6, 22] (fun V K wr => ∃ (k : Nat) (va : Option Addr) (vc : Nat), k ≤ n ∧ K = .int .i64 k ∧ V = .slice va k vc ∧ wr.ownsRow w.heap.size 3 1 (.slice va k vc) k (((invAll zs m).take k).map (Value.int .i64)) ∧ Below w.heap.size w wr ∧ (zs.all fun z => Num.invOk z m) = ((zs.drop k).all fun z => Num.invOk z m)) (fun _ K _ => n - (intOf K).toNat)
      case atStart => exact ⟨0, none, 0, Nat.zero_le _, rfl, rfl, World.ownsRow_nil _ _ _ _, Below.refl _ _, rfl⟩
      case round =>
        obtain ⟨k, va, vc, hk, rfl, rfl, hownr, hbel, he⟩ := hrel
        by_cases hkn : k < n
        · obtain ⟨b, off, z, rfl, hb, hc, hd⟩ := (hz.below hbel (Nat.le_refl _)).at (k := k) (by have := HN.out; omega)
          obtain ⟨hza, hzb⟩ := H5.out z (mem_drop hd)
          have HS := Lib.hid (all_step hd he)
          have HT := Lib.hid (fun h => invAll_take (m := m) hd h)
          have HB := Lib.hid hbel
          clear hbel hd he
          cases hok : Num.invOk z m
          · have HK := Lib.hid hok
            have HO := Lib.hid hownr
            clear hok hownr
            go_wp2_with (go_at_call 58; refine (nInverse_any _ _ (by omega) (by omega) (by omega) (by omega) _).mono ?_; rintro e w' ⟨rfl, rfl⟩; rw [HK.out])
            go_ret2
            have e3 : invAllOk zs m = false := HE1.out.trans (HS.out.2 HK.out)
            have e2 : invAllRes zs m = [] := by simp [invAllRes, e3]
            rw [e3, e2]
            exact listOut_nil _ _ HB.out
          · have HK := Lib.hid hok
            have HO := Lib.hid hownr
            clear hok hownr
            go_wp2_with (first
              | (go_at_call 58; refine (nInverse_any _ _ (by omega) (by omega) (by omega) (by omega) _).mono ?_; rintro e w' ⟨rfl, rfl⟩; rw [HK.out])
              | (at_builtin; refine wpList_append_own _ rfl _ _ 27 rfl w.heap.size 3 i0 (.int .i64 0) 1 8 Try.underlying27 hi hz0 hz1 hz2 rfl (by decide) _ _ _ rfl (HO.out.alloc _) ⟨wr.heap.size, 0, none⟩ 1 1 [.int .i64 (Num.ninv z m)] rfl rfl ?c1 ?c2 ?c3 ?c4 ?c5 ?_))
            case c1 => exact cell_one_new _ _ _
            case c2 => intro u hu; simp at hu; subst hu; rfl
            case c3 => unfold maxLen; omega
            case c4 => omega
            case c5 => have := HB.out.size; simp; omega
            intro v' w1 hown' hgrow _
            obtain ⟨va', vc', rfl⟩ := own_shape hown'
            have HO2 := Lib.hid hown'
            have HG := Lib.hid hgrow
            clear hown' hgrow
            go_wp2
            go_roundw
            case rel =>
              refine ⟨k + 1, va', vc', by omega, by go_num, rfl, ?_, ?_, HS.out.1 HK.out⟩
              · have h := HO2.out
                rw [HT.out HK.out, List.map_append, List.map_take]
                exact h
              · exact (HB.out.alloc HB.out.size _).grown HG.out (Nat.le_trans HB.out.size (by simp)) (fun q hq => (HO.out.lt q hq).1)
            case measure => simp only [intOf]; omega
        · have HO := Lib.hid hownr
          have HB := Lib.hid hbel
          have HE := Lib.hid he
          clear hownr hbel he
          go_wp2
          go_ret2
          have e3 : invAllOk zs m = true := by rw [HE1.out, HE.out, List.drop_of_length_le (by have := HN.out; omega)]; rfl
          have e2 : invAllRes zs m = invAll zs m := by simp [invAllRes, e3]
          rw [e3, e2]
          obtain rfl : k = n := by omega
          refine ⟨va, k, vc, rfl, ?_, HB.out⟩
          have h := HO.out
          rwa [List.take_of_length_le (by rw [invAll_length]; have := HN.out; omega)] at h


theorem invAllRes_le (zs : List Int) (m : Int) : (invAllRes zs m).length ≤ zs.length := by
  unfold invAllRes; split
  · rw [invAll_length]; exact Nat.le_refl _
  · simp

end Go.Proofs.Ytipfckfjelignaa

