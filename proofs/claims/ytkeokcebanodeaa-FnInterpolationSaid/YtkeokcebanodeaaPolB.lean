/- Sums of polynomials. -/
import Derived.Test.YtkeokcebanodeaaPolA
import Derived.Laws.CopyOwn
namespace Go.Proofs.Ytkeokcebanodeaa
open Go.RowKit

theorem Try.sizeI : (Try.prog.info? 3).map (·.size) = some 1 := by kernel_rfl

/-- A row of one's own whose length is its capacity: the whole block. -/
theorem row_full {w : World} {B g n : Nat} {zs : List Int} (h : w.ownsRow B 3 1 (.slice (some ⟨g, 0, none⟩) n n) n (zs.map (Value.int .i64))) :
    w.heap[g]? = some (.cells (zs.map (Value.int .i64)).toArray 3 (0, 0)) ∧ B ≤ g ∧ zs.length = n := by
  have hn : zs.length = n := by have := h.1; simpa using this
  rcases h.2 with ⟨h1, _⟩ | ⟨g', cap', cur, h1, h2, h3, _, _, h6, h7⟩
  · cases h1
  · simp only [Value.slice.injEq, Option.some.injEq, Addr.mk.injEq, and_true, true_and] at h1
    obtain ⟨rfl, rfl⟩ := h1
    refine ⟨?_, h2, hn⟩
    rw [Nat.mul_one] at h6 h7
    rw [List.take_of_length_le (by simp [h6])] at h7
    rw [h3, ← h7]
theorem row_mk {w : World} {B g n : Nat} {zs : List Int} (h : w.heap[g]? = some (.cells (zs.map (Value.int .i64)).toArray 3 (0, 0))) (hB : B ≤ g) (hn : zs.length = n) (hl : n ≤ 1000000) :
    w.ownsRow B 3 1 (.slice (some ⟨g, 0, none⟩) n n) n (zs.map (Value.int .i64)) := by
  refine ⟨by simp [hn], .inr ⟨g, n, _, rfl, hB, h, Nat.le_refl _, by unfold maxLen; omega, by simp [hn], ?_⟩⟩
  rw [List.take_of_length_le (by simp [hn])]
theorem made_zeros {w : World} {B g n : Nat} (h : w.ownsRow B 3 1 (.slice (some ⟨g, 0, none⟩) n n) n (madeCells (Value.cells (.int .i64 0)) (n * 1)).toList) :
    w.ownsRow B 3 1 (.slice (some ⟨g, 0, none⟩) n n) n ((List.replicate n (0 : Int)).map (Value.int .i64)) := by
  rw [show Value.cells (.int .i64 0) = #[.int .i64 0] from rfl, Nat.mul_one, toList_madeCells_one] at h
  simpa using h
theorem ints_copy {w : World} {ad : Option Addr} {zs : List Int} (h : IsInts w ad zs) {cs : List Value} (hc : cs = zs.map (Value.int .i64)) (h0 : 0 < cs.length) :
    ∃ a, ad = some a ∧ ∀ j v, cs[j]? = some v → w.cell? (a.add j) = some v := by
  subst hc
  rcases h with rfl | ⟨b, off, rfl, _, hcell⟩
  · simp at h0
  · refine ⟨_, rfl, fun j v hv => ?_⟩
    rw [List.getElem?_map] at hv
    have hj : j < zs.length := by
      rcases Nat.lt_or_ge j zs.length with h | h
      · exact h
      · rw [List.getElem?_eq_none h] at hv; cases hv
    have := hcell j hj
    simp only [hj, List.getElem?_eq_getElem, Option.map_some, Option.some.injEq] at hv
    have e : Addr.add ⟨b, off, none⟩ j = ⟨b, off + j, none⟩ := by simp [Addr.add]
    rw [e, this, ← hv]
    simp [hj]
theorem ints_one {zs : List Int} : ∀ v ∈ zs.map (Value.int .i64), v.oneCell' = true := by
  intro v hv; obtain ⟨z, _, rfl⟩ := List.mem_map.1 hv; rfl

theorem splice_fill {N : Nat} {fs : List Int} : splice ((List.replicate N (0 : Int)).map (Value.int .i64)) 0 (fs.map (Value.int .i64)) = (fs ++ List.replicate (N - fs.length) 0).map (Value.int .i64) := by
  unfold splice
  simp
def addRes (q : Int) (fs gs : List Int) : List Int := if fieldB q [fs, gs] then pAdd q fs gs else []
theorem field_two {q : Int} {fs gs : List Int} (h : fieldB q [fs, gs] = true) : isPr q = true ∧ shortB fs q = true ∧ shortB gs q = true := by
  simpa [fieldB] using h
theorem field_one {q : Int} {fs : List Int} (h : fieldB q [fs] = true) : isPr q = true ∧ shortB fs q = true := by
  simpa [fieldB] using h

set_option maxHeartbeats 1600000 in
theorem addPolys_any (q : Int) (ad ad' : Option Addr) (n n' cap cap' : Nat) (fs gs : List Int) (hn : fs.length = n) (hn' : gs.length = n') (hl : n ≤ 17592186044416) (hl' : n' ≤ 17592186044416) (w : World) (hx : IsInts w ad fs) (hy : IsInts w ad' gs) :
    Calls Try.prog 18 #[.int .i64 q, .slice ad n cap, .slice ad' n' cap'] w (ListOut w (addRes q fs gs) (fieldB q [fs, gs])) := by
  have HR := Lib.hid (rows_two w ad ad' n n' cap cap' fs gs hn hn' 23 hx hy)
  have HLL := Lib.hid (show ∀ r ∈ ([(ad, cap, fs), (ad', cap', gs)] : List RowD), r.2.2.length ≤ 17592186044416 by intro r hr; simp at hr; rcases hr with rfl | rfl <;> simp <;> omega)
  have hb0 := (Below.refl w.heap.size w).alloc (Nat.le_refl _) (.cells #[.slice ad n cap, .slice ad' n' cap'] 23)
  cases hf : fieldB q [fs, gs]
  · have e2 : addRes q fs gs = [] := by simp [addRes, hf]
    rw [e2]
    have HF := Lib.hid (show fieldB q (List.map (fun r : RowD => r.2.2) [(ad, cap, fs), (ad', cap', gs)]) = false from hf)
    have HB0 := Lib.hid hb0
    clear hf e2 hn hn' hb0
    go_enter Try.func18, Try.ntmps18
    go_wp2_with fail
    refine (inField_any _ _ 0 2 _ [(ad, cap, fs), (ad', cap', gs)] rfl (by omega) HLL.out _ HR.out).mono ?_
    rintro e w' ⟨rfl, rfl⟩; rw [HF.out]
    go_wp2
    go_ret2
    exact listOut_nil _ _ HB0.out
  · obtain ⟨_, hsf, hsg⟩ := field_two hf
    obtain ⟨h2, h3, hfl, hfr⟩ := shortB_of hsf
    obtain ⟨_, _, hgl, hgr⟩ := shortB_of hsg
    have e2 : addRes q fs gs = pAdd q fs gs := by simp [addRes, hf]
    rw [e2]
    obtain ⟨i0, hi, hz0, hz1, hz2⟩ := info_parts Try.info3
    have HZ2 := Lib.hid hz2
    have HF := Lib.hid (show fieldB q (List.map (fun r : RowD => r.2.2) [(ad, cap, fs), (ad', cap', gs)]) = true from hf)
    have HFR := Lib.hid hfr
    have HGR := Lib.hid hgr
    have HN := Lib.hid hn
    have HN' := Lib.hid hn'
    have hn24 : n ≤ 24 := by omega
    have hn24' : n' ≤ 24 := by omega
    have HX1 := Lib.hid (hx.below hb0 (Nat.le_refl _))
    have HY1 := Lib.hid (hy.below hb0 (Nat.le_refl _))
    have HB0 := Lib.hid hb0
    clear hf e2 hn hn' hb0 hfr hgr hfl hgl hz2 hsf hsg
    by_cases hlt : n < n'
    · have hmx : max n n' = n' := by omega
      go_enter Try.func18, Try.ntmps18
      go_wp2_with fail
      refine (inField_any _ _ 0 2 _ [(ad, cap, fs), (ad', cap', gs)] rfl (by omega) HLL.out _ HR.out).mono ?_
      rintro e w' ⟨rfl, rfl⟩; rw [HF.out]
      go_wp2_with (first
        | (at_make
           refine wpList_make_full _ rfl _ _ 23 rfl w.heap.size 3 i0 (.int .i64 0) 1 Try.underlying23 hi hz0 hz1 .i64 .i64 _ _ n' rfl rfl rfl rfl (by rw [HZ2.out]; omega) (by unfold maxLen; omega) (by simp) ?_
           intro w1 hown hgrow
           simp only [World.size_alloc] at hown ⊢
           obtain ⟨hc, hBg, _⟩ := row_full (made_zeros hown)
           have HC := Lib.hid hc
           have HX2 := Lib.hid (HX1.out.grown hgrow (by simp))
           have HB1 := Lib.hid (HB0.out.grown hgrow (by simp) (by simp))
           clear hc hown hgrow)
        | (with_reducible show wpList _ _ _ _ _ _
           (refine wpList_copy_splice rfl (.tmp 21) (.tmp 22) 23 23 rfl 3 Try.underlying23 Try.sizeI (some ⟨w.heap.size + 1, 0, none⟩) ad n' n' n cap (by rfl) (by rfl) (w.heap.size + 1) 0 _ 3 HC.out (fs.map (Value.int .i64)) (by show _ = min _ _; simp only [List.length_map, HN.out]; omega) (fun h => ⟨rfl, ints_copy HX2.out rfl h⟩) (by simp only [List.length_map, List.length_replicate, HN.out]; omega) ints_one w.heap.size w HB1.out hBg ?_)
           intro w2 hg2 hb2
           have HG2 := Lib.hid hg2.out
           have HB2 := Lib.hid hb2
           clear hg2 hb2)
        | fail)
      have hg3 := HG2.out
      rw [splice_fill] at hg3
      have hown2 := row_mk (B := w.heap.size) hg3 hBg (by simp only [List.length_append, List.length_replicate, HN.out]; omega) (show n' ≤ 1000000 by omega)
      have hPr : ∀ z ∈ fs ++ List.replicate (n' - fs.length) 0, 0 ≤ z ∧ z < q := fun z hz => (List.mem_append.1 hz).elim (HFR.out z) (zeros_res (by omega) _ z)
      refine (addMultiple_any q 1 w.heap.size (w.heap.size + 1) 0 n' n' n' n' _ ad' n' cap' gs h2 h3 (by omega) (by omega) hPr HGR.out HN'.out (by omega) (by omega) (by omega) _ hown2 (hy.below HB2.out (Nat.le_refl _)) (ints_ne hy (by omega))).mono ?_
      rintro e w3 ⟨⟨v, rfl⟩, hown3, hgr3⟩
      have HO3 := Lib.hid hown3
      have HB3 := Lib.hid (HB2.out.grown hgr3 HB2.out.size (by simp))
      clear hown2 hown3 hgr3 hg3 hPr
      go_wp2
      go_ret2
      refine ⟨_, _, _, rfl, ?_, HB3.out⟩
      have h := HO3.out
      simp only [List.take_zero, List.drop_zero, List.nil_append] at h
      unfold pAdd
      rw [HN.out, HN'.out, hmx]
      rwa [HN.out] at h
    · have hmx : max n n' = n := by omega
      go_enter Try.func18, Try.ntmps18
      go_wp2_with fail
      refine (inField_any _ _ 0 2 _ [(ad, cap, fs), (ad', cap', gs)] rfl (by omega) HLL.out _ HR.out).mono ?_
      rintro e w' ⟨rfl, rfl⟩; rw [HF.out]
      go_wp2_with (first
        | (at_make
           refine wpList_make_full _ rfl _ _ 23 rfl w.heap.size 3 i0 (.int .i64 0) 1 Try.underlying23 hi hz0 hz1 .i64 .i64 _ _ n rfl rfl rfl rfl (by rw [HZ2.out]; omega) (by unfold maxLen; omega) (by simp) ?_
           intro w1 hown hgrow
           simp only [World.size_alloc] at hown ⊢
           obtain ⟨hc, hBg, _⟩ := row_full (made_zeros hown)
           have HC := Lib.hid hc
           have HX2 := Lib.hid (HX1.out.grown hgrow (by simp))
           have HB1 := Lib.hid (HB0.out.grown hgrow (by simp) (by simp))
           clear hc hown hgrow)
        | (with_reducible show wpList _ _ _ _ _ _
           (refine wpList_copy_splice rfl (.tmp 21) (.tmp 22) 23 23 rfl 3 Try.underlying23 Try.sizeI (some ⟨w.heap.size + 1, 0, none⟩) ad n n n cap (by rfl) (by rfl) (w.heap.size + 1) 0 _ 3 HC.out (fs.map (Value.int .i64)) (by show _ = min _ _; simp only [List.length_map, HN.out]; omega) (fun h => ⟨rfl, ints_copy HX2.out rfl h⟩) (by simp only [List.length_map, List.length_replicate, HN.out]; omega) ints_one w.heap.size w HB1.out hBg ?_)
           intro w2 hg2 hb2
           have HG2 := Lib.hid hg2.out
           have HB2 := Lib.hid hb2
           clear hg2 hb2)
        | fail)
      have hg3 := HG2.out
      rw [splice_fill] at hg3
      have hown2 := row_mk (B := w.heap.size) hg3 hBg (by simp only [List.length_append, List.length_replicate, HN.out]; omega) (show n ≤ 1000000 by omega)
      have hPr : ∀ z ∈ fs ++ List.replicate (n - fs.length) 0, 0 ≤ z ∧ z < q := fun z hz => (List.mem_append.1 hz).elim (HFR.out z) (zeros_res (by omega) _ z)
      refine (addMultiple_any q 1 w.heap.size (w.heap.size + 1) 0 n n n n _ ad' n' cap' gs h2 h3 (by omega) (by omega) hPr HGR.out HN'.out (by omega) (by omega) (by omega) _ hown2 (hy.below HB2.out (Nat.le_refl _)) (ints_ne hy (by omega))).mono ?_
      rintro e w3 ⟨⟨v, rfl⟩, hown3, hgr3⟩
      have HO3 := Lib.hid hown3
      have HB3 := Lib.hid (HB2.out.grown hgr3 HB2.out.size (by simp))
      clear hown2 hown3 hgr3 hg3 hPr
      go_wp2
      go_ret2
      refine ⟨_, _, _, rfl, ?_, HB3.out⟩
      have h := HO3.out
      simp only [List.take_zero, List.drop_zero, List.nil_append] at h
      unfold pAdd
      rw [HN.out, HN'.out, hmx]
      rwa [HN.out] at h

end Go.Proofs.Ytkeokcebanodeaa
