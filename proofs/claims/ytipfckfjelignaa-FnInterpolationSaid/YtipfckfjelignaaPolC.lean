/- Sums of the reference; products of both. -/
import Derived.Test.YtipfckfjelignaaPolB
import Derived.Test.YtipfckfjelignaaTyI
import Derived.Test.YtipfckfjelignaaCur
namespace Go.Proofs.Ytipfckfjelignaa
open Go.RowKit

theorem ownOut_mk {w w' : World} {va : Option Addr} {n vc : Nat} {zs : List Int} (h : w'.ownsRow w.heap.size 3 1 (.slice va n vc) n (zs.map (Value.int .i64))) (hb : Below w.heap.size w w') : OwnOut w zs (.returned (.slice va n vc)) w' := by
  have hn : zs.length = n := by have := h.1; simpa using this
  subst hn
  exact ⟨va, vc, rfl, h, hb⟩

set_option maxHeartbeats 1600000 in
theorem yAdd_any (q : Int) (ad ad' : Option Addr) (n n' cap cap' : Nat) (fs gs : List Int) (hn : fs.length = n) (hn' : gs.length = n') (hl : n ≤ 100000) (hl' : n' ≤ 100000) (h2 : 2 ≤ q) (h3 : q ≤ 2000000000)
    (hfr : ∀ z ∈ fs, 0 ≤ z ∧ z < q) (hgr : ∀ z ∈ gs, 0 ≤ z ∧ z < q) (w : World) (hx : IsInts w ad fs) (hy : IsInts w ad' gs) :
    Calls Try.prog 133 #[.int .i64 q, .slice ad n cap, .slice ad' n' cap'] w (OwnOut w (pAdd q fs gs)) := by
  obtain ⟨i0, hi, hz0, hz1, hz2⟩ := info_parts Try.info3
  have HZ2 := Lib.hid hz2
  have HFR := Lib.hid hfr
  have HGR := Lib.hid hgr
  have HN := Lib.hid hn
  have HN' := Lib.hid hn'
  obtain ⟨N, hN⟩ : ∃ N, max n n' = N := ⟨_, rfl⟩
  have HM := Lib.hid (show max (n : Int) (n' : Int) = (N : Int) by omega)
  have hNn : n ≤ N := by omega
  have hNn' : n' ≤ N := by omega
  have hN2 : N ≤ 100000 := by omega
  have HMX := Lib.hid hN
  clear hn hn' hfr hgr hz2 hN
  go_enter Try.func133, Try.ntmps133
  go_wp2_with fail
  refine (l1Most_any _ _ _).mono ?_
  rintro e w' ⟨rfl, rfl⟩; rw [HM.out]
  go_wp2_with (first
    | (at_make
       refine wpList_make_full _ rfl _ _ 27 rfl w.heap.size 3 i0 (.int .i64 0) 1 Try.underlying27 hi hz0 hz1 .i64 .i64 _ _ N rfl rfl rfl rfl (by rw [HZ2.out]; omega) (by unfold maxLen; omega) (by simp) ?_
       intro w1 hown hgrow
       obtain ⟨hc, hBg, _⟩ := row_full (made_zeros hown)
       have HC := Lib.hid hc
       have HX2 := Lib.hid (hx.grown hgrow (by simp))
       have HB1 := Lib.hid ((Below.refl w.heap.size w).grown hgrow (Nat.le_refl _) (by simp))
       clear hc hown hgrow)
    | (with_reducible show wpList _ _ _ _ _ _
       refine wpList_copy_splice rfl (.tmp 16) (.tmp 17) 27 27 rfl 3 Try.underlying27 Try.sizeI (some ⟨w.heap.size, 0, none⟩) ad N N n cap (by rfl) (by rfl) w.heap.size 0 _ 3 HC.out (fs.map (Value.int .i64)) (by show _ = min _ _; simp only [List.length_map, HN.out]; omega) (fun h => ⟨rfl, ints_copy HX2.out rfl h⟩) (by simp only [List.length_map, List.length_replicate, HN.out]; omega) ints_one w.heap.size w HB1.out hBg ?_
       intro w2 hg2 hb2
       have HG2 := Lib.hid hg2.out
       have HB2 := Lib.hid hb2
       clear hg2 hb2)
    | fail)
  have hg3 := HG2.out
  rw [splice_fill] at hg3
  obtain ⟨P, hP⟩ : ∃ P, P = fs ++ List.replicate (N - fs.length) 0 := ⟨_, rfl⟩
  rw [← hP] at hg3
  have hPl : P.length = N := by rw [hP]; simp only [List.length_append, List.length_replicate, HN.out]; omega
  have HOW := Lib.hid (row_mk (B := w.heap.size) hg3 hBg hPl (show N ≤ 1000000 by omega))
  have HP := Lib.hid (show ∀ z ∈ P, 0 ≤ z ∧ z < q from fun z hz => (List.mem_append.1 (hP ▸ hz)).elim (HFR.out z) (zeros_res (by omega) _ z))
  have HPL := Lib.hid hPl
  have HPE := Lib.hid hP
  have HY := Lib.hid (hy.below HB2.out (Nat.le_refl _))
  clear hP hPl hg3
  go_loopw [8, 9, 21] (fun _ _ K wr => ∃ k : Nat, k ≤ n' ∧ K = .int .i64 k ∧ wr.ownsRow w.heap.size 3 1 (.slice (some ⟨w.heap.size, 0, none⟩) N N) N ((rowAt q 1 P gs 0 k).map (Value.int .i64)) ∧ w2.grownBy wr (some w.heap.size)) (fun _ _ K _ => n' - (intOf K).toNat)
  case atStart => exact ⟨0, Nat.zero_le _, rfl, by rw [rowAt_zero]; exact HOW.out, grown_of_below (Below.refl _ _) _⟩
  case round =>
    obtain ⟨k, hk, rfl, hownr, hgr⟩ := hrel
    by_cases hkn : k < n'
    · obtain ⟨b, o', z, rfl, hb, hcz, hd⟩ := (HY.out.grown hgr (ints_ne hy (Nat.le_refl _) (by intro h; have := HN'.out; simp [h] at this; omega))).at (k := k) (by have := HN'.out; omega)
      have hok : 0 + k < P.length := by rw [HPL.out]; omega
      have hok' : k < P.length := by omega
      have hpk : P[0 + k]? = some P[k] := by simp [hok']
      obtain ⟨hcu, hfu⟩ := own_at hownr (j := 0 + k) (by omega) ((rowAt_get hok).trans hpk)
      rw [Nat.zero_add] at hcu hfu
      have hpr := HP.out P[k] (List.getElem_mem hok')
      have hzr := HGR.out z (mem_drop hd)
      have HO := Lib.hid (own_set (j := k) hownr ((P[k] + z) % q))
      have hS := rowAt_step (q := q) (c := 1) hok hpk hd
      rw [Int.one_mul, Nat.zero_add] at hS
      have HS := Lib.hid hS
      have HGR2 := Lib.hid hgr
      have HD := Lib.hid hd
      generalize P[k] = p at *
      clear hownr hgr hd hpk hok hok' hS
      go_wp2
      go_roundw
      case rel =>
        refine ⟨k + 1, by omega, by go_num, ?_, grown_trans HGR2.out (grown_cell _ _ _)⟩
        have h := HO.out
        rwa [HS.out] at h
      case measure => simp only [intOf]; omega
    · have HO := Lib.hid hownr
      have HGR2 := Lib.hid hgr
      clear hownr hgr
      go_wp2
      go_ret
      refine ownOut_mk ?_ (HB2.out.grown HGR2.out HB2.out.size (by simp))
      have h := HO.out
      rw [rowAt_all (by have := HN'.out; omega)] at h
      unfold pAdd
      rw [HN.out, HN'.out, HMX.out]
      have e := HPE.out
      rw [HN.out] at e
      rw [← e]
      simpa using h

/-- An answer that is a list, or refused. -/
def AnsY (w : World) (zs : List Int) (ok : Bool) (e : Ending) (w' : World) : Prop := ∃ v, e = .returned (.tuple #[v, .bool ok]) ∧ OwI w.heap.size w'.heap.size w' v zs ∧ Below w.heap.size w w'
theorem ansY_of {w w' : World} {zs : List Int} {ok : Bool} {e : Ending} (h : ListOut w zs ok e w') : AnsY w zs ok e w' := by
  obtain ⟨ad, n, cap, rfl, h1, h2⟩ := h
  exact ⟨_, rfl, owI_mk h1 h2.size, h2⟩
theorem listOut_own {w w1 w' : World} {va : Option Addr} {n vc : Nat} {zs : List Int} (h : w'.ownsRow w1.heap.size 3 1 (.slice va n vc) n (zs.map (Value.int .i64))) (h1 : Below w.heap.size w w1) (h2 : Below w1.heap.size w1 w') : ListOut w zs true (.returned (.tuple #[.slice va n vc, .bool true])) w' :=
  ⟨va, n, vc, rfl, own_base h h1.size, h1.trans (h2.mono h1.size)⟩

theorem addRes_le (q : Int) (fs gs : List Int) : (addRes q fs gs).length ≤ 24 := by
  unfold addRes
  split
  · rename_i h
    obtain ⟨_, h1, h2⟩ := field_two h
    have := (shortB_of h1).2.2.1
    have := (shortB_of h2).2.2.1
    rw [pAdd_length]; omega
  · simp

end Go.Proofs.Ytipfckfjelignaa

