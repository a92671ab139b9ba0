/- Polynomials with given roots: PolyFromRoots of both. -/
import Derived.Test.YtfjaohmildkeoaaPolF
import Derived.Deep.RegionLaw
namespace Go.Proofs.Ytfjaohmildkeoaa
open Go.RowKit

/-- What is still to be multiplied with P. -/
def RootsAt (q : Int) (rs : List Int) (k : Nat) (P : List Int) : Prop := P.length = k + 1 ∧ (∀ z ∈ P, 0 ≤ z ∧ z < q) ∧ rootsFrom q P (rs.drop k) = pRoots q rs
theorem rootsAt_zero {q : Int} {rs : List Int} (hq : 1 < q) : RootsAt q rs 0 [1] := ⟨rfl, by intro z hz; simp at hz; omega, rfl⟩
theorem rootsAt_step {q r : Int} {rs rest P : List Int} {k : Nat} (hq : 0 < q) (h : RootsAt q rs k P) (hd : rs.drop k = r :: rest) : RootsAt q rs (k + 1) (pMul q P [(-r) % q, 1]) := by
  obtain ⟨h1, _, h3⟩ := h
  refine ⟨by rw [pMul_length]; simp; omega, pMul_res hq _ _, ?_⟩
  have e : rs.drop (k + 1) = rest := by rw [← List.drop_drop, hd]; rfl
  rw [e, ← h3, hd]; rfl
theorem rootsAt_end {q : Int} {rs P : List Int} {k : Nat} (h : RootsAt q rs k P) (hk : rs.length ≤ k) : P = pRoots q rs := by
  have := h.2.2
  rwa [List.drop_of_length_le hk] at this
theorem lin_res {q r : Int} (hq : 1 < q) : ∀ z ∈ [(-r) % q, 1], 0 ≤ z ∧ z < q := by
  intro z hz
  simp only [List.mem_cons, List.not_mem_nil, or_false] at hz
  rcases hz with rfl | rfl
  · exact ⟨Int.emod_nonneg _ (by omega), Int.emod_lt_of_pos _ (by omega)⟩
  · omega

set_option maxHeartbeats 1600000 in
theorem polyWithRoots_any (q : Int) (ad : Option Addr) (n cap : Nat) (rs : List Int) (hn : rs.length = n) (hl : n ≤ 1000) (h2 : 2 ≤ q) (h3 : q ≤ 2000000000) (hr : ∀ z ∈ rs, 0 ≤ z ∧ z < q) (w : World) (hx : IsInts w ad rs) :
    Calls Try.prog 159 #[.int .i64 q, .slice ad n cap] w (OwnOut w (pRoots q rs)) := by
  have HRR := Lib.hid hr
  have HN := Lib.hid hn
  have HO1 := Lib.hid (own_lit w [1] (by decide) 3)
  have HB1 := Lib.hid (ba w (.cells ([(1 : Int)].map (Value.int .i64)).toArray 3))
  clear hr hn
  go_enter Try.func159, Try.ntmps159
  go_wp2_with fail
  go_loopw [5, 11] (fun V K wr => ∃ (k : Nat) (P : List Int) (va : Option Addr) (vc : Nat), k ≤ n ∧ K = .int .i64 k ∧ V = .slice va (k + 1) vc ∧ RootsAt q rs k P ∧ wr.ownsRow w.heap.size 3 1 (.slice va (k + 1) vc) (k + 1) (P.map (Value.int .i64)) ∧ Below w.heap.size w wr) (fun _ K _ => n - (intOf K).toNat)
  case atStart => exact ⟨0, [1], _, _, Nat.zero_le _, rfl, rfl, rootsAt_zero (by omega), HO1.out, HB1.out⟩
  case round =>
    obtain ⟨k, P, va, vc, hk, rfl, rfl, hm, hownr, hbel⟩ := hrel
    by_cases hkn : k < n
    · obtain ⟨b, off, r, rfl, hb, hc, hd⟩ := (hx.below hbel (Nat.le_refl _)).at (k := k) (by have := HN.out; omega)
      obtain ⟨hr0, hr1⟩ := HRR.out r (mem_drop hd)
      obtain ⟨hP, hPl, _⟩ := ints_of_own_any hownr
      have HPR := Lib.hid hm.2.1
      have HPI := Lib.hid hP
      have HPL := Lib.hid hPl
      have HMS := Lib.hid (rootsAt_step (show 0 < q by omega) hm hd)
      have HB := Lib.hid hbel
      clear hm hd hownr hbel hP hPl HO1 HB1
      go_wp2_with fail
      refine (subtract_any q 0 r h2 h3 (by omega) (by omega) hr0 hr1 _).mono ?_
      rintro e w' ⟨rfl, rfl⟩
      rw [Int.zero_sub]
      have HAL := Lib.hid (ba wr (.cells ([(-r) % q, 1].map (Value.int .i64)).toArray 3))
      have HLI := Lib.hid (ints_lit wr [(-r) % q, 1] 3)
      have HPJ := Lib.hid (HPI.out.below HAL.out (Nat.le_refl _))
      go_wp2_with fail
      refine (multiplyPolys_any q va _ (k + 1) 2 vc _ P [(-r) % q, 1] HPL.out rfl (by omega) (by omega) (by omega) (by omega) h2 h3 HPR.out (lin_res (by omega)) _ HPJ.out HLI.out).mono ?_
      rintro e w3 ⟨va', vc', rfl, hown3, hb3⟩
      rw [HMS.out.1] at hown3 ⊢
      have HO3 := Lib.hid (own_base hown3 (Nat.le_trans HB.out.size HAL.out.size))
      have HB3 := Lib.hid (HB.out.trans ((HAL.out.trans (hb3.mono HAL.out.size)).mono HB.out.size))
      clear hown3 hb3
      go_wp2
      go_roundw
      case rel => exact ⟨k + 1, _, va', vc', by omega, by go_num, rfl, HMS.out, HO3.out, HB3.out⟩
      case measure => simp only [intOf]; omega
    · have HO := Lib.hid hownr
      have HB := Lib.hid hbel
      have HE := Lib.hid (rootsAt_end hm (by have := HN.out; omega))
      clear hownr hbel hm
      go_wp2
      go_ret
      have h := HO.out
      rw [HE.out] at h
      exact ownOut_mk h HB.out

theorem nMod_mod (a m : Int) (h0 : -m < a) (h1 : a < m) (h2 : 2 ≤ m) (h3 : m ≤ 2000000000) (w : World) :
    Calls Try.prog 94 #[.int .i64 a, .int .i64 m] w fun e w' => e = .returned (.int .i64 (a % m)) ∧ w = w' := by
  have e : (if a < 0 then a + m else a) = a % m := by
    split
    · rw [← Int.add_emod_right, Int.emod_eq_of_lt (by omega) (by omega)]
    · rw [Int.emod_eq_of_lt (by omega) (by omega)]
  have h := nMod_any a m h0 h1 h2 h3 w
  rwa [e] at h

def rootsB (q : Int) (rs : List Int) : Bool := fieldB q [rs] && decide (rs.length ≤ 23)
def rootsRes (q : Int) (rs : List Int) : List Int := if rootsB q rs then pRoots q rs else []
theorem rootsRes_le (q : Int) (rs : List Int) : (rootsRes q rs).length ≤ 24 := by
  unfold rootsRes
  split
  · rename_i h
    simp only [rootsB, Bool.and_eq_true, decide_eq_true_eq] at h
    rw [pRoots_length]; omega
  · simp

end Go.Proofs.Ytfjaohmildkeoaa

/- A list without one element; lists whose elements are different. -/
namespace Go.Proofs.Ytfjaohmildkeoaa
open Go.RowKit

def wo (l : List Int) (i : Nat) : List Int := l.take i ++ l.drop (i + 1)
theorem wo_length {l : List Int} {i : Nat} (h : i < l.length) : (wo l i).length = l.length - 1 := by simp [wo]; omega
theorem wo_mem {l : List Int} {i : Nat} {z : Int} (h : z ∈ wo l i) : z ∈ l := by
  rcases List.mem_append.1 h with h | h
  · exact List.mem_of_mem_take h
  · exact List.mem_of_mem_drop h
theorem IsInts.take {w : World} {ad : Option Addr} {zs : List Int} (h : IsInts w ad zs) (k : Nat) : IsInts w ad (zs.take k) := by
  rcases h with rfl | ⟨b, off, rfl, hb, hc⟩
  · exact .inl (by simp)
  · refine .inr ⟨b, off, rfl, hb, fun i hi => ?_⟩
    simp only [List.length_take] at hi
    rw [hc i (by omega)]
    simp [List.getD, show i < k by omega]
theorem IsInts.drop {w : World} {b off : Nat} {zs : List Int} (h : IsInts w (some ⟨b, off, none⟩) zs) (k : Nat) : IsInts w (some ⟨b, off + k, none⟩) (zs.drop k) := by
  rcases h with rfl | ⟨b', off', e, hb, hc⟩
  · exact .inl (by simp)
  · simp only [Option.some.injEq, Addr.mk.injEq, and_true] at e
    obtain ⟨rfl, rfl⟩ := e
    refine .inr ⟨b, off + k, rfl, hb, fun i hi => ?_⟩
    simp only [List.length_drop] at hi
    rw [Nat.add_assoc, hc (k + i) (by omega)]
    simp [List.getD, List.getElem?_drop]

set_option maxRecDepth 100000 in
set_option maxHeartbeats 3200000 in
theorem without_any (ad : Option Addr) (n cap i : Nat) (l : List Int) (hn : l.length = n) (hi : i < n) (hcap : n ≤ cap) (hl : n ≤ 1000000) (w : World) (hx : IsInts w ad l) :
    Calls Try.prog 156 #[.slice ad n cap, .int .i64 i] w (OwnOut w (wo l i)) := by
  obtain ⟨i0, hi0, hz0, hz1, hz2⟩ := info_parts Try.info3
  have HZ2 := Lib.hid hz2
  obtain ⟨b, off, _, rfl, hb, _, _⟩ := hx.at (k := i) (by omega)
  obtain ⟨m, rfl⟩ : ∃ m, n = m + 1 := ⟨n - 1, by omega⟩
  have hm1 : ((m + 1 : Nat) : Int) - 1 = (m : Int) := by omega
  obtain ⟨X1, hX1⟩ : ∃ X1 : List Value, X1 = (l.take i).map (Value.int .i64) := ⟨_, rfl⟩
  obtain ⟨X2, hX2⟩ : ∃ X2 : List Value, X2 = (l.drop (i + 1)).map (Value.int .i64) := ⟨_, rfl⟩
  have hl1 : X1.length = i := by rw [hX1]; simp; omega
  have hl2 : X2.length = m - i := by rw [hX2]; simp; omega
  have H1 := Lib.hid hX1
  have H2 := Lib.hid hX2
  have HL1 := Lib.hid hl1
  have HL2 := Lib.hid hl2
  have HN := Lib.hid hn
  have h1s : ∀ v ∈ X1, v.oneCell' = true := by rw [hX1]; exact ints_one
  have h2s : ∀ v ∈ X2, v.oneCell' = true := by rw [hX2]; exact ints_one
  have H1S := Lib.hid h1s
  have H2S := Lib.hid h2s
  clear hX1 hX2 hl1 hl2 hn h1s h2s hz2
  go_enter Try.func156, Try.ntmps156
  go_wp2_with (first
    | (at_make
       refine wpList_make_full _ rfl _ _ 25 rfl w.heap.size 3 i0 (.int .i64 0) 1 Try.underlying25 hi0 hz0 hz1 .i64 .i64 _ _ m rfl rfl rfl rfl (by rw [HZ2.out]; omega) (by unfold maxLen; omega) (Nat.le_refl _) ?_
       intro w1 hown hgrow
       obtain ⟨hc, hBg, _⟩ := row_full (made_zeros hown)
       have HC := Lib.hid hc
       have HX2 := Lib.hid (hx.grown hgrow (by simp))
       have HB1 := Lib.hid ((Below.refl w.heap.size w).grown hgrow (Nat.le_refl _) (by simp))
       clear hc hown hgrow)
    | (with_reducible show wpList _ _ _ _ _ _
       refine wpList_copy_splice rfl (.tmp 10) (.tmp 13) 25 25 rfl 3 Try.underlying25 Try.sizeI (some ⟨w.heap.size, 0, none⟩) (some ⟨b, off, none⟩) m m i cap (by rfl) (by rfl) w.heap.size 0 _ 3 HC.out X1 (by show _ = min _ _; rw [HL1.out]; omega) (fun h => ⟨rfl, ints_copy (HX2.out.take i) H1.out h⟩) (by simp only [List.length_map, List.length_replicate, HL1.out]; omega) H1S.out w.heap.size w HB1.out hBg ?_
       intro w2 hg2 hb2
       have HG2 := Lib.hid hg2.out
       have HB2 := Lib.hid hb2
       clear hg2 hb2)
    | fail)
  have hdl : w2.drew.heap[w.heap.size]? = some (.cells (splice ((List.replicate m (0 : Int)).map (Value.int .i64)) 0 X1).toArray 3 (0, 0)) := HG2.out
  have HDL := Lib.hid hdl
  have HBD := Lib.hid (show Below w.heap.size w w2.drew from HB2.out.drew)
  have HXD := Lib.hid (hx.below HBD.out (Nat.le_refl _))
  have hcl0 : (splice ((List.replicate m (0 : Int)).map (Value.int .i64)) 0 X1).length = m := by rw [length_splice _ _ _ (by simp [HL1.out]; omega)]; simp
  have HCL := Lib.hid hcl0
  have hwr : IntKind.i64.wrap ((i : Int) + 1) = (i : Int) + 1 := by rw [IntKind.wrap_i64]; omega
  have hp0 : (0 : Int) ≤ (i : Int) + 1 := by omega
  have hp2 : ((i : Int) + 1).toNat = i + 1 := by omega
  have hend : ∀ w3 : World, w3.heap[w.heap.size]? = some (.cells (splice (splice ((List.replicate m (0 : Int)).map (Value.int .i64)) 0 X1) i X2).toArray 3 (0, 0)) → w3.ownsRow w.heap.size 3 1 (.slice (some ⟨w.heap.size, 0, none⟩) m m) m ((wo l i).map (Value.int .i64)) := by
    intro w3 hg
    refine row_mk ?_ (Nat.le_refl _) (by rw [wo_length (by have := HN.out; omega), HN.out]; rfl) (by omega)
    rw [hg]
    congr 2
    have e : splice (splice ((List.replicate m (0 : Int)).map (Value.int .i64)) 0 X1) i X2 = X1 ++ X2 := by
      unfold splice
      rw [HL2.out, List.take_zero, List.nil_append, List.drop_append]
      simp [HL1.out]
    rw [e, H1.out, H2.out, wo, List.map_append]
  have HE := Lib.hid hend
  clear hdl hcl0 hend hx
  by_cases him : i < m
  · have hp1 : (i : Int) + 1 ≤ (cap : Int) := by omega
    have hp3 : (i : Int) + 1 ≤ (m : Int) + 1 := by omega
    have hp4 : (i : Int) ≤ (m : Int) := by omega
    have hne : ¬ m = i := by omega
    have hne2 : ¬ cap = i + 1 := by omega
    go_region_law (refine step_copy_splice rfl (.tmp 17) (.tmp 21) 25 25 rfl 3 Try.underlying25 Try.sizeI (some ⟨w.heap.size, i, none⟩) (some ⟨b, off + (i + 1), none⟩) (m - i) (m - i) (m - i) (cap - (i + 1)) (by simp [Act.eval, Act.put]) (by simp [Act.eval, Act.put]) w.heap.size i _ 3 HDL.out X2 (by show _ = min _ _; rw [HL2.out]; omega) (fun h => ⟨rfl, ints_copy (HXD.out.drop (i + 1)) H2.out h⟩) (by rw [HCL.out, HL2.out]; omega) H2S.out w.heap.size w HBD.out (Nat.le_refl _) ?_; intro w4 hg4 hb4)
    have HG4 := Lib.hid (HE.out _ hg4.out)
    have HB4 := Lib.hid hb4
    clear hg4 hb4
    go_wp2
    go_ret
    exact ownOut_mk HG4.out HB4.out
  · obtain rfl : i = m := by omega
    by_cases hic : i + 1 = cap
    · subst hic
      have hp1 : (i : Int) + 1 ≤ ((i + 1 : Nat) : Int) := by omega
      go_region_law (refine step_copy_splice rfl (.tmp 17) (.tmp 21) 25 25 rfl 3 Try.underlying25 Try.sizeI (some ⟨w.heap.size, 0, none⟩) (some ⟨b, off, none⟩) 0 0 0 0 (by simp [Act.eval, Act.put]) (by simp [Act.eval, Act.put]) w.heap.size i _ 3 HDL.out X2 (by show _ = min _ _; rw [HL2.out]; omega) (fun h => absurd h (by rw [HL2.out]; omega)) (by rw [HCL.out, HL2.out]; omega) H2S.out w.heap.size w HBD.out (Nat.le_refl _) ?_; intro w4 hg4 hb4)
      have HG4 := Lib.hid (HE.out _ hg4.out)
      have HB4 := Lib.hid hb4
      clear hg4 hb4
      go_wp2
      go_ret
      exact ownOut_mk HG4.out HB4.out
    · have hp1 : (i : Int) + 1 ≤ (cap : Int) := by omega
      have hne2 : ¬ cap = i + 1 := by omega
      go_region_law (refine step_copy_splice rfl (.tmp 17) (.tmp 21) 25 25 rfl 3 Try.underlying25 Try.sizeI (some ⟨w.heap.size, 0, none⟩) (some ⟨b, off + (i + 1), none⟩) 0 0 0 (cap - (i + 1)) (by simp [Act.eval, Act.put]) (by simp [Act.eval, Act.put]) w.heap.size i _ 3 HDL.out X2 (by show _ = min _ _; rw [HL2.out]; omega) (fun h => absurd h (by rw [HL2.out]; omega)) (by rw [HCL.out, HL2.out]; omega) H2S.out w.heap.size w HBD.out (Nat.le_refl _) ?_; intro w4 hg4 hb4)
      have HG4 := Lib.hid (HE.out _ hg4.out)
      have HB4 := Lib.hid hb4
      clear hg4 hb4
      go_wp2
      go_ret
      exact ownOut_mk HG4.out HB4.out

end Go.Proofs.Ytfjaohmildkeoaa

/- Lists whose elements are different: both tests. The factor of a list of roots: a closure. -/
namespace Go.Proofs.Ytfjaohmildkeoaa
open Go.RowKit

theorem mem_take_step {zs rest : List Int} {z x : Int} {k : Nat} (h : zs.drop k = z :: rest) (hn : x ∉ zs.take k) (hz : x ≠ z) : x ∉ zs.take (k + 1) := by
  obtain ⟨hk, he⟩ := head_of_drop h
  rw [List.take_succ_eq_append_getElem hk, he]
  simp [hn, hz]
theorem nodup_step {zs rest : List Int} {z : Int} {k : Nat} (h : zs.drop k = z :: rest) (hn : (zs.take k).Nodup) (hz : z ∉ zs.take k) : (zs.take (k + 1)).Nodup := by
  obtain ⟨hk, he⟩ := head_of_drop h
  rw [List.take_succ_eq_append_getElem hk, he, List.nodup_append]
  refine ⟨hn, by simp, ?_⟩
  intro a ha b hb hab
  simp only [List.mem_singleton] at hb
  subst hb; subst hab
  exact hz ha
theorem not_nodup {zs rest : List Int} {z : Int} {k : Nat} (h : zs.drop k = z :: rest) (hz : z ∈ zs.take k) : ¬ zs.Nodup := by
  intro hn
  rw [← List.take_append_drop k zs, h, List.nodup_append] at hn
  exact hn.2.2 z hz z (by simp) rfl

def IdxPost (zs : List Int) (x : Int) (w : World) (e : Ending) (w' : World) : Prop := ∃ r : Int, e = .returned (.int .i64 r) ∧ -1 ≤ r ∧ r ≤ 1152921504606846976 ∧ (0 ≤ r ↔ x ∈ zs) ∧ w = w'

set_option maxHeartbeats 800000 in
theorem index_any (ad : Option Addr) (n cap : Nat) (zs : List Int) (x : Int) (hn : zs.length = n) (hl : n ≤ 1152921504606846976) (w : World) (hz : IsInts w ad zs) :
    Calls Try.prog 176 #[.slice ad n cap, .int .i64 x] w (IdxPost zs x w) := by
  have HN := Lib.hid hn
  clear hn
  go_enter Try.func176, Try.ntmps176
  go_wp2_with fail
  go_loop [5, 8] (fun _ K => ∃ k : Nat, k ≤ n ∧ K = .int .i64 k ∧ x ∉ zs.take k) (fun _ K => n - (intOf K).toNat)
  case atStart => exact ⟨0, Nat.zero_le _, rfl, by simp⟩
  case round =>
    obtain ⟨k, hk, rfl, he⟩ := hrel
    by_cases hkn : k < n
    · obtain ⟨b, off, z, rfl, hb, hc, hd⟩ := hz.at (k := k) (by have := HN.out; omega)
      by_cases hxz : x = z
      · have HM := Lib.hid (show x ∈ zs by rw [hxz]; exact mem_drop hd)
        have hxb : (x == z) = true := by simp [hxz]
        clear he hd hxz
        go_wp2_with fail
        go_ret
        exact ⟨(k : Int), rfl, by omega, by omega, ⟨fun _ => HM.out, fun _ => by omega⟩, rfl⟩
      · have HS := Lib.hid (mem_take_step hd he hxz)
        have hxb : (x == z) = false := by simp [hxz]
        clear he hd hxz
        go_wp2_with fail
        go_round
        case rel => exact ⟨k + 1, by omega, by go_num, HS.out⟩
        case measure => simp only [intOf]; omega
    · have HE := Lib.hid (show x ∉ zs by rwa [List.take_of_length_le (by have := HN.out; omega)] at he)
      clear he
      go_wp2_with fail
      go_ret
      exact ⟨-1, rfl, by omega, by omega, ⟨fun h => by omega, fun h => absurd h HE.out⟩, rfl⟩

theorem contains_any (ad : Option Addr) (n cap : Nat) (zs : List Int) (x : Int) (hn : zs.length = n) (hl : n ≤ 1152921504606846976) (w : World) (hz : IsInts w ad zs) :
    Calls Try.prog 151 #[.slice ad n cap, .int .i64 x] w fun e w' => e = .returned (.bool (decide (x ∈ zs))) ∧ w = w' := by
  by_cases hm : x ∈ zs
  · rw [decide_eq_true hm]
    have HM := Lib.hid hm
    clear hm
    go_enter Try.func151, Try.ntmps151
    go_wp2_with fail
    refine (index_any ad n cap zs x hn hl _ hz).mono ?_
    rintro e w' ⟨r, rfl, h1, h2, h3, rfl⟩
    have h0 : 0 ≤ r := h3.2 HM.out
    clear h3
    go_wp2
    go_ret
    exact ⟨rfl, rfl⟩
  · rw [decide_eq_false hm]
    have HM := Lib.hid hm
    clear hm
    go_enter Try.func151, Try.ntmps151
    go_wp2_with fail
    refine (index_any ad n cap zs x hn hl _ hz).mono ?_
    rintro e w' ⟨r, rfl, h1, h2, h3, rfl⟩
    have h0 : r < 0 := by
      rcases Int.lt_or_le r 0 with h | h
      · exact h
      · exact absurd (h3.1 h) HM.out
    clear h3
    go_wp2
    go_ret
    refine ⟨?_, rfl⟩
    show Ending.returned (.bool (decide (0 ≤ r))) = _
    rw [decide_eq_false (by omega)]

set_option maxHeartbeats 800000 in
theorem l1Has_any (ad : Option Addr) (n cap : Nat) (zs : List Int) (x : Int) (hn : zs.length = n) (hl : n ≤ 1152921504606846976) (w : World) (hz : IsInts w ad zs) :
    Calls Try.prog 135 #[.slice ad n cap, .int .i64 x] w fun e w' => e = .returned (.bool (decide (x ∈ zs))) ∧ w = w' := by
  have HN := Lib.hid hn
  clear hn
  go_enter Try.func135, Try.ntmps135
  go_wp2_with fail
  go_loop [6, 9] (fun _ K => ∃ k : Nat, k ≤ n ∧ K = .int .i64 k ∧ x ∉ zs.take k) (fun _ K => n - (intOf K).toNat)
  case atStart => exact ⟨0, Nat.zero_le _, rfl, by simp⟩
  case round =>
    obtain ⟨k, hk, rfl, he⟩ := hrel
    by_cases hkn : k < n
    · obtain ⟨b, off, z, rfl, hb, hc, hd⟩ := hz.at (k := k) (by have := HN.out; omega)
      by_cases hxz : x = z
      · have HM := Lib.hid (show decide (x ∈ zs) = true from decide_eq_true (by rw [hxz]; exact mem_drop hd))
        have hxb : (z == x) = true := by simp [hxz]
        clear he hd hxz
        go_wp2_with fail
        go_ret
        exact ⟨by rw [HM.out]; rfl, rfl⟩
      · have HS := Lib.hid (mem_take_step hd he hxz)
        have hxb : (z == x) = false := by simp; exact fun h => hxz h.symm
        clear he hd hxz
        go_wp2_with fail
        go_round
        case rel => exact ⟨k + 1, by omega, by go_num, HS.out⟩
        case measure => simp only [intOf]; omega
    · have HE := Lib.hid (show decide (x ∈ zs) = false from decide_eq_false (by rwa [List.take_of_length_le (by have := HN.out; omega)] at he))
      clear he
      go_wp2_with fail
      go_ret
      exact ⟨by rw [HE.out]; rfl, rfl⟩

set_option maxHeartbeats 800000 in
theorem yPoints_any (ad : Option Addr) (n cap : Nat) (xs : List Int) (hn : xs.length = n) (hl : n ≤ 17592186044416) (hcap : n ≤ cap) (w : World) (hx : IsInts w ad xs) :
    Calls Try.prog 108 #[.slice ad n cap] w fun e w' => e = .returned (.bool (decide xs.Nodup)) ∧ w = w' := by
  have HN := Lib.hid hn
  clear hn
  go_enter Try.func108, Try.ntmps108
  go_wp2_with fail
  go_loop [3, 4, 7] (fun _ _ K => ∃ k : Nat, k ≤ n ∧ K = .int .i64 k ∧ (xs.take k).Nodup) (fun _ _ K => n - (intOf K).toNat)
  case atStart => exact ⟨0, Nat.zero_le _, rfl, by simp⟩
  case round =>
    obtain ⟨k, hk, rfl, he⟩ := hrel
    by_cases hkn : k < n
    · obtain ⟨b, off, z, rfl, hb, hc, hd⟩ := hx.at (k := k) (by have := HN.out; omega)
      have HT := Lib.hid (hx.take k)
      have HTL := Lib.hid (show (xs.take k).length = k by simp; have := HN.out; omega)
      by_cases hm : z ∈ xs.take k
      · have HE := Lib.hid (show decide xs.Nodup = false from decide_eq_false (not_nodup hd hm))
        have HM := Lib.hid (decide_eq_true hm)
        clear he hd hm
        go_wp2_with fail
        refine (l1Has_any _ k _ (xs.take k) z HTL.out (by omega) _ HT.out).mono ?_
        rintro e w' ⟨rfl, rfl⟩; rw [HM.out]
        go_wp2
        go_ret
        exact ⟨by rw [HE.out]; rfl, rfl⟩
      · have HS := Lib.hid (nodup_step hd he hm)
        have HM := Lib.hid (decide_eq_false hm)
        clear he hd hm
        go_wp2_with fail
        refine (l1Has_any _ k _ (xs.take k) z HTL.out (by omega) _ HT.out).mono ?_
        rintro e w' ⟨rfl, rfl⟩; rw [HM.out]
        go_wp2
        go_round
        case rel => exact ⟨k + 1, by omega, by go_num, HS.out⟩
        case measure => simp only [intOf]; omega
    · have HE := Lib.hid (show decide xs.Nodup = true from decide_eq_true (by rwa [List.take_of_length_le (by have := HN.out; omega)] at he))
      clear he
      go_wp2
      go_ret
      exact ⟨by rw [HE.out]; rfl, rfl⟩

def ptsB (q : Int) (xs : List Int) : Bool := decide (xs.length ≠ 0) && fieldB q [xs] && decide xs.Nodup

set_option maxHeartbeats 1600000 in
theorem arePoints_any (q : Int) (ad : Option Addr) (n cap : Nat) (xs : List Int) (hn : xs.length = n) (hl : n ≤ 17592186044416) (hcap : n ≤ cap) (w : World) (hx : IsInts w ad xs) :
    Calls Try.prog 154 #[.int .i64 q, .slice ad n cap] w fun e w' => e = .returned (.bool (ptsB q xs)) ∧ Below w.heap.size w w' := by
  by_cases h0 : n = 0
  · have e1 : ptsB q xs = false := by rw [ptsB, decide_eq_false (by omega)]; rfl
    rw [e1]
    subst h0
    clear e1 hn
    go_enter Try.func154, Try.ntmps154
    go_wp2
    go_ret
    exact ⟨rfl, Below.refl _ _⟩
  · have hnz : ((n : Int) == 0) = false := by simp; omega
    have HR := Lib.hid (rows_one w ad n cap xs hn 25 hx)
    have HLL := Lib.hid (show ∀ r ∈ ([(ad, cap, xs)] : List RowD), r.2.2.length ≤ 17592186044416 by intro r hr; simp at hr; subst hr; simp; omega)
    have hb0 := (Below.refl w.heap.size w).alloc (Nat.le_refl _) (.cells #[.slice ad n cap] 25)
    have HB0 := Lib.hid hb0
    cases hf : fieldB q [xs]
    · have e1 : ptsB q xs = false := by simp [ptsB, hf]
      rw [e1]
      have HF := Lib.hid (show fieldB q (List.map (fun r : RowD => r.2.2) [(ad, cap, xs)]) = false from hf)
      clear hf e1 hn hb0
      go_enter Try.func154, Try.ntmps154
      go_wp2_with fail
      refine (inField_any _ _ 0 1 _ [(ad, cap, xs)] rfl (by omega) HLL.out _ HR.out).mono ?_
      rintro e w' ⟨rfl, rfl⟩; rw [HF.out]
      go_wp2
      go_ret
      exact ⟨rfl, HB0.out⟩
    · have e1 : ptsB q xs = decide xs.Nodup := by simp [ptsB, hf]; intro _ h; subst h; simp at hn; omega
      rw [e1]
      have HF := Lib.hid (show fieldB q (List.map (fun r : RowD => r.2.2) [(ad, cap, xs)]) = true from hf)
      have HX1 := hx.below hb0 (Nat.le_refl _)
      have HN := Lib.hid hn
      clear hf e1 hn hb0
      go_enter Try.func154, Try.ntmps154
      go_wp2_with fail
      refine (inField_any _ _ 0 1 _ [(ad, cap, xs)] rfl (by omega) HLL.out _ HR.out).mono ?_
      rintro e w' ⟨rfl, rfl⟩; rw [HF.out]
      go_wp2_with fail
      go_loop [5, 6, 19] (fun _ _ K => ∃ k : Nat, k ≤ n ∧ K = .int .i64 k ∧ (xs.take k).Nodup) (fun _ _ K => n - (intOf K).toNat)
      case atStart => exact ⟨0, Nat.zero_le _, rfl, by simp⟩
      case round =>
        obtain ⟨k, hk, rfl, he⟩ := hrel
        by_cases hkn : k < n
        · obtain ⟨b, off, z, rfl, hb, hc, hd⟩ := HX1.at (k := k) (by have := HN.out; omega)
          have HT := Lib.hid (HX1.take k)
          have HTL := Lib.hid (show (xs.take k).length = k by simp; have := HN.out; omega)
          by_cases hm : z ∈ xs.take k
          · have HE := Lib.hid (show decide xs.Nodup = false from decide_eq_false (not_nodup hd hm))
            have HM := Lib.hid (decide_eq_true hm)
            clear he hd hm
            go_wp2_with fail
            refine (contains_any _ k _ (xs.take k) z HTL.out (by omega) _ HT.out).mono ?_
            rintro e w' ⟨rfl, rfl⟩; rw [HM.out]
            go_wp2
            go_ret
            exact ⟨by rw [HE.out]; rfl, HB0.out⟩
          · have HS := Lib.hid (nodup_step hd he hm)
            have HM := Lib.hid (decide_eq_false hm)
            clear he hd hm
            go_wp2_with fail
            refine (contains_any _ k _ (xs.take k) z HTL.out (by omega) _ HT.out).mono ?_
            rintro e w' ⟨rfl, rfl⟩; rw [HM.out]
            go_wp2
            go_round
            case rel => exact ⟨k + 1, by omega, by go_num, HS.out⟩
            case measure => simp only [intOf]; omega
        · have HE := Lib.hid (show decide xs.Nodup = true from decide_eq_true (by rwa [List.take_of_length_le (by have := HN.out; omega)] at he))
          clear he
          go_wp2
          go_ret
          exact ⟨by rw [HE.out]; rfl, HB0.out⟩

end Go.Proofs.Ytfjaohmildkeoaa

/- Lagrange coefficients of the program. -/
namespace Go.Proofs.Ytfjaohmildkeoaa
open Go.RowKit

theorem factorWithRoots_any (q : Int) (ad : Option Addr) (n cap : Nat) (w : World) :
    Calls Try.prog 157 #[.int .i64 q, .slice ad n cap] w fun e w' =>
      e = .returned (.func (.func 180) #[] #[.pointer (some ⟨w.heap.size + 1, 0, none⟩), .pointer (some ⟨w.heap.size, 0, none⟩)]) ∧
      w' = (w.alloc (.cells #[.int .i64 q] 3)).alloc (.cells #[.slice ad n cap] 25) := by
  go_enter Try.func157, Try.ntmps157
  go_wp2
  go_ret
  exact ⟨rfl, rfl⟩

theorem quietlyP {P : Program} {f : FuncId} {args : Array Value} {w : World} {n : Nat} {v : Value}
    (h : Calls P f args (w.drewN n) fun e w' => e = .returned v ∧ w.drewN n = w') : Calls P f args (w.drewN n) fun e w'' => e = .returned v ∧ ∃ m, w'' = w.drewN m :=
  h.mono fun _ _ ⟨he, hm⟩ => ⟨he, n, hm.symm⟩

theorem facFrom_step {q x acc t r : Int} {rs rest : List Int} {k : Nat} (h : rs.drop k = r :: rest) (hb : t = facFrom q x acc (rs.drop k)) : t = facFrom q x (acc * ((x - r) % q) % q) rest := by
  rw [hb, h]; rfl

set_option maxHeartbeats 1600000 in
theorem factor_any (q x : Int) (Bs Bq : Nat) (ad : Option Addr) (n cap : Nat) (rs : List Int) (hn : rs.length = n) (hl : n ≤ 1000000) (h2 : 2 ≤ q) (h3 : q ≤ 2000000000) (hx0 : 0 ≤ x) (hx1 : x < q) (hr : ∀ z ∈ rs, 0 ≤ z ∧ z < q)
    (w : World) (hs : w.cell? ⟨Bs, 0, none⟩ = some (.slice ad n cap)) (hq : w.cell? ⟨Bq, 0, none⟩ = some (.int .i64 q)) (hz : IsInts w ad rs) :
    Calls Try.prog 180 #[.int .i64 x, .pointer (some ⟨Bs, 0, none⟩), .pointer (some ⟨Bq, 0, none⟩)] w fun e w' => e = .returned (.int .i64 (fac q x rs)) ∧ Below w.heap.size w w' := by
  have HR := Lib.hid hr
  have HN := Lib.hid hn
  have HQ := Lib.hid hq
  have hBq : Bq < w.heap.size := World.block_lt_of_cell? w _ hq
  clear hr hn hq
  go_enter Try.func180, Try.ntmps180
  go_wp2_with fail
  go_loopw [5, 7, 10] (fun A _ K wr => ∃ (k : Nat) (a : Int), k ≤ n ∧ (0 ≤ a ∧ a < q) ∧ A = .int .i64 a ∧ K = .int .i64 k ∧ fac q x rs = facFrom q x a (rs.drop k) ∧ Below w.heap.size w wr) (fun _ _ K _ => n - (intOf K).toNat)
  case atStart => exact ⟨0, 1, Nat.zero_le _, ⟨by omega, by omega⟩, rfl, rfl, rfl, Below.refl _ _⟩
  case round =>
    obtain ⟨k, a, hk, ⟨ha0, ha1⟩, rfl, rfl, he, hbel⟩ := hrel
    by_cases hkn : k < n
    · obtain ⟨b, off, r, rfl, hb, hc, hd⟩ := (hz.below hbel (Nat.le_refl _)).at (k := k) (by have := HN.out; omega)
      have HS := Lib.hid (facFrom_step hd he)
      obtain ⟨hr0, hr1⟩ := HR.out r (mem_drop hd)
      have hd0 : 0 ≤ (x - r) % q := Int.emod_nonneg _ (by omega)
      have hd1 : (x - r) % q < q := Int.emod_lt_of_pos _ (by omega)
      obtain ⟨m0, m1⟩ := mul_res h3 ha0 ha1 hd0 hd1
      have hqr : wr.cell? ⟨Bq, 0, none⟩ = some (.int .i64 q) := by rw [hbel.cell (p := ⟨Bq, 0, none⟩) hBq, HQ.out]
      have HB := Lib.hid hbel
      have hsub := fun w => subtract_any q x r h2 h3 hx0 hx1 hr0 hr1 w
      have HSUB := Lib.hid hsub
      generalize (x - r) % q = d at *
      have hp0 : 0 ≤ a * d % q := Int.emod_nonneg _ (by omega)
      have hp1 : a * d % q < q := Int.emod_lt_of_pos _ (by omega)
      have hw1 : IntKind.i64.wrap (a * d) = a * d := by rw [IntKind.wrap_i64]; omega
      have hq0 : q ≠ 0 := by omega
      have htm : (a * d).tmod q = a * d % q := Int.tmod_eq_emod_of_nonneg m0
      clear he hd hbel hsub
      go_wp2_with fail
      go_quiet (first | (go_at_call 181; refine quietlyP (HSUB.out _)))
      go_wp2
      go_roundw
      case rel => exact ⟨k + 1, _, by omega, ⟨hp0, hp1⟩, rfl, by go_num, HS.out, below_drewN HB.out _⟩
      case measure => simp only [intOf]; omega
    · have HE := Lib.hid he
      have HB := Lib.hid hbel
      clear he hbel
      go_wp2
      go_ret
      refine ⟨?_, HB.out⟩
      rw [HE.out, List.drop_of_length_le (by have := HN.out; omega)]; rfl

/-- The coefficients. -/
def coefAt (q x : Int) (xs : List Int) (i : Nat) : Int := fac q x (wo xs i) * Num.inv (fac q (xs[i]?.getD 0) (wo xs i)) q % q
def lagr (q x : Int) (xs : List Int) : List Int := (List.range xs.length).map (coefAt q x xs)
theorem lagr_length (q x : Int) (xs : List Int) : (lagr q x xs).length = xs.length := by simp [lagr]
theorem lagr_get {q x : Int} {xs : List Int} {i : Nat} (h : i < (lagr q x xs).length) : (lagr q x xs)[i] = coefAt q x xs i := by simp [lagr]
theorem not_mem_wo {xs rest : List Int} {z : Int} {k : Nat} (h : xs.drop k = z :: rest) (hn : xs.Nodup) : z ∉ wo xs k := by
  have e : xs.drop (k + 1) = rest := by rw [← List.drop_drop, h]; rfl
  rw [← List.take_append_drop k xs, h, List.nodup_append] at hn
  obtain ⟨_, h2, h3⟩ := hn
  unfold wo
  rw [List.mem_append, e]
  rintro (h' | h')
  · exact h3 z h' z (by simp) rfl
  · exact (List.nodup_cons.1 h2).1 h'
theorem at_of_drop {xs rest : List Int} {z : Int} {k : Nat} (h : xs.drop k = z :: rest) : xs[k]?.getD 0 = z := by
  obtain ⟨hk, he⟩ := head_of_drop h
  simp [hk, he]
theorem fac_inv {q z : Int} {xs rest : List Int} {k : Nat} (hq : isPr q = true) (hr : ∀ z ∈ xs, 0 ≤ z ∧ z < q) (hn : xs.Nodup) (hd : xs.drop k = z :: rest) : 0 < fac q z (wo xs k) ∧ Num.invOk (fac q z (wo xs k)) q = true := by
  obtain ⟨h2, h3, _⟩ := isPr_num hq
  have hz := hr z (mem_drop hd)
  have h0 := fac_ne hq hz.1 hz.2 (wo xs k) 1 (fun r h => hr r (wo_mem h)) (not_mem_wo hd hn) (by omega) (by omega)
  exact ⟨h0, invOk_pr hq h0 (fac_range (by omega) _).2⟩

def lagB (q x : Int) (xs : List Int) : Bool := ptsB q xs && resB x q
def lagRes (q x : Int) (xs : List Int) : List Int := if lagB q x xs then lagr q x xs else []
theorem pts_of {q : Int} {xs : List Int} (h : ptsB q xs = true) : isPr q = true ∧ shortB xs q = true ∧ xs.Nodup ∧ xs.length ≠ 0 := by
  simp only [ptsB, Bool.and_eq_true, decide_eq_true_eq] at h
  obtain ⟨⟨h1, h2⟩, h3⟩ := h
  exact ⟨(field_one h2).1, (field_one h2).2, h3, h1⟩
theorem lagRes_le (q x : Int) (xs : List Int) : (lagRes q x xs).length ≤ 24 := by
  unfold lagRes
  split
  · rename_i h
    simp only [lagB, Bool.and_eq_true] at h
    rw [lagr_length]
    exact (shortB_of (pts_of h.1).2.1).2.2.1
  · simp

set_option maxHeartbeats 3200000 in
theorem lagrangeCoefs_any (q : Int) (ad : Option Addr) (n cap : Nat) (xs : List Int) (x : Int) (hn : xs.length = n) (hl : n ≤ 17592186044416) (hcap : n ≤ cap) (w : World) (hx : IsInts w ad xs) :
    Calls Try.prog 152 #[.int .i64 q, .slice ad n cap, .int .i64 x] w (ListOut w (lagRes q x xs) (lagB q x xs)) := by
  have HN := Lib.hid hn
  cases hp : ptsB q xs
  · have e1 : lagB q x xs = false := by simp [lagB, hp]
    have e2 : lagRes q x xs = [] := by simp [lagRes, e1]
    rw [e1, e2]
    have HP := Lib.hid hp
    clear hp e1 e2 hn
    go_enter Try.func152, Try.ntmps152
    go_wp2_with fail
    refine (arePoints_any q ad n cap xs HN.out (by omega) hcap _ hx).mono ?_
    rintro e w1 ⟨rfl, hb1⟩; rw [HP.out]
    have HB1 := Lib.hid hb1
    clear hb1
    go_wp2
    go_ret2
    exact listOut_nil _ _ HB1.out
  · have HP := Lib.hid hp
    cases hrx : resB x q
    · have e1 : lagB q x xs = false := by simp [lagB, hrx]
      have e2 : lagRes q x xs = [] := by simp [lagRes, e1]
      rw [e1, e2]
      have HR := Lib.hid hrx
      clear hp hrx e1 e2 hn
      go_enter Try.func152, Try.ntmps152
      go_wp2_with fail
      refine (arePoints_any q ad n cap xs HN.out (by omega) hcap _ hx).mono ?_
      rintro e w1 ⟨rfl, hb1⟩; rw [HP.out]
      have HB1 := Lib.hid hb1
      clear hb1
      go_wp2_with fail
      refine (isResidue_any _ _ _).mono ?_
      rintro e w' ⟨rfl, rfl⟩; rw [HR.out]
      go_wp2
      go_ret2
      exact listOut_nil _ _ HB1.out
    · have e1 : lagB q x xs = true := by simp [lagB, hp, hrx]
      have e2 : lagRes q x xs = lagr q x xs := by simp [lagRes, e1]
      rw [e1, e2]
      obtain ⟨hpr, hsx, hnd, hn0⟩ := pts_of hp
      obtain ⟨h2, h3, hlen, hres⟩ := shortB_of hsx
      obtain ⟨_, _, hx0, hx1⟩ := resB_true.1 hrx
      obtain ⟨i0, hi0, hz0, hz1, hz2⟩ := info_parts Try.info3
      have HZ2 := Lib.hid hz2
      have HR := Lib.hid hrx
      have HPR := Lib.hid hpr
      have HND := Lib.hid hnd
      have HRES := Lib.hid hres
      have hn24 : n ≤ 24 := by omega
      clear hp hrx e1 e2 hn hpr hsx hnd hn0 hres hlen hz2
      go_enter Try.func152, Try.ntmps152
      go_wp2_with fail
      refine (arePoints_any q ad n cap xs HN.out (by omega) hcap _ hx).mono ?_
      rintro e w1 ⟨rfl, hb1⟩; rw [HP.out]
      have HB1 := Lib.hid hb1
      clear hb1
      go_wp2_with (first
        | (go_at_call 171; refine (isResidue_any _ _ _).mono ?_; rintro e w' ⟨rfl, rfl⟩; rw [HR.out])
        | (at_make
           refine wpList_make_full _ rfl _ _ 25 rfl w.heap.size 3 i0 (.int .i64 0) 1 Try.underlying25 hi0 hz0 hz1 .i64 .i64 _ _ n rfl rfl rfl rfl (by rw [HZ2.out]; omega) (by unfold maxLen; omega) HB1.out.size ?_
           intro w2 hown hgrow
           have HOW := Lib.hid (made_zeros hown)
           have HB2 := Lib.hid (HB1.out.grown hgrow HB1.out.size (by simp))
           clear hown hgrow)
        | fail)
      go_loopw [27] (fun K wr => ∃ k : Nat, k ≤ n ∧ K = .int .i64 k ∧ wr.ownsRow w.heap.size 3 1 (.slice (some ⟨w1.heap.size, 0, none⟩) n n) n ((over (lagr q x xs) (List.replicate n 0) k).map (Value.int .i64)) ∧ Below w.heap.size w wr) (fun K _ => n - (intOf K).toNat)
      case atStart => exact ⟨0, Nat.zero_le _, rfl, by rw [over_zero]; exact HOW.out, HB2.out⟩
      case round =>
        obtain ⟨k, hk, rfl, hownr, hbel⟩ := hrel
        by_cases hkn : k < n
        · have hxr := hx.below hbel (Nat.le_refl _)
          obtain ⟨b, off, z, rfl, hb, hc, hd⟩ := hxr.at (k := k) (by have := HN.out; omega)
          obtain ⟨hz0', hz1'⟩ := HRES.out z (mem_drop hd)
          obtain ⟨hf0, hfok⟩ := fac_inv HPR.out HRES.out HND.out hd
          obtain ⟨hfa0, hfa1⟩ := fac_range (q := q) (x := x) (by omega) (wo xs k)
          obtain ⟨hfb0, hfb1⟩ := fac_range (q := q) (x := z) (by omega) (wo xs k)
          have HXR := Lib.hid hxr
          have HOK := Lib.hid hfok
          have HZ := Lib.hid (at_of_drop hd)
          have HO := Lib.hid hownr
          have HB := Lib.hid hbel
          obtain ⟨m, hm⟩ : ∃ m, (wo xs k).length = m := ⟨_, rfl⟩
          have hm1 : m ≤ 24 := by rw [← hm, wo_length (by have := HN.out; omega)]; have := HN.out; omega
          have HM := Lib.hid hm
          have HWR := Lib.hid (show ∀ z ∈ wo xs k, 0 ≤ z ∧ z < q from fun z h => HRES.out z (wo_mem h))
          clear hownr hbel hd hfok hxr hm HOW HB2
          go_wp2_with fail
          refine (without_any _ n cap k xs HN.out hkn hcap (by omega) _ HXR.out).mono ?_
          rintro e w3 ⟨va, vc, rfl, hown3, hb3⟩
          rw [HM.out] at hown3 ⊢
          obtain ⟨hzw, _, _⟩ := ints_of_own_any hown3
          have HZW := Lib.hid hzw
          have HB3 := Lib.hid hb3
          clear hown3 hzw hb3
          go_wp2_with fail
          refine (factorWithRoots_any q va m vc _).mono ?_
          rintro e w4 ⟨rfl, hw4⟩
          have hb4 : Below w3.heap.size w3 w4 := by rw [hw4]; exact (ba _ _).alloc (by simp) _
          have hq4 : w4.cell? ⟨w3.heap.size, 0, none⟩ = some (.int .i64 q) := by
            rw [hw4, (ba (w3.alloc (.cells #[.int .i64 q] 3)) _).cell (p := ⟨w3.heap.size, 0, none⟩) (by simp)]
            exact World.cell?_alloc_at _ _ _ _ rfl
          have hs4 : w4.cell? ⟨w3.heap.size + 1, 0, none⟩ = some (.slice va m vc) := by
            rw [hw4, World.cell?_alloc_at _ _ (w3.heap.size + 1) 0 (by simp)]; rfl
          have hsz4 : w3.heap.size + 1 < w4.heap.size := by rw [hw4]; simp
          have HQ4 := Lib.hid hq4
          have HS4 := Lib.hid hs4
          have HZ4 := Lib.hid (HZW.out.below hb4 (Nat.le_refl _))
          have HB4 := Lib.hid (bt HB3.out hb4)
          clear hb4 hq4 hs4 hw4
          go_wp2_with fail
          refine (factor_any q x (w3.heap.size + 1) w3.heap.size va m vc (wo xs k) HM.out (by omega) h2 h3 hx0 hx1 HWR.out _ HS4.out HQ4.out HZ4.out).mono ?_
          rintro e w5 ⟨rfl, hb5⟩
          have HQ5 := Lib.hid (show w5.cell? ⟨w3.heap.size, 0, none⟩ = some (.int .i64 q) by rw [hb5.cell (p := ⟨w3.heap.size, 0, none⟩) (by show w3.heap.size < _; omega), HQ4.out])
          have HS5 := Lib.hid (show w5.cell? ⟨w3.heap.size + 1, 0, none⟩ = some (.slice va m vc) by rw [hb5.cell (p := ⟨w3.heap.size + 1, 0, none⟩) (by show w3.heap.size + 1 < _; omega), HS4.out])
          have HZ5 := Lib.hid (HZ4.out.below hb5 (Nat.le_refl _))
          have HB5 := Lib.hid (bt HB4.out hb5)
          clear hb5 HQ4 HS4 HZ4
          go_wp2_with fail
          refine (factor_any q z (w3.heap.size + 1) w3.heap.size va m vc (wo xs k) HM.out (by omega) h2 h3 hz0' hz1' HWR.out _ HS5.out HQ5.out HZ5.out).mono ?_
          rintro e w6 ⟨rfl, hb6⟩
          have HB6 := Lib.hid (bt HB5.out hb6)
          clear hb6 HQ5 HS5 HZ5
          have ho6 := own_below HO.out HB6.out
          obtain ⟨⟨u, hcu⟩, hfu⟩ := own_cell ho6 hkn
          have HO6 := Lib.hid (inv_store ho6 (fun h => lagr_get h) (by rw [lagr_length, HN.out]; exact hkn) (by simpa using hkn))
          have HBT := Lib.hid (HB.out.trans (HB6.out.mono HB.out.size))
          have HCE := Lib.hid (show coefAt q x xs k = fac q x (wo xs k) * Num.inv (fac q z (wo xs k)) q % q by unfold coefAt; rw [HZ.out])
          clear ho6
          generalize fac q x (wo xs k) = fa at *
          generalize fac q z (wo xs k) = fb at *
          go_wp2_with fail
          refine (divide_any q fa fb h2 h3 hfa0 hfa1 hfb0 hfb1 HOK.out _).mono ?_
          rintro e w' ⟨rfl, rfl⟩
          rw [← HCE.out]
          go_wp2
          go_roundw
          case rel => exact ⟨k + 1, by omega, by go_num, HO6.out, HBT.out.setCell (by have := HB1.out.size; exact this) _⟩
          case measure => simp only [intOf]; omega
        · have HO := Lib.hid hownr
          have HB := Lib.hid hbel
          clear hownr hbel HOW HB2
          go_wp2
          go_ret2
          refine ⟨_, n, n, rfl, ?_, HB.out⟩
          have h := HO.out
          rwa [over_all _ _ (by rw [lagr_length, HN.out]; omega) (by simp; omega)] at h

end Go.Proofs.Ytfjaohmildkeoaa

/- Lagrange coefficients of the reference; ValueFrom of both. -/
namespace Go.Proofs.Ytfjaohmildkeoaa
open Go.RowKit

/-- What is left of a list without its i-th element from the j-th on. -/
def remW (xs : List Int) (i j : Nat) : List Int := if j ≤ i then wo (xs.drop j) (i - j) else xs.drop j
theorem remW_zero (xs : List Int) (i : Nat) : remW xs i 0 = wo xs i := by simp [remW]
theorem remW_step {xs : List Int} {z : Int} {i j : Nat} (h : xs.drop j = z :: xs.drop (j + 1)) (hne : j ≠ i) : remW xs i j = z :: remW xs i (j + 1) := by
  unfold remW
  rcases Nat.lt_or_gt_of_ne hne with hlt | hgt
  · rw [if_pos (by omega), if_pos (by omega), h]
    obtain ⟨s, hs⟩ : ∃ s, i - j = s + 1 := ⟨i - j - 1, by omega⟩
    rw [hs, show i - (j + 1) = s by omega]
    simp [wo]
  · rw [if_neg (by omega), if_neg (by omega), h]
theorem remW_skip {xs : List Int} {z : Int} {i : Nat} (h : xs.drop i = z :: xs.drop (i + 1)) : remW xs i i = remW xs i (i + 1) := by
  unfold remW
  rw [if_pos (Nat.le_refl _), if_neg (by omega), Nat.sub_self, h]
  simp [wo]
theorem remW_end {xs : List Int} {i j : Nat} (hi : i < xs.length) (hj : xs.length ≤ j) : remW xs i j = [] := by
  unfold remW
  rw [if_neg (by omega), List.drop_of_length_le hj]
theorem lagr_take {q x : Int} {xs : List Int} {k : Nat} (h : k < xs.length) : (lagr q x xs).take (k + 1) = (lagr q x xs).take k ++ [coefAt q x xs k] := by
  rw [List.take_succ_eq_append_getElem (by rw [lagr_length]; exact h), lagr_get]

set_option maxHeartbeats 3200000 in
theorem yLagrange_any (q : Int) (ad : Option Addr) (n cap : Nat) (xs : List Int) (x : Int) (hn : xs.length = n) (hl : n ≤ 100000) (hpr : isPr q = true) (hres : ∀ z ∈ xs, 0 ≤ z ∧ z < q) (hnd : xs.Nodup) (hx0 : 0 ≤ x) (hx1 : x < q) (w : World) (hx : IsInts w ad xs) :
    Calls Try.prog 110 #[.int .i64 q, .slice ad n cap, .int .i64 x] w (OwnOut w (lagr q x xs)) := by
  obtain ⟨i0, hi, hz0, hz1, hz2⟩ := info_parts Try.info3
  obtain ⟨h2, h3, _⟩ := isPr_num hpr
  have HN := Lib.hid hn
  have HPR := Lib.hid hpr
  have HND := Lib.hid hnd
  have HRES := Lib.hid hres
  clear hn hpr hnd hres
  go_enter Try.func110, Try.ntmps110
  go_wp2_with fail
  go_loopg [7, 18] n (fun gk V K wr => ∃ (k : Nat) (va : Option Addr) (vc : Nat), gk + k = n ∧ k ≤ n ∧ V = .slice va k vc ∧ K = .int .i64 k ∧ wr.ownsRow w.heap.size 3 1 (.slice va k vc) k (((lagr q x xs).take k).map (Value.int .i64)) ∧ Below w.heap.size w wr)
  case atStart => exact ⟨0, none, 0, by omega, Nat.zero_le _, rfl, rfl, World.ownsRow_nil _ _ _ _, Below.refl _ _⟩
  case round =>
    obtain ⟨k, va, vc, hgk, hk, rfl, rfl, hownr, hbel⟩ := hrel
    have HGK := Lib.hid hgk
    clear hgk
    by_cases hkn : k < n
    · have hxr := hx.below hbel (Nat.le_refl _)
      obtain ⟨b, off, z, rfl, hb, hc, hd⟩ := hxr.at (k := k) (by have := HN.out; omega)
      obtain ⟨hz0', hz1'⟩ := HRES.out z (mem_drop hd)
      obtain ⟨hf0, hfok⟩ := fac_inv HPR.out HRES.out HND.out hd
      obtain ⟨hfa0, hfa1⟩ := fac_range (q := q) (x := x) (by omega) (wo xs k)
      obtain ⟨hfb0, hfb1⟩ := fac_range (q := q) (x := z) (by omega) (wo xs k)
      have HOK := Lib.hid hfok
      have HZ := Lib.hid (at_of_drop hd)
      have HO := Lib.hid hownr
      have HB := Lib.hid hbel
      have HXR := Lib.hid hxr
      have HD := Lib.hid hd
      have HFA := Lib.hid (And.intro hfa0 hfa1)
      have HFB := Lib.hid (And.intro hfb0 hfb1)
      clear hownr hbel hd hfok hxr hf0 hfa0 hfa1 hfb0 hfb1
      go_wp2_with fail
      go_loopg [10, 11, 25] n (fun gj U D J wj => ∃ (j : Nat) (u d : Int), gj + j = n ∧ j ≤ n ∧ (0 ≤ u ∧ u < q) ∧ (0 ≤ d ∧ d < q) ∧ U = .int .i64 u ∧ D = .int .i64 d ∧ J = .int .i64 j ∧ fac q x (wo xs k) = facFrom q x u (remW xs k j) ∧ fac q z (wo xs k) = facFrom q z d (remW xs k j) ∧ wj = wr)
      case atStart => exact ⟨0, 1, 1, by omega, Nat.zero_le _, ⟨by omega, by omega⟩, ⟨by omega, by omega⟩, rfl, rfl, rfl, by rw [remW_zero]; rfl, by rw [remW_zero]; rfl, rfl⟩
      case round =>
        obtain ⟨j, u, d, hgj, hj, ⟨hu0, hu1⟩, ⟨hd0, hd1⟩, rfl, rfl, rfl, hfu, hfd, rfl⟩ := hrel
        have HGJ := Lib.hid hgj
        clear hgj
        by_cases hjn : j < n
        · obtain ⟨b', off', y, hbo, hb', hcy, hdy⟩ := HXR.out.at (k := j) (by have := HN.out; omega)
          simp only [Option.some.injEq, Addr.mk.injEq, and_true] at hbo
          obtain ⟨rfl, rfl⟩ := hbo
          obtain ⟨hy0, hy1⟩ := HRES.out y (mem_drop hdy)
          by_cases hjk : j = k
          · subst hjk
            have HFU := Lib.hid (hfu.trans (by rw [remW_skip hdy]))
            have HFD := Lib.hid (hfd.trans (by rw [remW_skip hdy]))
            clear hfu hfd hdy
            go_wp2_with fail
            go_roundg (n - (j + 1))
            case measure => have := HGJ.out; omega
            case rel => exact ⟨j + 1, u, d, by omega, by omega, ⟨hu0, hu1⟩, ⟨hd0, hd1⟩, rfl, rfl, by go_num, HFU.out, HFD.out, rfl⟩
          · have hjb : ((j : Int) != (k : Int)) = true := by simp; omega
            have hm0 : 0 ≤ (x - y) % q := Int.emod_nonneg _ (by omega)
            have hm1 : (x - y) % q < q := Int.emod_lt_of_pos _ (by omega)
            have hn0 : 0 ≤ (z - y) % q := Int.emod_nonneg _ (by omega)
            have hn1 : (z - y) % q < q := Int.emod_lt_of_pos _ (by omega)
            have HFU := Lib.hid (hfu.trans (show facFrom q x u (remW xs k j) = facFrom q x (u * ((x - y) % q) % q) (remW xs k (j + 1)) by rw [remW_step hdy hjk]; rfl))
            have HFD := Lib.hid (hfd.trans (show facFrom q z d (remW xs k j) = facFrom q z (d * ((z - y) % q) % q) (remW xs k (j + 1)) by rw [remW_step hdy hjk]; rfl))
            obtain ⟨s0, s1⟩ := mul_res h3 hu0 hu1 hm0 hm1
            obtain ⟨t0, t1⟩ := mul_res h3 hd0 hd1 hn0 hn1
            clear hfu hfd hdy hjk
            go_wp2_with fail
            refine (nMod_mod (x - y) q (by omega) (by omega) h2 h3 _).mono ?_
            rintro e w' ⟨rfl, rfl⟩
            generalize (x - y) % q = mx at *
            have hu2 : 0 ≤ u * mx % q := Int.emod_nonneg _ (by omega)
            have hu3 : u * mx % q < q := Int.emod_lt_of_pos _ (by omega)
            go_wp2_with fail
            refine (nMod_mod (z - y) q (by omega) (by omega) h2 h3 _).mono ?_
            rintro e w' ⟨rfl, rfl⟩
            generalize (z - y) % q = mz at *
            have hd2 : 0 ≤ d * mz % q := Int.emod_nonneg _ (by omega)
            have hd3 : d * mz % q < q := Int.emod_lt_of_pos _ (by omega)
            go_wp2_with fail
            go_roundg (n - (j + 1))
            case measure => have := HGJ.out; omega
            case rel => exact ⟨j + 1, _, _, by omega, by omega, ⟨hu2, hu3⟩, ⟨hd2, hd3⟩, rfl, rfl, by go_num, HFU.out, HFD.out, rfl⟩
        · have hu : u = fac q x (wo xs k) := by rw [hfu, remW_end (by have := HN.out; omega) (by have := HN.out; omega)]; rfl
          have hd : d = fac q z (wo xs k) := by rw [hfd, remW_end (by have := HN.out; omega) (by have := HN.out; omega)]; rfl
          have HOK2 := Lib.hid (show Num.invOk d q = true by rw [hd]; exact HOK.out)
          have HNI := Lib.hid (show Num.ninv d q = Num.inv d q by rw [Num.inv_ninv, HOK2.out]; rfl)
          have HCE := Lib.hid (show coefAt q x xs k = u * Num.inv d q % q by unfold coefAt; rw [HZ.out, hu, hd])
          obtain ⟨_, v0, v1⟩ := inv_res ⟨hd0, hd1⟩ h2 HOK2.out
          obtain ⟨p0, p1⟩ := mul_res h3 hu0 hu1 v0 v1
          have HLT := Lib.hid (lagr_take (q := q) (x := x) (show k < xs.length by have := HN.out; omega))
          clear hfu hfd hu hd
          go_wp2_with fail
          refine (nInverse_any d q hd0 hd1 h2 h3 _).mono ?_
          rintro e w' ⟨rfl, rfl⟩
          rw [HNI.out]
          generalize Num.inv d q = iv at *
          go_wp2_with (at_builtin
                       refine wpList_append_own _ rfl _ _ 25 rfl w.heap.size 3 i0 (.int .i64 0) 1 8 Try.underlying25 hi hz0 hz1 hz2 rfl (by decide) _ _ _ rfl (HO.out.alloc _) ⟨wr.heap.size, 0, none⟩ 1 1 [.int .i64 (u * iv % q)] rfl rfl ?c1 ?c2 ?c3 ?c4 ?c5 ?_)
          case c1 => exact cell_one_new _ _ _
          case c2 => intro u hu; simp at hu; subst hu; rfl
          case c3 => unfold maxLen; omega
          case c4 => omega
          case c5 => have := HB.out.size; simp; omega
          intro v' w1 hown' hgrow _
          obtain ⟨va', vc', rfl⟩ := own_shape hown'
          have HO2 := Lib.hid hown'
          have HG := Lib.hid hgrow
          clear hown' hgrow
          go_wp2
          go_roundg (n - (k + 1))
          case measure => have := HGK.out; omega
          case rel =>
            refine ⟨k + 1, va', vc', by omega, by omega, rfl, by go_num, ?_, ?_⟩
            · have h := HO2.out
              rw [HLT.out, HCE.out, List.map_append, List.map_take]
              simpa [List.map_take] using h
            · exact (HB.out.alloc HB.out.size _).grown HG.out (Nat.le_trans HB.out.size (by simp)) (fun q hq => (HO.out.lt q hq).1)
    · have HO := Lib.hid hownr
      have HB := Lib.hid hbel
      clear hownr hbel
      obtain rfl : k = n := by omega
      go_wp2
      go_ret
      have h := HO.out
      rw [List.take_of_length_le (by rw [lagr_length]; have := HN.out; omega)] at h
      exact ownOut_mk h HB.out

end Go.Proofs.Ytfjaohmildkeoaa

/- LagrangeCoefs of the reference; tables; ValueFrom of both. -/
namespace Go.Proofs.Ytfjaohmildkeoaa
open Go.RowKit

theorem resB_in {x q : Int} (h2 : 2 ≤ q) (h3 : q ≤ 2000000000) : resB x q = inB x 0 (q - 1) := by
  cases h : inB x 0 (q - 1)
  · rw [resB_false]
    rcases inB_false.1 h with h | h
    · exact .inr (.inl h)
    · exact .inr (.inr (by omega))
  · obtain ⟨a, b⟩ := inB_true.1 h
    exact resB_true.2 ⟨h2, h3, a, by omega⟩

theorem lagrangeCoefs_ans {q x : Int} {P : Nat} {w : World} {v : Value} {xs : List Int} (hx : InI P w v xs) (hl : xs.length ≤ 17592186044416) :
    Calls Try.prog 152 #[.int .i64 q, v, .int .i64 x] w (AnsY w (lagRes q x xs) (lagB q x xs)) := by
  obtain ⟨_, ad, cap, rfl, h1, _, hc⟩ := hx
  exact (lagrangeCoefs_any q ad _ cap xs x rfl hl hc w h1.ints).mono fun _ _ h => ansY_of h
end Go.Proofs.Ytfjaohmildkeoaa

