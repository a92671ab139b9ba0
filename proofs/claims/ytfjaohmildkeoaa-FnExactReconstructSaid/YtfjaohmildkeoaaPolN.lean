/- Tables; ValueFrom of both. -/
import Derived.Test.YtfjaohmildkeoaaPolH
namespace Go.Proofs.Ytfjaohmildkeoaa
open Go.RowKit

/-- Points with as many values. -/
def tabB (q : Int) (xs ys : List Int) : Bool := decide (xs.length = ys.length) && ptsB q xs && fieldB q [ys]
theorem tabB_eq (q : Int) (xs ys : List Int) : tabB q xs ys = (fieldB q [xs, ys] && decide xs.Nodup && decide (0 < xs.length) && decide (xs.length = ys.length)) := by
  unfold tabB ptsB fieldB
  simp only [List.all_cons, List.all_nil, Bool.and_true]
  have e : decide (xs.length ≠ 0) = decide (0 < xs.length) := decide_eq_decide.2 Nat.pos_iff_ne_zero.symm
  rw [e]
  cases decide (xs.length = ys.length) <;> cases decide (0 < xs.length) <;> cases isPr q <;> cases shortB xs q <;> cases shortB ys q <;> cases decide xs.Nodup <;> rfl
theorem tab_of {q : Int} {xs ys : List Int} (h : tabB q xs ys = true) : xs.length = ys.length ∧ isPr q = true ∧ shortB xs q = true ∧ xs.Nodup ∧ xs.length ≠ 0 ∧ shortB ys q = true := by
  simp only [tabB, Bool.and_eq_true, decide_eq_true_eq] at h
  obtain ⟨⟨h1, h2⟩, h3⟩ := h
  obtain ⟨a, b, c, d⟩ := pts_of h2
  exact ⟨h1, a, b, c, d, (field_one h3).2⟩

def valB (q x : Int) (xs ys : List Int) : Bool := tabB q xs ys && resB x q
def valRes (q x : Int) (xs ys : List Int) : Int := if valB q x xs ys then dotFrom q 0 (lagr q x xs) ys else 0
theorem lagr_res {q x : Int} (hq : 0 < q) (xs : List Int) : ∀ z ∈ lagr q x xs, 0 ≤ z ∧ z < q := by
  intro z hz
  obtain ⟨i, _, rfl⟩ := List.mem_map.1 hz
  exact ⟨Int.emod_nonneg _ (by omega), Int.emod_lt_of_pos _ hq⟩
theorem val_no {q x : Int} {xs ys : List Int} (h : lagB q x xs = false) : valB q x xs ys = false := by
  unfold lagB at h
  unfold valB tabB
  cases hp : ptsB q xs
  · simp
  · rw [hp, Bool.true_and] at h; rw [h]; simp
theorem val_dot {q x : Int} {xs ys : List Int} (h : lagB q x xs = true) : dotB (lagr q x xs) ys q = valB q x xs ys := by
  simp only [lagB, Bool.and_eq_true] at h
  obtain ⟨hp, hr⟩ := h
  obtain ⟨hpr, hs, hnd, h0⟩ := pts_of hp
  obtain ⟨h2, h3, hl, _⟩ := shortB_of hs
  unfold dotB valB tabB fieldB
  rw [hp, hr, hpr, lagr_length, listB_of h2 h3 (by rw [lagr_length]; omega) (lagr_res (by omega) xs)]
  simp only [List.all_cons, List.all_nil, Bool.and_true, Bool.true_and]
  by_cases hn : xs.length = ys.length
  · rw [short_list (by omega)]
  · rw [decide_eq_false hn]; rfl
theorem val_res {q x : Int} {xs ys : List Int} (h : lagB q x xs = true) : dotMod (lagr q x xs) ys q = valRes q x xs ys := by
  unfold dotMod valRes; rw [val_dot h]

set_option maxHeartbeats 1600000 in
theorem valueFrom_any (q : Int) (ad ad' : Option Addr) (n n' cap cap' : Nat) (xs ys : List Int) (x : Int) (hn : xs.length = n) (hn' : ys.length = n') (hl : n ≤ 17592186044416) (hl' : n' ≤ 17592186044416) (hcap : n ≤ cap) (w : World) (hx : IsInts w ad xs) (hy : IsInts w ad' ys) :
    Calls Try.prog 112 #[.int .i64 q, .slice ad n cap, .slice ad' n' cap', .int .i64 x] w fun e w' => e = .returned (.tuple #[.int .i64 (valRes q x xs ys), .bool (valB q x xs ys)]) ∧ Below w.heap.size w w' := by
  have HN := Lib.hid hn
  have HN' := Lib.hid hn'
  cases hb : lagB q x xs
  · have e1 := val_no (ys := ys) hb
    have e2 : valRes q x xs ys = 0 := by simp [valRes, e1]
    rw [e1, e2]
    have HL := Lib.hid (show lagRes q x xs = [] by simp [lagRes, hb])
    have HB := Lib.hid hb
    clear hb e1 e2 hn hn'
    go_enter Try.func112, Try.ntmps112
    go_wp2_with fail
    refine (lagrangeCoefs_any q ad n cap xs x HN.out (by omega) hcap _ hx).mono ?_
    rw [HL.out, HB.out]
    rintro e w1 ⟨va, m, vc, rfl, hown, hb1⟩
    have HB1 := Lib.hid hb1
    clear hb1 hown
    go_wp2
    go_ret2
    exact ⟨rfl, HB1.out⟩
  · have HD := Lib.hid (val_dot (ys := ys) hb)
    have HV := Lib.hid (val_res (ys := ys) hb)
    have HL := Lib.hid (show lagRes q x xs = lagr q x xs by simp [lagRes, hb])
    have HB := Lib.hid hb
    have HLN := Lib.hid (lagRes_le q x xs)
    clear hb hn hn'
    go_enter Try.func112, Try.ntmps112
    go_wp2_with fail
    refine (lagrangeCoefs_any q ad n cap xs x HN.out (by omega) hcap _ hx).mono ?_
    rw [HL.out, HB.out]
    rintro e w1 ⟨va, m, vc, rfl, hown, hb1⟩
    obtain ⟨hz1, hm1, _⟩ := ints_of_own_any hown
    have HM := Lib.hid hm1
    have HZ1 := Lib.hid hz1
    have HY1 := Lib.hid (hy.below hb1 (Nat.le_refl _))
    have HB1 := Lib.hid hb1
    have hm24 : m ≤ 24 := by rw [← hm1, ← HL.out]; exact HLN.out
    clear hb1 hown hz1 hm1
    go_wp2_with fail
    refine (dotMod_any va _ m _ vc _ (lagr q x xs) ys q HM.out HN'.out (by omega) (by omega) _ HZ1.out HY1.out).mono ?_
    rw [HD.out, HV.out]
    rintro e w2 ⟨rfl, hb2⟩
    have HB2 := Lib.hid (bt HB1.out hb2)
    clear hb2
    go_wp2
    go_ret2
    exact ⟨rfl, HB2.out⟩

theorem valueFrom_ans {q x : Int} {P P' : Nat} {w : World} {v v' : Value} {xs ys : List Int} (hx : InI P w v xs) (hy : InI P' w v' ys) (hl : xs.length ≤ 17592186044416) (hl' : ys.length ≤ 17592186044416) :
    Calls Try.prog 112 #[.int .i64 q, v, v', .int .i64 x] w fun e w' => e = .returned (.tuple #[.int .i64 (valRes q x xs ys), .bool (valB q x xs ys)]) ∧ Below w.heap.size w w' := by
  obtain ⟨_, ad, cap, rfl, h1, _, hc⟩ := hx
  obtain ⟨_, ad', cap', rfl, h1', _⟩ := hy
  exact valueFrom_any q ad ad' _ _ cap cap' xs ys x rfl rfl hl hl' hc w h1.ints h1'.ints
end Go.Proofs.Ytfjaohmildkeoaa

/- Values by the reference; Interpolate of the program. -/
namespace Go.Proofs.Ytfjaohmildkeoaa
open Go.RowKit

theorem pev_step {q x c : Int} {f rest : List Int} {k : Nat} (h : f.drop k = c :: rest) : pev q x (f.drop k) = (pev q x (f.drop (k + 1)) * x + c) % q := by
  have e : f.drop (k + 1) = rest := by rw [← List.drop_drop, h]; rfl
  rw [h, e, pev]

set_option maxHeartbeats 1600000 in
theorem yEval_any (q : Int) (ad : Option Addr) (n cap : Nat) (f : List Int) (x : Int) (hn : f.length = n) (hl : n ≤ 17592186044416) (h2 : 2 ≤ q) (h3 : q ≤ 2000000000) (hx0 : 0 ≤ x) (hx1 : x < q) (hr : ∀ z ∈ f, 0 ≤ z ∧ z < q) (w : World) (hz : IsInts w ad f) :
    Calls Try.prog 117 #[.int .i64 q, .slice ad n cap, .int .i64 x] w fun e w' => e = .returned (.int .i64 (pev q x f)) ∧ w = w' := by
  have HN := Lib.hid hn
  have HR := Lib.hid hr
  clear hn hr
  go_enter Try.func117, Try.ntmps117
  go_wp2_with fail
  go_loop [7, 8] (fun A K => ∃ (i a : Int), (-1 ≤ i ∧ i < n) ∧ (0 ≤ a ∧ a < q) ∧ A = .int .i64 a ∧ K = .int .i64 i ∧ a = pev q x (f.drop (i + 1).toNat)) (fun _ K => (intOf K + 1).toNat)
  case atStart => exact ⟨(n : Int) - 1, 0, ⟨by omega, by omega⟩, ⟨by omega, by omega⟩, rfl, rfl, by rw [List.drop_of_length_le (by have := HN.out; omega)]; rfl⟩
  case round =>
    obtain ⟨i, a, ⟨hi0, hi1⟩, ⟨ha0, ha1⟩, rfl, rfl, he⟩ := hrel
    by_cases hi : 0 ≤ i
    · obtain ⟨k, rfl⟩ := Int.eq_ofNat_of_zero_le hi
      obtain ⟨b, off, c, rfl, hb, hc, hd⟩ := hz.at (k := k) (by have := HN.out; omega)
      obtain ⟨hc0, hc1⟩ := HR.out c (mem_drop hd)
      obtain ⟨m0, m1⟩ := mul_res h3 ha0 ha1 hx0 hx1
      have hE : (a * x + c) % q = pev q x (f.drop k) := by
        rw [pev_step hd, he]; rfl
      have HE := Lib.hid hE
      have hp0 : 0 ≤ (a * x + c) % q := Int.emod_nonneg _ (by omega)
      have hp1 : (a * x + c) % q < q := Int.emod_lt_of_pos _ (by omega)
      clear he hd hE
      go_wp2_with fail
      go_round
      case rel => exact ⟨(k : Int) - 1, _, ⟨by omega, by omega⟩, ⟨hp0, hp1⟩, rfl, rfl, by rw [HE.out]; congr 2; omega⟩
      case measure => simp only [intOf]; omega
    · have HE := Lib.hid he
      have hi' : i < 0 := by omega
      clear he
      go_wp2
      go_ret
      refine ⟨?_, rfl⟩
      rw [HE.out, show (i + 1).toNat = 0 by omega]; rfl

/-! ### Interpolation -/
/-- What one value adds. -/
def itpC (q : Int) (xs : List Int) (i : Nat) (y : Int) : Int := y * Num.inv (fac q (xs[i]?.getD 0) (wo xs i)) q % q
def itpFrom (q : Int) (xs : List Int) : Nat → List Int → List Int → List Int
  | _, [], P => P
  | i, y :: ys, P => itpFrom q xs (i + 1) ys (axpy q P (itpC q xs i y) (pRoots q (wo xs i)))
def itp (q : Int) (xs ys : List Int) : List Int := itpFrom q xs 0 ys (List.replicate xs.length 0)
theorem itpFrom_length (q : Int) (xs : List Int) : ∀ (ys : List Int) (i : Nat) (P : List Int), (itpFrom q xs i ys P).length = P.length
  | [], _, _ => rfl
  | y :: ys, i, P => by rw [itpFrom, itpFrom_length q xs ys, axpy_length]
theorem itp_length (q : Int) (xs ys : List Int) : (itp q xs ys).length = xs.length := by simp [itp, itpFrom_length]
theorem itpFrom_res {q : Int} (hq : 0 < q) (xs : List Int) : ∀ (ys : List Int) (i : Nat) (P : List Int), (∀ z ∈ P, 0 ≤ z ∧ z < q) → ∀ z ∈ itpFrom q xs i ys P, 0 ≤ z ∧ z < q
  | [], _, _, h => h
  | y :: ys, i, P, h => by rw [itpFrom]; exact itpFrom_res hq xs ys (i + 1) _ (axpy_res hq _ _ h)
theorem itp_res {q : Int} (hq : 0 < q) (xs ys : List Int) : ∀ z ∈ itp q xs ys, 0 ≤ z ∧ z < q := itpFrom_res hq xs ys 0 _ (zeros_res hq _)
def ItpAt (q : Int) (xs ys : List Int) (n k : Nat) (P : List Int) : Prop := P.length = n ∧ (∀ z ∈ P, 0 ≤ z ∧ z < q) ∧ itpFrom q xs k (ys.drop k) P = itp q xs ys
theorem itpAt_zero {q : Int} {xs ys : List Int} {n : Nat} (hq : 0 < q) (hn : xs.length = n) : ItpAt q xs ys n 0 (List.replicate n 0) := by
  subst hn
  exact ⟨by simp, zeros_res hq _, rfl⟩
theorem itpAt_step {q y : Int} {xs ys rest P : List Int} {n k : Nat} (hq : 0 < q) (h : ItpAt q xs ys n k P) (hd : ys.drop k = y :: rest) : ItpAt q xs ys n (k + 1) (axpy q P (itpC q xs k y) (pRoots q (wo xs k))) := by
  obtain ⟨h1, h2, h3⟩ := h
  refine ⟨by rw [axpy_length]; exact h1, axpy_res hq _ _ h2, ?_⟩
  have e : ys.drop (k + 1) = rest := by rw [← List.drop_drop, hd]; rfl
  rw [e, ← h3, hd]; rfl
theorem itpAt_end {q : Int} {xs ys P : List Int} {n k : Nat} (h : ItpAt q xs ys n k P) (hk : ys.length ≤ k) : P = itp q xs ys := by
  have := h.2.2
  rwa [List.drop_of_length_le hk, itpFrom] at this
def itpRes (q : Int) (xs ys : List Int) : List Int := if tabB q xs ys then itp q xs ys else []
theorem itpRes_le (q : Int) (xs ys : List Int) : (itpRes q xs ys).length ≤ 24 := by
  unfold itpRes
  split
  · rename_i h
    rw [itp_length]
    exact (shortB_of (tab_of h).2.2.1).2.2.1
  · simp
theorem itpC_range {q : Int} (hq : 0 < q) (xs : List Int) (i : Nat) (y : Int) : 0 ≤ itpC q xs i y ∧ itpC q xs i y < q := ⟨Int.emod_nonneg _ (by omega), Int.emod_lt_of_pos _ hq⟩

set_option maxHeartbeats 3200000 in
theorem interpolate_any (q : Int) (ad ad' : Option Addr) (n n' cap cap' : Nat) (xs ys : List Int) (hn : xs.length = n) (hn' : ys.length = n') (hl : n ≤ 17592186044416) (hl' : n' ≤ 17592186044416) (hcap : n ≤ cap) (w : World) (hx : IsInts w ad xs) (hy : IsInts w ad' ys) :
    Calls Try.prog 114 #[.int .i64 q, .slice ad n cap, .slice ad' n' cap'] w (ListOut w (itpRes q xs ys) (tabB q xs ys)) := by
  have HN := Lib.hid hn
  have HN' := Lib.hid hn'
  by_cases hnn : n = n'
  · subst hnn
    cases hp : ptsB q xs
    · have e1 : tabB q xs ys = false := by simp [tabB, hp]
      have e2 : itpRes q xs ys = [] := by simp [itpRes, e1]
      rw [e1, e2]
      have HP := Lib.hid hp
      clear hp e1 e2 hn hn'
      go_enter Try.func114, Try.ntmps114
      go_wp2_with fail
      refine (arePoints_any q ad n cap xs HN.out (by omega) hcap _ hx).mono ?_
      rintro e w1 ⟨rfl, hb1⟩; rw [HP.out]
      have HB1 := Lib.hid hb1
      clear hb1
      go_wp2
      go_ret2
      exact listOut_nil _ _ HB1.out
    · have HP := Lib.hid hp
      cases hf : fieldB q [ys]
      · have e1 : tabB q xs ys = false := by simp [tabB, hf]
        have e2 : itpRes q xs ys = [] := by simp [itpRes, e1]
        rw [e1, e2]
        have HF := Lib.hid (show fieldB q (List.map (fun r : RowD => r.2.2) [(ad', cap', ys)]) = false from hf)
        have HLL := Lib.hid (show ∀ r ∈ ([(ad', cap', ys)] : List RowD), r.2.2.length ≤ 17592186044416 by intro r hr; simp at hr; subst hr; simp; omega)
        clear hp hf e1 e2 hn hn'
        go_enter Try.func114, Try.ntmps114
        go_wp2_with fail
        refine (arePoints_any q ad n cap xs HN.out (by omega) hcap _ hx).mono ?_
        rintro e w1 ⟨rfl, hb1⟩; rw [HP.out]
        have HR1 := Lib.hid (rows_one w1 ad' n cap' ys HN'.out 25 (hy.below hb1 (Nat.le_refl _)))
        have HB1 := Lib.hid (bt hb1 (ba w1 (.cells #[.slice ad' n cap'] 25)))
        clear hb1
        go_wp2_with fail
        refine (inField_any _ _ 0 1 _ [(ad', cap', ys)] rfl (by omega) HLL.out _ HR1.out).mono ?_
        rintro e w' ⟨rfl, rfl⟩; rw [HF.out]
        go_wp2
        go_ret2
        exact listOut_nil _ _ HB1.out
      · have e1 : tabB q xs ys = true := by simp [tabB, hp, hf]; omega
        have e2 : itpRes q xs ys = itp q xs ys := by simp [itpRes, e1]
        rw [e1, e2]
        have HF := Lib.hid (show fieldB q (List.map (fun r : RowD => r.2.2) [(ad', cap', ys)]) = true from hf)
        have HLL := Lib.hid (show ∀ r ∈ ([(ad', cap', ys)] : List RowD), r.2.2.length ≤ 17592186044416 by intro r hr; simp at hr; subst hr; simp; omega)
        obtain ⟨hpr, hsx, hnd, hn0⟩ := pts_of hp
        obtain ⟨h2, h3, hlen, hres⟩ := shortB_of hsx
        obtain ⟨_, _, _, hresy⟩ := shortB_of (field_one hf).2
        obtain ⟨i0, hi0, hz0, hz1, hz2⟩ := info_parts Try.info3
        have HZ2 := Lib.hid hz2
        have HPR := Lib.hid hpr
        have HND := Lib.hid hnd
        have HRES := Lib.hid hres
        have HRESY := Lib.hid hresy
        have hn24 : n ≤ 24 := by omega
        clear hp hf e1 e2 hn hn' hpr hsx hnd hn0 hres hresy hlen hz2
        go_enter Try.func114, Try.ntmps114
        go_wp2_with fail
        refine (arePoints_any q ad n cap xs HN.out (by omega) hcap _ hx).mono ?_
        rintro e w1 ⟨rfl, hb1⟩; rw [HP.out]
        have HR1 := Lib.hid (rows_one w1 ad' n cap' ys HN'.out 25 (hy.below hb1 (Nat.le_refl _)))
        have HB1 := Lib.hid (bt hb1 (ba w1 (.cells #[.slice ad' n cap'] 25)))
        clear hb1
        go_wp2_with fail
        refine (inField_any _ _ 0 1 _ [(ad', cap', ys)] rfl (by omega) HLL.out _ HR1.out).mono ?_
        rintro e w' ⟨rfl, rfl⟩; rw [HF.out]
        go_wp2_with (at_make
                     refine wpList_make_full _ rfl _ _ 25 rfl w.heap.size 3 i0 (.int .i64 0) 1 Try.underlying25 hi0 hz0 hz1 .i64 .i64 _ _ n rfl rfl rfl rfl (by rw [HZ2.out]; omega) (by unfold maxLen; omega) HB1.out.size ?_
                     intro w2 hown hgrow
                     simp only [World.size_alloc] at hown ⊢
                     have HOW := Lib.hid (made_zeros hown)
                     have HB2 := Lib.hid (HB1.out.grown hgrow HB1.out.size (by simp))
                     clear hown hgrow)
        go_loopw [36] (fun K wr => ∃ (k : Nat) (P : List Int), k ≤ n ∧ K = .int .i64 k ∧ ItpAt q xs ys n k P ∧ wr.ownsRow w.heap.size 3 1 (.slice (some ⟨w1.heap.size + 1, 0, none⟩) n n) n (P.map (Value.int .i64)) ∧ Below w.heap.size w wr) (fun K _ => n - (intOf K).toNat)
        case atStart => exact ⟨0, _, Nat.zero_le _, rfl, itpAt_zero (by omega) HN.out, HOW.out, HB2.out⟩
        case round =>
          obtain ⟨k, P, hk, rfl, hm, hownr, hbel⟩ := hrel
          by_cases hkn : k < n
          · have hxr := hx.below hbel (Nat.le_refl _)
            obtain ⟨by', offy, y, rfl, hby, hcy, hdy⟩ := (hy.below hbel (Nat.le_refl _)).at (k := k) (by have := HN'.out; omega)
            obtain ⟨hy0, hy1⟩ := HRESY.out y (mem_drop hdy)
            have HPRS := Lib.hid hm.2.1
            have HPL := Lib.hid hm.1
            have HMS := Lib.hid (itpAt_step (show 0 < q by omega) hm hdy)
            obtain ⟨b, off, z, rfl, hb, hc, hd⟩ := hxr.at (k := k) (by have := HN.out; omega)
            obtain ⟨hz0', hz1'⟩ := HRES.out z (mem_drop hd)
            obtain ⟨hf0, hfok⟩ := fac_inv HPR.out HRES.out HND.out hd
            obtain ⟨hfb0, hfb1⟩ := fac_range (q := q) (x := z) (by omega) (wo xs k)
            obtain ⟨hi0', hi1'⟩ := itpC_range (show 0 < q by omega) xs k y
            have HXR := Lib.hid hxr
            have HOK := Lib.hid hfok
            have HZ := Lib.hid (at_of_drop hd)
            have HO := Lib.hid hownr
            have HB := Lib.hid hbel
            have HCZ := Lib.hid hc
            have HBZ := Lib.hid hb
            obtain ⟨m, hmm⟩ : ∃ m, (wo xs k).length = m := ⟨_, rfl⟩
            have hm1 : m + 1 = n := by rw [← hmm, wo_length (by have := HN.out; omega)]; have := HN.out; omega
            have HM := Lib.hid hmm
            have HM1 := Lib.hid hm1
            have hm24 : m ≤ 24 := by omega
            have HWR := Lib.hid (show ∀ z ∈ wo xs k, 0 ≤ z ∧ z < q from fun z h => HRES.out z (wo_mem h))
            clear hownr hbel hd hfok hxr hmm hm1 HOW HB2 hm hdy hc hb
            go_wp2_with fail
            refine (without_any _ n cap k xs HN.out hkn hcap (by omega) _ HXR.out).mono ?_
            rintro e w3 ⟨va, vc, rfl, hown3, hb3⟩
            rw [HM.out] at hown3 ⊢
            obtain ⟨hzw, _, _⟩ := ints_of_own_any hown3
            have HZW := Lib.hid hzw
            have HB3 := Lib.hid hb3
            clear hown3 hzw hb3
            go_wp2_with fail
            refine (factorWithRoots_any q va m vc _).mono ?_
            rintro e w4 ⟨rfl, hw4⟩
            have hb4 : Below w3.heap.size w3 w4 := by rw [hw4]; exact (ba _ _).alloc (by simp) _
            have hq4 : w4.cell? ⟨w3.heap.size, 0, none⟩ = some (.int .i64 q) := by
              rw [hw4, (ba (w3.alloc (.cells #[.int .i64 q] 3)) _).cell (p := ⟨w3.heap.size, 0, none⟩) (by simp)]
              exact World.cell?_alloc_at _ _ _ _ rfl
            have hs4 : w4.cell? ⟨w3.heap.size + 1, 0, none⟩ = some (.slice va m vc) := by
              rw [hw4, World.cell?_alloc_at _ _ (w3.heap.size + 1) 0 (by simp)]; rfl
            have HQ4 := Lib.hid hq4
            have HS4 := Lib.hid hs4
            have HZ4 := Lib.hid (HZW.out.below hb4 (Nat.le_refl _))
            have HB4 := Lib.hid (bt HB3.out hb4)
            have hcz4 : w4.cell? ⟨b, off + k, none⟩ = some (.int .i64 z) := by rw [HB4.out.cell (p := ⟨b, off + k, none⟩) HBZ.out]; exact HCZ.out
            clear hb4 hq4 hs4 hw4
            go_wp2_with fail
            refine (factor_any q z (w3.heap.size + 1) w3.heap.size va m vc (wo xs k) HM.out (by omega) h2 h3 hz0' hz1' HWR.out _ HS4.out HQ4.out HZ4.out).mono ?_
            rintro e w5 ⟨rfl, hb5⟩
            have HZ5 := Lib.hid (HZ4.out.below hb5 (Nat.le_refl _))
            have HB5 := Lib.hid (bt HB4.out hb5)
            have HCE := Lib.hid (show itpC q xs k y = y * Num.inv (fac q z (wo xs k)) q % q by unfold itpC; rw [HZ.out])
            clear hb5 HQ4 HS4 HZ4 hcz4
            generalize fac q z (wo xs k) = fb at *
            go_wp2_with fail
            refine (divide_any q y fb h2 h3 hy0 hy1 hfb0 hfb1 HOK.out _).mono ?_
            rintro e w' ⟨rfl, rfl⟩
            rw [← HCE.out]
            go_wp2_with fail
            refine (polyWithRoots_any q va m vc (wo xs k) HM.out (by omega) h2 h3 HWR.out _ HZ5.out).mono ?_
            rintro e w6 ⟨vp, vpc, rfl, hown6, hb6⟩
            rw [pRoots_length, HM.out, HM1.out] at hown6 ⊢
            obtain ⟨hz6, hl6, hne6⟩ := ints_of_own_any hown6
            have ho6 := own_below HO.out (bt HB5.out hb6)
            have hne6' : pRoots q (wo xs k) ≠ [] → ∀ a, vp = some a → some a.block ≠ some (w1.heap.size + 1) := by
              intro _ a ha h
              have h1 := (hne6 a ha).1
              have h2 := (HO.out.lt (w1.heap.size + 1) rfl).2
              have h3 := HB5.out.size
              simp only [Option.some.injEq] at h
              omega
            have HZ6 := Lib.hid hz6
            have HL6 := Lib.hid hl6
            have HNE6 := Lib.hid hne6'
            have HO6 := Lib.hid ho6
            have HB6 := Lib.hid (HB.out.trans ((bt HB5.out hb6).mono HB.out.size))
            clear hown6 hb6 hz6 hl6 hne6 ho6 hne6' HB5 HB4 HB3 HZ5 HZW HBZ HCZ HXR
            generalize itpC q xs k y = c at *
            go_wp2_with fail
            refine (addMultiple_any q c w.heap.size (w1.heap.size + 1) 0 n n n n P vp n vpc (pRoots q (wo xs k)) h2 h3 hi0' hi1' HPRS.out (pRoots_res (by omega) _) HL6.out (Nat.le_refl _) (by omega) (by omega) _ HO6.out HZ6.out HNE6.out).mono ?_
            rintro e w7 ⟨⟨v, rfl⟩, hown7, hgr7⟩
            simp only [List.take_zero, List.drop_zero, List.nil_append] at hown7
            have HO7 := Lib.hid hown7
            have HB7 := Lib.hid (HB6.out.grown hgr7 HB6.out.size (by intro q hq; cases hq; have := HB1.out.size; simp only [World.size_alloc] at this; exact this))
            clear hown7 hgr7
            go_wp2
            go_roundw
            case rel => exact ⟨k + 1, _, by omega, by go_num, HMS.out, HO7.out, HB7.out⟩
            case measure => simp only [intOf]; omega
          · have HO := Lib.hid hownr
            have HB := Lib.hid hbel
            have HE := Lib.hid (itpAt_end hm (by have := HN'.out; omega))
            clear hownr hbel hm HOW HB2
            go_wp2
            go_ret2
            have h := HO.out
            rw [HE.out] at h
            exact ⟨_, n, n, rfl, h, HB.out⟩
  · have e1 : tabB q xs ys = false := by rw [tabB, decide_eq_false (by omega)]; rfl
    have e2 : itpRes q xs ys = [] := by simp [itpRes, e1]
    rw [e1, e2]
    have hnb : ((n : Int) != (n' : Int)) = true := by simp; omega
    clear e1 e2 hn hn' hnn
    go_enter Try.func114, Try.ntmps114
    go_wp2
    go_ret2
    exact listOut_nil _ _ (Below.refl _ _)

end Go.Proofs.Ytfjaohmildkeoaa

/- Interpolate of the reference. -/
namespace Go.Proofs.Ytfjaohmildkeoaa
open Go.RowKit

theorem pRoots_fac {q x : Int} (hq : 1 < q) (rs : List Int) : pev q x (pRoots q rs) = fac q x rs := pRoots_pev hq rs

end Go.Proofs.Ytfjaohmildkeoaa

/- Interpolate of the reference, and both answers. -/
namespace Go.Proofs.Ytfjaohmildkeoaa
open Go.RowKit

theorem interpolate_ans {q : Int} {P P' : Nat} {w : World} {v v' : Value} {xs ys : List Int} (hx : InI P w v xs) (hy : InI P' w v' ys) (hl : xs.length ≤ 17592186044416) (hl' : ys.length ≤ 17592186044416) :
    Calls Try.prog 114 #[.int .i64 q, v, v'] w (AnsY w (itpRes q xs ys) (tabB q xs ys)) := by
  obtain ⟨_, ad, cap, rfl, h1, _, hc⟩ := hx
  obtain ⟨_, ad', cap', rfl, h1', _⟩ := hy
  exact (interpolate_any q ad ad' _ _ cap cap' xs ys rfl rfl hl hl' hc w h1.ints h1'.ints).mono fun _ _ h => ansY_of h
end Go.Proofs.Ytfjaohmildkeoaa

