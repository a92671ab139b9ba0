/- Lagrange coefficients of the program. -/
import Derived.Test.YtipfckfjelignaaPolJ
namespace Go.Proofs.Ytipfckfjelignaa
open Go.RowKit

theorem factorWithRoots_any (q : Int) (ad : Option Addr) (n cap : Nat) (w : World) :
    Calls Try.prog 95 #[.int .i64 q, .slice ad n cap] w fun e w' =>
      e = .returned (.func (.func 127) #[] #[.pointer (some ⟨w.heap.size + 1, 0, none⟩), .pointer (some ⟨w.heap.size, 0, none⟩)]) ∧
      w' = (w.alloc (.cells #[.int .i64 q] 3)).alloc (.cells #[.slice ad n cap] 27) := by
  go_enter Try.func95, Try.ntmps95
  go_wp2
  go_ret
  exact ⟨rfl, rfl⟩

theorem quietlyP {P : Program} {f : FuncId} {args : Array Value} {w : World} {n : Nat} {v : Value}
    (h : Calls P f args (w.drewN n) fun e w' => e = .returned v ∧ w.drewN n = w') : Calls P f args (w.drewN n) fun e w'' => e = .returned v ∧ ∃ m, w'' = w.drewN m :=
  h.mono fun _ _ ⟨he, hm⟩ => ⟨he, n, hm.symm⟩

theorem facFrom_step {q x acc t r : Int} {rs rest : List Int} {k : Nat} (h : rs.drop k = r :: rest) (hb : t = facFrom q x acc (rs.drop k)) : t = facFrom q x (acc * ((x - r) % q) % q) rest := by
  rw [hb, h]; rfl

set_option maxHeartbeats 1600000 in
theorem factor_any (q x : Int) (Bs Bq : Nat) (ad : Option Addr) (n cap : Nat) (rs : List Int) (hn : rs.length = n) (hl : n ≤ 1000000) (h2 : 2 ≤ q) (h3 : q ≤ 2000000000) (hx0 : 0 ≤ x) (hx1 : x < q) (hr : ∀ z ∈ rs, 0 ≤ z ∧ z < q)
    (w : World) (hs : w.cell? ⟨Bs, 0, none⟩ = some (.slice ad n cap)) (hq : w.cell? ⟨Bq, 0, none⟩ = some (.int .i64 q)) (hz : IsInts w ad rs) :
    Calls Try.prog 127 #[.int .i64 x, .pointer (some ⟨Bs, 0, none⟩), .pointer (some ⟨Bq, 0, none⟩)] w fun e w' => e = .returned (.int .i64 (fac q x rs)) ∧ Below w.heap.size w w' := by
  have HR := Lib.hid hr
  have HN := Lib.hid hn
  have HQ := Lib.hid hq
  have hBq : Bq < w.heap.size := World.block_lt_of_cell? w _ hq
  clear hr hn hq
  go_enter Try.func127, Try.ntmps127
  go_wp2_with fail
  go_loopw [5, 7, 10] (fun A _ K wr => ∃ (k : Nat) (a : Int), k ≤ n ∧ (0 ≤ a ∧ a < q) ∧ A = .int .i64 a ∧ K = .int .i64 k ∧ fac q x rs = facFrom q x a (rs.drop k) ∧ Below w.heap.size w wr) (fun _ _ K _ => n - (intOf K).toNat)
  case atStart => exact ⟨0, 1, Nat.zero_le _, ⟨by omega, by omega⟩, rfl, rfl, rfl, Below.refl _ _⟩
  case round =>
    obtain ⟨k, a, hk, ⟨ha0, ha1⟩, rfl, rfl, he, hbel⟩ := hrel
    by_cases hkn : k < n
    · obtain ⟨b, off, r, rfl, hb, hc, hd⟩ := (hz.below hbel (Nat.le_refl _)).at (k := k) (by have := HN.out; omega)
      have HS := Lib.hid (facFrom_step hd he)
      obtain ⟨hr0, hr1⟩ := HR.out r (mem_drop hd)
      have hd0 : 0 ≤ (x - r) % q := Int.emod_nonneg _ (by omega)
      have hd1 : (x - r) % q < q := Int.emod_lt_of_pos _ (by omega)
      obtain ⟨m0, m1⟩ := mul_res h3 ha0 ha1 hd0 hd1
      have hqr : wr.cell? ⟨Bq, 0, none⟩ = some (.int .i64 q) := by rw [hbel.cell (p := ⟨Bq, 0, none⟩) hBq, HQ.out]
      have HB := Lib.hid hbel
      have hsub := fun w => subtract_any q x r h2 h3 hx0 hx1 hr0 hr1 w
      have HSUB := Lib.hid hsub
      generalize (x - r) % q = d at *
      have hp0 : 0 ≤ a * d % q := Int.emod_nonneg _ (by omega)
      have hp1 : a * d % q < q := Int.emod_lt_of_pos _ (by omega)
      have hw1 : IntKind.i64.wrap (a * d) = a * d := by rw [IntKind.wrap_i64]; omega
      have hq0 : q ≠ 0 := by omega
      have htm : (a * d).tmod q = a * d % q := Int.tmod_eq_emod_of_nonneg m0
      clear he hd hbel hsub
      go_wp2_with fail
      go_quiet (first | (go_at_call 128; refine quietlyP (HSUB.out _)))
      go_wp2
      go_roundw
      case rel => exact ⟨k + 1, _, by omega, ⟨hp0, hp1⟩, rfl, by go_num, HS.out, below_drewN HB.out _⟩
      case measure => simp only [intOf]; omega
    · have HE := Lib.hid he
      have HB := Lib.hid hbel
      clear he hbel
      go_wp2
      go_ret
      refine ⟨?_, HB.out⟩
      rw [HE.out, List.drop_of_length_le (by have := HN.out; omega)]; rfl

/-- The coefficients. -/
def coefAt (q x : Int) (xs : List Int) (i : Nat) : Int := fac q x (wo xs i) * Num.inv (fac q (xs[i]?.getD 0) (wo xs i)) q % q
def lagr (q x : Int) (xs : List Int) : List Int := (List.range xs.length).map (coefAt q x xs)
theorem lagr_length (q x : Int) (xs : List Int) : (lagr q x xs).length = xs.length := by simp [lagr]
theorem lagr_get {q x : Int} {xs : List Int} {i : Nat} (h : i < (lagr q x xs).length) : (lagr q x xs)[i] = coefAt q x xs i := by simp [lagr]
theorem not_mem_wo {xs rest : List Int} {z : Int} {k : Nat} (h : xs.drop k = z :: rest) (hn : xs.Nodup) : z ∉ wo xs k := by
  have e : xs.drop (k + 1) = rest := by rw [← List.drop_drop, h]; rfl
  rw [← List.take_append_drop k xs, h, List.nodup_append] at hn
  obtain ⟨_, h2, h3⟩ := hn
  unfold wo
  rw [List.mem_append, e]
  rintro (h' | h')
  · exact h3 z h' z (by simp) rfl
  · exact (List.nodup_cons.1 h2).1 h'
theorem at_of_drop {xs rest : List Int} {z : Int} {k : Nat} (h : xs.drop k = z :: rest) : xs[k]?.getD 0 = z := by
  obtain ⟨hk, he⟩ := head_of_drop h
  simp [hk, he]
theorem fac_inv {q z : Int} {xs rest : List Int} {k : Nat} (hq : isPr q = true) (hr : ∀ z ∈ xs, 0 ≤ z ∧ z < q) (hn : xs.Nodup) (hd : xs.drop k = z :: rest) : 0 < fac q z (wo xs k) ∧ Num.invOk (fac q z (wo xs k)) q = true := by
  obtain ⟨h2, h3, _⟩ := isPr_num hq
  have hz := hr z (mem_drop hd)
  have h0 := fac_ne hq hz.1 hz.2 (wo xs k) 1 (fun r h => hr r (wo_mem h)) (not_mem_wo hd hn) (by omega) (by omega)
  exact ⟨h0, invOk_pr hq h0 (fac_range (by omega) _).2⟩

def lagB (q x : Int) (xs : List Int) : Bool := ptsB q xs && resB x q
def lagRes (q x : Int) (xs : List Int) : List Int := if lagB q x xs then lagr q x xs else []
theorem pts_of {q : Int} {xs : List Int} (h : ptsB q xs = true) : isPr q = true ∧ shortB xs q = true ∧ xs.Nodup ∧ xs.length ≠ 0 := by
  simp only [ptsB, Bool.and_eq_true, decide_eq_true_eq] at h
  obtain ⟨⟨h1, h2⟩, h3⟩ := h
  exact ⟨(field_one h2).1, (field_one h2).2, h3, h1⟩
theorem lagRes_le (q x : Int) (xs : List Int) : (lagRes q x xs).length ≤ 24 := by
  unfold lagRes
  split
  · rename_i h
    simp only [lagB, Bool.and_eq_true] at h
    rw [lagr_length]
    exact (shortB_of (pts_of h.1).2.1).2.2.1
  · simp

set_option maxHeartbeats 3200000 in
theorem lagrangeCoefs_any (q : Int) (ad : Option Addr) (n cap : Nat) (xs : List Int) (x : Int) (hn : xs.length = n) (hl : n ≤ 17592186044416) (hcap : n ≤ cap) (w : World) (hx : IsInts w ad xs) :
    Calls Try.prog 46 #[.int .i64 q, .slice ad n cap, .int .i64 x] w (ListOut w (lagRes q x xs) (lagB q x xs)) := by
  have HN := Lib.hid hn
  cases hp : ptsB q xs
  · have e1 : lagB q x xs = false := by simp [lagB, hp]
    have e2 : lagRes q x xs = [] := by simp [lagRes, e1]
    rw [e1, e2]
    have HP := Lib.hid hp
    clear hp e1 e2 hn
    go_enter Try.func46, Try.ntmps46
    go_wp2_with fail
    refine (arePoints_any q ad n cap xs HN.out (by omega) hcap _ hx).mono ?_
    rintro e w1 ⟨rfl, hb1⟩; rw [HP.out]
    have HB1 := Lib.hid hb1
    clear hb1
    go_wp2
    go_ret2
    exact listOut_nil _ _ HB1.out
  · have HP := Lib.hid hp
    cases hrx : resB x q
    · have e1 : lagB q x xs = false := by simp [lagB, hrx]
      have e2 : lagRes q x xs = [] := by simp [lagRes, e1]
      rw [e1, e2]
      have HR := Lib.hid hrx
      clear hp hrx e1 e2 hn
      go_enter Try.func46, Try.ntmps46
      go_wp2_with fail
      refine (arePoints_any q ad n cap xs HN.out (by omega) hcap _ hx).mono ?_
      rintro e w1 ⟨rfl, hb1⟩; rw [HP.out]
      have HB1 := Lib.hid hb1
      clear hb1
      go_wp2_with fail
      refine (isResidue_any _ _ _).mono ?_
      rintro e w' ⟨rfl, rfl⟩; rw [HR.out]
      go_wp2
      go_ret2
      exact listOut_nil _ _ HB1.out
    · have e1 : lagB q x xs = true := by simp [lagB, hp, hrx]
      have e2 : lagRes q x xs = lagr q x xs := by simp [lagRes, e1]
      rw [e1, e2]
      obtain ⟨hpr, hsx, hnd, hn0⟩ := pts_of hp
      obtain ⟨h2, h3, hlen, hres⟩ := shortB_of hsx
      obtain ⟨_, _, hx0, hx1⟩ := resB_true.1 hrx
      obtain ⟨i0, hi0, hz0, hz1, hz2⟩ := info_parts Try.info3
      have HZ2 := Lib.hid hz2
      have HR := Lib.hid hrx
      have HPR := Lib.hid hpr
      have HND := Lib.hid hnd
      have HRES := Lib.hid hres
      have hn24 : n ≤ 24 := by omega
      clear hp hrx e1 e2 hn hpr hsx hnd hn0 hres hlen hz2
      go_enter Try.func46, Try.ntmps46
      go_wp2_with fail
      refine (arePoints_any q ad n cap xs HN.out (by omega) hcap _ hx).mono ?_
      rintro e w1 ⟨rfl, hb1⟩; rw [HP.out]
      have HB1 := Lib.hid hb1
      clear hb1
      go_wp2_with (first
        | (go_at_call 54; refine (isResidue_any _ _ _).mono ?_; rintro e w' ⟨rfl, rfl⟩; rw [HR.out])
        | (at_make
           refine wpList_make_full _ rfl _ _ 27 rfl w.heap.size 3 i0 (.int .i64 0) 1 Try.underlying27 hi0 hz0 hz1 .i64 .i64 _ _ n rfl rfl rfl rfl (by rw [HZ2.out]; omega) (by unfold maxLen; omega) HB1.out.size ?_
           intro w2 hown hgrow
           have HOW := Lib.hid (made_zeros hown)
           have HB2 := Lib.hid (HB1.out.grown hgrow HB1.out.size (by simp))
           clear hown hgrow)
        | fail)
      go_loopw [27] (fun K wr => ∃ k : Nat, k ≤ n ∧ K = .int .i64 k ∧ wr.ownsRow w.heap.size 3 1 (.slice (some ⟨w1.heap.size, 0, none⟩) n n) n ((over (lagr q x xs) (List.replicate n 0) k).map (Value.int .i64)) ∧ Below w.heap.size w wr) (fun K _ => n - (intOf K).toNat)
      case atStart => exact ⟨0, Nat.zero_le _, rfl, by rw [over_zero]; exact HOW.out, HB2.out⟩
      case round =>
        obtain ⟨k, hk, rfl, hownr, hbel⟩ := hrel
        by_cases hkn : k < n
        · have hxr := hx.below hbel (Nat.le_refl _)
          obtain ⟨b, off, z, rfl, hb, hc, hd⟩ := hxr.at (k := k) (by have := HN.out; omega)
          obtain ⟨hz0', hz1'⟩ := HRES.out z (mem_drop hd)
          obtain ⟨hf0, hfok⟩ := fac_inv HPR.out HRES.out HND.out hd
          obtain ⟨hfa0, hfa1⟩ := fac_range (q := q) (x := x) (by omega) (wo xs k)
          obtain ⟨hfb0, hfb1⟩ := fac_range (q := q) (x := z) (by omega) (wo xs k)
          have HXR := Lib.hid hxr
          have HOK := Lib.hid hfok
          have HZ := Lib.hid (at_of_drop hd)
          have HO := Lib.hid hownr
          have HB := Lib.hid hbel
          obtain ⟨m, hm⟩ : ∃ m, (wo xs k).length = m := ⟨_, rfl⟩
          have hm1 : m ≤ 24 := by rw [← hm, wo_length (by have := HN.out; omega)]; have := HN.out; omega
          have HM := Lib.hid hm
          have HWR := Lib.hid (show ∀ z ∈ wo xs k, 0 ≤ z ∧ z < q from fun z h => HRES.out z (wo_mem h))
          clear hownr hbel hd hfok hxr hm HOW HB2
          go_wp2_with fail
          refine (without_any _ n cap k xs HN.out hkn hcap (by omega) _ HXR.out).mono ?_
          rintro e w3 ⟨va, vc, rfl, hown3, hb3⟩
          rw [HM.out] at hown3 ⊢
          obtain ⟨hzw, _, _⟩ := ints_of_own_any hown3
          have HZW := Lib.hid hzw
          have HB3 := Lib.hid hb3
          clear hown3 hzw hb3
          go_wp2_with fail
          refine (factorWithRoots_any q va m vc _).mono ?_
          rintro e w4 ⟨rfl, hw4⟩
          have hb4 : Below w3.heap.size w3 w4 := by rw [hw4]; exact (ba _ _).alloc (by simp) _
          have hq4 : w4.cell? ⟨w3.heap.size, 0, none⟩ = some (.int .i64 q) := by
            rw [hw4, (ba (w3.alloc (.cells #[.int .i64 q] 3)) _).cell (p := ⟨w3.heap.size, 0, none⟩) (by simp)]
            exact World.cell?_alloc_at _ _ _ _ rfl
          have hs4 : w4.cell? ⟨w3.heap.size + 1, 0, none⟩ = some (.slice va m vc) := by
            rw [hw4, World.cell?_alloc_at _ _ (w3.heap.size + 1) 0 (by simp)]; rfl
          have hsz4 : w3.heap.size + 1 < w4.heap.size := by rw [hw4]; simp
          have HQ4 := Lib.hid hq4
          have HS4 := Lib.hid hs4
          have HZ4 := Lib.hid (HZW.out.below hb4 (Nat.le_refl _))
          have HB4 := Lib.hid (bt HB3.out hb4)
          clear hb4 hq4 hs4 hw4
          go_wp2_with fail
          refine (factor_any q x (w3.heap.size + 1) w3.heap.size va m vc (wo xs k) HM.out (by omega) h2 h3 hx0 hx1 HWR.out _ HS4.out HQ4.out HZ4.out).mono ?_
          rintro e w5 ⟨rfl, hb5⟩
          have HQ5 := Lib.hid (show w5.cell? ⟨w3.heap.size, 0, none⟩ = some (.int .i64 q) by rw [hb5.cell (p := ⟨w3.heap.size, 0, none⟩) (by show w3.heap.size < _; omega), HQ4.out])
          have HS5 := Lib.hid (show w5.cell? ⟨w3.heap.size + 1, 0, none⟩ = some (.slice va m vc) by rw [hb5.cell (p := ⟨w3.heap.size + 1, 0, none⟩) (by show w3.heap.size + 1 < _; omega), HS4.out])
          have HZ5 := Lib.hid (HZ4.out.below hb5 (Nat.le_refl _))
          have HB5 := Lib.hid (bt HB4.out hb5)
          clear hb5 HQ4 HS4 HZ4
          go_wp2_with fail
          refine (factor_any q z (w3.heap.size + 1) w3.heap.size va m vc (wo xs k) HM.out (by omega) h2 h3 hz0' hz1' HWR.out _ HS5.out HQ5.out HZ5.out).mono ?_
          rintro e w6 ⟨rfl, hb6⟩
          have HB6 := Lib.hid (bt HB5.out hb6)
          clear hb6 HQ5 HS5 HZ5
          have ho6 := own_below HO.out HB6.out
          obtain ⟨⟨u, hcu⟩, hfu⟩ := own_cell ho6 hkn
          have HO6 := Lib.hid (inv_store ho6 (fun h => lagr_get h) (by rw [lagr_length, HN.out]; exact hkn) (by simpa using hkn))
          have HBT := Lib.hid (HB.out.trans (HB6.out.mono HB.out.size))
          have HCE := Lib.hid (show coefAt q x xs k = fac q x (wo xs k) * Num.inv (fac q z (wo xs k)) q % q by unfold coefAt; rw [HZ.out])
          clear ho6
          generalize fac q x (wo xs k) = fa at *
          generalize fac q z (wo xs k) = fb at *
          go_wp2_with fail
          refine (divide_any q fa fb h2 h3 hfa0 hfa1 hfb0 hfb1 HOK.out _).mono ?_
          rintro e w' ⟨rfl, rfl⟩
          rw [← HCE.out]
          go_wp2
          go_roundw
          case rel => exact ⟨k + 1, by omega, by go_num, HO6.out, HBT.out.setCell (by have := HB1.out.size; exact this) _⟩
          case measure => simp only [intOf]; omega
        · have HO := Lib.hid hownr
          have HB := Lib.hid hbel
          clear hownr hbel HOW HB2
          go_wp2
          go_ret2
          refine ⟨_, n, n, rfl, ?_, HB.out⟩
          have h := HO.out
          rwa [over_all _ _ (by rw [lagr_length, HN.out]; omega) (by simp; omega)] at h

end Go.Proofs.Ytipfckfjelignaa

