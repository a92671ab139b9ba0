/- EvalPoly and EvalAll of both. -/
import Derived.Test.YtipfckfjelignaaPolS
namespace Go.Proofs.Ytipfckfjelignaa
open Go.RowKit

def evB (q x : Int) (f : List Int) : Bool := fieldB q [f] && resB x q
def evRes (q x : Int) (f : List Int) : Int := if evB q x f then pev q x f else 0

set_option maxHeartbeats 1600000 in
theorem evalPoly_any (q : Int) (ad : Option Addr) (n cap : Nat) (f : List Int) (x : Int) (hn : f.length = n) (hl : n ≤ 17592186044416) (w : World) (hx : IsInts w ad f) :
    Calls Try.prog 45 #[.int .i64 q, .slice ad n cap, .int .i64 x] w fun e w' => e = .returned (.tuple #[.int .i64 (evRes q x f), .bool (evB q x f)]) ∧ Below w.heap.size w w' := by
  have HR := Lib.hid (rows_one w ad n cap f hn 27 hx)
  have HLL := Lib.hid (show ∀ r ∈ ([(ad, cap, f)] : List RowD), r.2.2.length ≤ 17592186044416 by intro r hr; simp at hr; subst hr; simp; omega)
  have hb0 := (Below.refl w.heap.size w).alloc (Nat.le_refl _) (.cells #[.slice ad n cap] 27)
  have HB0 := Lib.hid hb0
  cases hf : fieldB q [f]
  · have e1 : evB q x f = false := by simp [evB, hf]
    have e2 : evRes q x f = 0 := by simp [evRes, e1]
    rw [e1, e2]
    have HF := Lib.hid (show fieldB q (List.map (fun r : RowD => r.2.2) [(ad, cap, f)]) = false from hf)
    clear hf e1 e2 hn hb0
    go_enter Try.func45, Try.ntmps45
    go_wp2_with fail
    refine (inField_any _ _ 0 1 _ [(ad, cap, f)] rfl (by omega) HLL.out _ HR.out).mono ?_
    rintro e w' ⟨rfl, rfl⟩; rw [HF.out]
    go_wp2
    go_ret2
    exact ⟨rfl, HB0.out⟩
  · have HF := Lib.hid (show fieldB q (List.map (fun r : RowD => r.2.2) [(ad, cap, f)]) = true from hf)
    obtain ⟨h2, h3, hlen, hres⟩ := shortB_of (field_one hf).2
    cases hrx : resB x q
    · have e1 : evB q x f = false := by simp [evB, hrx]
      have e2 : evRes q x f = 0 := by simp [evRes, e1]
      rw [e1, e2]
      have HX := Lib.hid hrx
      clear hf e1 e2 hn hb0 hres hrx
      go_enter Try.func45, Try.ntmps45
      go_wp2_with fail
      refine (inField_any _ _ 0 1 _ [(ad, cap, f)] rfl (by omega) HLL.out _ HR.out).mono ?_
      rintro e w' ⟨rfl, rfl⟩; rw [HF.out]
      go_wp2_with fail
      refine (isResidue_any _ _ _).mono ?_
      rintro e w' ⟨rfl, rfl⟩; rw [HX.out]
      go_wp2
      go_ret2
      exact ⟨rfl, HB0.out⟩
    · have e1 : evB q x f = true := by simp [evB, hf, hrx]
      have e2 : evRes q x f = pev q x f := by simp [evRes, e1]
      rw [e1, e2]
      obtain ⟨_, _, hx0, hx1⟩ := resB_true.1 hrx
      have HX := Lib.hid hrx
      have HN := Lib.hid hn
      have HRES := Lib.hid hres
      have HX1 := Lib.hid (hx.below hb0 (Nat.le_refl _))
      have hn24 : n ≤ 24 := by omega
      clear hf e1 e2 hn hb0 hres hrx
      go_enter Try.func45, Try.ntmps45
      go_wp2_with fail
      refine (inField_any _ _ 0 1 _ [(ad, cap, f)] rfl (by omega) HLL.out _ HR.out).mono ?_
      rintro e w' ⟨rfl, rfl⟩; rw [HF.out]
      go_wp2_with fail
      refine (isResidue_any _ _ _).mono ?_
      rintro e w' ⟨rfl, rfl⟩; rw [HX.out]
      go_wp2_with fail
      refine (valueAt_any q ad n cap f x HN.out (by omega) h2 h3 hx0 hx1 HRES.out _ HX1.out).mono ?_
      rintro e w1 ⟨rfl, hb1⟩
      have HB1 := Lib.hid (bt HB0.out hb1)
      clear hb1
      go_wp2
      go_ret2
      exact ⟨rfl, HB1.out⟩

/-- All values. -/
def evAll (q : Int) (f xs : List Int) : List Int := xs.map fun x => pev q x f
theorem evAll_length (q : Int) (f xs : List Int) : (evAll q f xs).length = xs.length := by simp [evAll]
theorem evAll_get {q : Int} {f xs rest : List Int} {x : Int} {k : Nat} (h : xs.drop k = x :: rest) (hk : k < (evAll q f xs).length) : (evAll q f xs)[k] = pev q x f := by
  obtain ⟨hk', he⟩ := head_of_drop h
  simp [evAll, he]
theorem evAll_take {q : Int} {f xs rest : List Int} {x : Int} {k : Nat} (h : xs.drop k = x :: rest) : (evAll q f xs).take (k + 1) = (evAll q f xs).take k ++ [pev q x f] := by
  obtain ⟨hk', _⟩ := head_of_drop h
  rw [List.take_succ_eq_append_getElem (by rw [evAll_length]; exact hk'), evAll_get h]
def evAllRes (q : Int) (f xs : List Int) : List Int := if fieldB q [f, xs] then evAll q f xs else []
theorem evAllRes_le (q : Int) (f xs : List Int) : (evAllRes q f xs).length ≤ 24 := by
  unfold evAllRes
  split
  · rename_i h
    rw [evAll_length]; exact (shortB_of (field_two h).2.2).2.2.1
  · simp

set_option maxHeartbeats 1600000 in
theorem evalAll_any (q : Int) (ad ad' : Option Addr) (n n' cap cap' : Nat) (f xs : List Int) (hn : f.length = n) (hn' : xs.length = n') (hl : n ≤ 17592186044416) (hl' : n' ≤ 17592186044416) (w : World) (hx : IsInts w ad f) (hy : IsInts w ad' xs) :
    Calls Try.prog 42 #[.int .i64 q, .slice ad n cap, .slice ad' n' cap'] w (ListOut w (evAllRes q f xs) (fieldB q [f, xs])) := by
  have HR := Lib.hid (rows_two w ad ad' n n' cap cap' f xs hn hn' 27 hx hy)
  have HLL := Lib.hid (show ∀ r ∈ ([(ad, cap, f), (ad', cap', xs)] : List RowD), r.2.2.length ≤ 17592186044416 by intro r hr; simp at hr; rcases hr with rfl | rfl <;> simp <;> omega)
  have hb0 := (Below.refl w.heap.size w).alloc (Nat.le_refl _) (.cells #[.slice ad n cap, .slice ad' n' cap'] 27)
  have HB0 := Lib.hid hb0
  cases hf : fieldB q [f, xs]
  · have e2 : evAllRes q f xs = [] := by simp [evAllRes, hf]
    rw [e2]
    have HF := Lib.hid (show fieldB q (List.map (fun r : RowD => r.2.2) [(ad, cap, f), (ad', cap', xs)]) = false from hf)
    clear hf e2 hn hn' hb0
    go_enter Try.func42, Try.ntmps42
    go_wp2_with fail
    refine (inField_any _ _ 0 2 _ [(ad, cap, f), (ad', cap', xs)] rfl (by omega) HLL.out _ HR.out).mono ?_
    rintro e w' ⟨rfl, rfl⟩; rw [HF.out]
    go_wp2
    go_ret2
    exact listOut_nil _ _ HB0.out
  · obtain ⟨_, hsf, hsg⟩ := field_two hf
    obtain ⟨h2, h3, hfl, hfr⟩ := shortB_of hsf
    obtain ⟨_, _, hgl, hgr⟩ := shortB_of hsg
    have e2 : evAllRes q f xs = evAll q f xs := by simp [evAllRes, hf]
    rw [e2]
    obtain ⟨i0, hi0, hz0, hz1, hz2⟩ := info_parts Try.info3
    have HZ2 := Lib.hid hz2
    have HF := Lib.hid (show fieldB q (List.map (fun r : RowD => r.2.2) [(ad, cap, f), (ad', cap', xs)]) = true from hf)
    have HFR := Lib.hid hfr
    have HGR := Lib.hid hgr
    have HN := Lib.hid hn
    have HN' := Lib.hid hn'
    have hn24 : n ≤ 24 := by omega
    have hn24' : n' ≤ 24 := by omega
    clear hf e2 hn hn' hb0 hfr hgr hfl hgl hsf hsg hz2
    go_enter Try.func42, Try.ntmps42
    go_wp2_with fail
    refine (inField_any _ _ 0 2 _ [(ad, cap, f), (ad', cap', xs)] rfl (by omega) HLL.out _ HR.out).mono ?_
    rintro e w' ⟨rfl, rfl⟩; rw [HF.out]
    go_wp2_with (at_make
                 refine wpList_make_full _ rfl _ _ 27 rfl w.heap.size 3 i0 (.int .i64 0) 1 Try.underlying27 hi0 hz0 hz1 .i64 .i64 _ _ n' rfl rfl rfl rfl (by rw [HZ2.out]; omega) (by unfold maxLen; omega) HB0.out.size ?_
                 intro w2 hown hgrow
                 simp only [World.size_alloc] at hown ⊢
                 have HOW := Lib.hid (made_zeros hown)
                 have HB2 := Lib.hid (HB0.out.grown hgrow HB0.out.size (by simp))
                 clear hown hgrow)
    go_loopw [22] (fun K wr => ∃ k : Nat, k ≤ n' ∧ K = .int .i64 k ∧ wr.ownsRow w.heap.size 3 1 (.slice (some ⟨w.heap.size + 1, 0, none⟩) n' n') n' ((over (evAll q f xs) (List.replicate n' 0) k).map (Value.int .i64)) ∧ Below w.heap.size w wr) (fun K _ => n' - (intOf K).toNat)
    case atStart => exact ⟨0, Nat.zero_le _, rfl, by rw [over_zero]; exact HOW.out, HB2.out⟩
    case round =>
      obtain ⟨k, hk, rfl, hownr, hbel⟩ := hrel
      by_cases hkn : k < n'
      · obtain ⟨b, off, x, rfl, hb, hc, hd⟩ := (hy.below hbel (Nat.le_refl _)).at (k := k) (by have := HN'.out; omega)
        obtain ⟨hx0, hx1⟩ := HGR.out x (mem_drop hd)
        have HX1 := Lib.hid (hx.below hbel (Nat.le_refl _))
        have HG := Lib.hid (fun h => evAll_get (q := q) (f := f) hd h)
        have HO := Lib.hid hownr
        have HB := Lib.hid hbel
        clear hownr hbel hd HOW HB2
        go_wp2_with fail
        refine (valueAt_any q ad n cap f x HN.out (by omega) h2 h3 hx0 hx1 HFR.out _ HX1.out).mono ?_
        rintro e w3 ⟨rfl, hb3⟩
        have ho3 := own_below HO.out hb3
        obtain ⟨⟨u, hcu⟩, hfu⟩ := own_cell ho3 hkn
        have HO3 := Lib.hid (inv_store ho3 HG.out (by rw [evAll_length, HN'.out]; exact hkn) (by simpa using hkn))
        have HB3 := Lib.hid (HB.out.trans (hb3.mono HB.out.size))
        clear hb3 ho3
        go_wp2
        go_roundw
        case rel => exact ⟨k + 1, by omega, by go_num, HO3.out, HB3.out.setCell (by show w.heap.size ≤ w.heap.size + 1; omega) _⟩
        case measure => simp only [intOf]; omega
      · have HO := Lib.hid hownr
        have HB := Lib.hid hbel
        clear hownr hbel HOW HB2
        go_wp2
        go_ret2
        refine ⟨_, n', n', rfl, ?_, HB.out⟩
        have h := HO.out
        rwa [over_all _ _ (by rw [evAll_length, HN'.out]; omega) (by simp; omega)] at h

theorem evalPoly_ans {q x : Int} {P : Nat} {w : World} {v : Value} {f : List Int} (hx : InI P w v f) (hl : f.length ≤ 17592186044416) :
    Calls Try.prog 45 #[.int .i64 q, v, .int .i64 x] w fun e w' => e = .returned (.tuple #[.int .i64 (evRes q x f), .bool (evB q x f)]) ∧ Below w.heap.size w w' := by
  obtain ⟨_, ad, cap, rfl, h1, _⟩ := hx
  exact evalPoly_any q ad _ cap f x rfl hl w h1.ints
theorem evalAll_ans {q : Int} {P P' : Nat} {w : World} {v v' : Value} {f xs : List Int} (hx : InI P w v f) (hy : InI P' w v' xs) (hl : f.length ≤ 17592186044416) (hl' : xs.length ≤ 17592186044416) :
    Calls Try.prog 42 #[.int .i64 q, v, v'] w (AnsY w (evAllRes q f xs) (fieldB q [f, xs])) := by
  obtain ⟨_, ad, cap, rfl, h1, _⟩ := hx
  obtain ⟨_, ad', cap', rfl, h1', _⟩ := hy
  exact (evalAll_any q ad ad' _ _ cap cap' f xs rfl rfl hl hl' w h1.ints h1'.ints).mono fun _ _ h => ansY_of h
end Go.Proofs.Ytipfckfjelignaa

