/- Records: counted lists behind one another, written and read; proofs and lists of lists. -/
import Derived.Test.YtmiohdibbpckaaaDoorRecA
import Derived.Test.YtmiohdibbpckaaaDoorTyS2
import Derived.Test.YtmiohdibbpckaaaDoorTyP
namespace Go.Proofs.YtmiohdibbpckaaaDoor
open Go.RowKit

/-- Counted lists behind one another. -/
def enc (zss : List (List Int)) : List Int := zss.flatMap fun z => (z.length : Int) :: z
theorem enc_cons (z : List Int) (zs : List (List Int)) : enc (z :: zs) = (z.length : Int) :: (z ++ enc zs) := by simp [enc]
theorem enc_length : ∀ (zss : List (List Int)), (enc zss).length = zss.length + nS zss
  | [] => rfl
  | z :: zs => by rw [enc_cons, nS_cons]; simp [enc_length zs]; omega
theorem enc_nil : enc [] = [] := rfl
theorem enc_snoc (z : List Int) (zs : List (List Int)) : enc (zs ++ [z]) = enc zs ++ (z.length : Int) :: z := by simp [enc]
theorem enc_step {zss rest : List (List Int)} {z : List Int} {k : Nat} {xs ys : List Int} (h : zss.drop k = z :: rest) (he : xs ++ enc zss = ys ++ enc (zss.drop k)) :
    xs ++ enc zss = (ys ++ [(z.length : Int)] ++ z) ++ enc rest := by
  rw [he, h, enc_cons]; simp
theorem enc_long {zss rest : List (List Int)} {z : List Int} {k m : Nat} {xs ys : List Int} (h : zss.drop k = z :: rest) (he : xs ++ enc zss = ys ++ enc (zss.drop k)) (hm : ys.length = m) (hl : 400 < m + 1 + z.length) : hashB (xs ++ enc zss) = false := by
  apply hashB_long
  rw [he, h, enc_cons]; simp; omega

theorem InI.parts {P : Nat} {w : World} {a : Option Addr} {n c : Nat} {z : List Int} (h : InI P w (.slice a n c) z) : z.length = n ∧ InB P w a z ∧ (a = none → c = 0) := by
  obtain ⟨_, a', c', h1, h2, h3⟩ := h
  simp only [Value.slice.injEq] at h1
  obtain ⟨rfl, h, rfl⟩ := h1
  exact ⟨h.symm, h2, h3.1⟩
theorem InI.cap {P : Nat} {w : World} {a : Option Addr} {n c : Nat} {z : List Int} (h : InI P w (.slice a n c) z) : n ≤ c := by
  obtain ⟨_, a', c', h1, h2, h3⟩ := h
  simp only [Value.slice.injEq] at h1
  obtain ⟨rfl, h, rfl⟩ := h1
  omega

set_option maxRecDepth 100000 in
set_option maxHeartbeats 3200000 in
theorem encodeParts_any (B : Nat) (va : Option Addr) (k0 vc : Nat) (xs : List Int) (hk0 : k0 ≤ 400) (pa : Option Addr) (n pc : Nat) (zss : List (List Int)) (hn : zss.length = n) (hl : n ≤ 1048576) (hr : ∀ z ∈ zss, z.length ≤ 1048576) (w : World) (hB : B ≤ w.heap.size)
    (hown : w.ownsRow B 3 1 (.slice va k0 vc) k0 (xs.map (Value.int .i64))) (hz : InS B w (.slice pa n pc) zss) :
    Calls Tryd.prog 60 #[.slice va k0 vc, .slice pa n pc] w (RecOut B w (recL (xs ++ enc zss)) (hashB (xs ++ enc zss))) := by
  obtain ⟨i0, hi, hz0, hz1, hz2⟩ := info_parts Tryd.info3
  have HN := Lib.hid hn
  have HR := Lib.hid hr
  have HO0 := Lib.hid hown
  have H := Lib.hid hz
  clear hn hr hown hz
  go_enter Tryd.func60, Tryd.ntmps60
  go_wp2
  go_loopw [0, 7, 10] (fun V _ K wr => ∃ (k m : Nat) (va : Option Addr) (vc : Nat) (ys : List Int), k ≤ n ∧ m ≤ 400 ∧ K = .int .i64 k ∧ V = .slice va m vc ∧ wr.ownsRow B 3 1 (.slice va m vc) m (ys.map (Value.int .i64)) ∧ Below B w wr ∧ xs ++ enc zss = ys ++ enc (zss.drop k)) (fun _ _ K _ => n - (intOf K).toNat)
  case atStart => exact ⟨0, k0, va, vc, xs, Nat.zero_le _, hk0, rfl, rfl, HO0.out, Below.refl _ _, rfl⟩
  case round =>
    obtain ⟨k, m, va, vc, ys, hk, hm, rfl, rfl, hown, hbel, he⟩ := hrel
    have hyl : ys.length = m := by have := hown.1; simpa using this
    have HO := Lib.hid hown
    have HB := Lib.hid hbel
    have hBr : B ≤ wr.heap.size := Nat.le_trans hB hbel.size
    by_cases hkn : k < n
    · obtain ⟨b, off, a, c, z, rfl, hb, hc, hin, hd⟩ := (H.out.belowP hbel).at (k := k) (by have := HN.out; omega)
      have hzl := HR.out z (List.mem_of_mem_drop (i := k) (by rw [hd]; simp))
      have HI := Lib.hid hin
      by_cases hq : 400 < m + 1 + z.length
      · have hqi : (400 : Int) < (m : Int) + 1 + (z.length : Int) := by omega
        have hf := enc_long hd he hyl hq
        have HF := Lib.hid hf
        clear hown hbel he hyl hin hd hf
        go_wp2
        go_ret2
        rw [HF.out, recL_no HF.out]
        exact recOut_nil _ _ _ HB.out
      · have hqi : (m : Int) + 1 + (z.length : Int) ≤ 400 := by omega
        have HE := Lib.hid (enc_step hd he)
        clear hown hbel he hyl hin hd
        go_wp2_with (first
          | (at_builtin; refine wpList_append_ints rfl _ _ 24 rfl B 3 i0 Tryd.underlying24 hi hz0 hz1 hz2 _ (m + 1) (ys ++ [(z.length : Int)]) rfl HO1.out a z.length c z rfl rfl (HI.out.belowP HB1.out).parts.2.1.ints (HI.out.parts.2.2) (by omega) (Nat.le_trans hBr HB1.out.size) ?_; intro v'' w2 hown'' hgrow2; obtain ⟨va'', vc'', rfl⟩ := own_shape hown''; have HO2 := Lib.hid hown''; have HB2 := Lib.hid (HB1.out.grown hgrow2 (Nat.le_trans hBr HB1.out.size) (fun q hq => (HO1.out.lt q hq).1)); clear hown'' hgrow2)
          | (at_builtin; refine wpList_append_ints rfl _ _ 24 rfl B 3 i0 Tryd.underlying24 hi hz0 hz1 hz2 _ m ys rfl (HO.out.alloc _) (some ⟨wr.heap.size, 0, none⟩) 1 1 [(z.length : Int)] rfl rfl (ints_spot wr _ rfl [(z.length : Int)] 3) (fun h => by cases h) (by omega) (Nat.le_trans hBr (ba wr _).size) ?_; intro v' w1 hown' hgrow; obtain ⟨va', vc', rfl⟩ := own_shape hown'; have HO1 := Lib.hid hown'; have HB1 := Lib.hid (((Below.refl B wr).alloc hBr _).grown hgrow (Nat.le_trans hBr (ba wr _).size) (fun q hq => (HO.out.lt q hq).1)); clear hown' hgrow))
        go_roundw
        case rel => exact ⟨k + 1, m + 1 + z.length, va'', vc'', ys ++ [(z.length : Int)] ++ z, by omega, by omega, by go_num, rfl, HO2.out, HB.out.trans HB2.out, HE.out⟩
        case measure => simp only [intOf]; omega
    · have HE := Lib.hid he
      have HY := Lib.hid hyl
      obtain rfl : k = n := by omega
      clear hown hbel he hyl
      have e1 : xs ++ enc zss = ys := by
        have := HE.out
        rw [List.drop_of_length_le (by have := HN.out; omega), enc_nil, List.append_nil] at this
        exact this
      have HE1 := Lib.hid e1
      clear e1
      cases hrec : hashB ys
      · have HRC := Lib.hid hrec
        clear hrec
        go_wp2_with fail
        refine (isRecord_any _ _ _ ys HY.out (by omega) _ (own_ints HO.out).1).mono ?_
        rw [HRC.out]
        rintro e w' ⟨rfl, rfl⟩
        go_wp2
        go_ret2
        rw [HE1.out, HRC.out, recL_no HRC.out]
        exact recOut_nil _ _ _ HB.out
      · have HRC := Lib.hid hrec
        clear hrec
        go_wp2_with fail
        refine (isRecord_any _ _ _ ys HY.out (by omega) _ (own_ints HO.out).1).mono ?_
        rw [HRC.out]
        rintro e w' ⟨rfl, rfl⟩
        go_wp2
        go_ret2
        rw [HE1.out, HRC.out, recL_yes HRC.out]
        exact ⟨va, m, vc, rfl, HO.out, HB.out⟩

end Go.Proofs.YtmiohdibbpckaaaDoor

