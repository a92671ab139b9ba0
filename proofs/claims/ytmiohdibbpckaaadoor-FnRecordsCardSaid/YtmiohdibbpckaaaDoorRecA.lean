/- Records: what a record is; lists below a bound; a counted list is put behind a list. -/
import Derived.Test.YtmiohdibbpckaaaDoorTyI
namespace Go.Proofs.YtmiohdibbpckaaaDoor
open Go.RowKit

/-- A record: at most 400 digests. -/
theorem hashB_true {zs : List Int} : hashB zs = true ↔ zs.length ≤ 400 ∧ digsB zs = true := by simp [hashB]
theorem hashB_long {zs : List Int} (h : 400 < zs.length) : hashB zs = false := by rw [← Bool.not_eq_true, hashB_true]; omega

theorem isRecord_any (ad : Option Addr) (n cap : Nat) (zs : List Int) (hn : zs.length = n) (hl : n ≤ 1152921504606846976) (w : World) (hz : IsInts w ad zs) :
    Calls Tryd.prog 63 #[.slice ad n cap] w fun e w' => e = .returned (.bool (hashB zs)) ∧ w = w' := by
  by_cases h400 : n ≤ 400
  · have hni : (n : Int) ≤ 400 := by omega
    have e1 : hashB zs = digsB zs := by simp [hashB, hn, h400]
    rw [e1]
    have HN := Lib.hid hn
    clear e1 hn
    go_enter Tryd.func63, Tryd.ntmps63
    go_wp2_with fail
    refine (areDigests_any _ _ _ zs HN.out hl _ hz).mono ?_
    rintro e w' ⟨rfl, rfl⟩
    go_wp2
    go_ret
    exact ⟨rfl, rfl⟩
  · have e1 : hashB zs = false := by simp [hashB, hn]; omega
    rw [e1]
    have hni : (400 : Int) < (n : Int) := by omega
    clear e1 hn
    go_enter Tryd.func63, Tryd.ntmps63
    go_wp2
    go_ret
    exact ⟨rfl, rfl⟩

theorem l4Record_any (ad : Option Addr) (n cap : Nat) (zs : List Int) (hn : zs.length = n) (hl : n ≤ 1152921504606846976) (w : World) (hz : IsInts w ad zs) :
    Calls Tryd.prog 76 #[.slice ad n cap] w fun e w' => e = .returned (.bool (hashB zs)) ∧ w = w' := by
  by_cases h400 : n ≤ 400
  · have hni : (n : Int) ≤ 400 := by omega
    have e1 : hashB zs = allIn zs 0 4611686018427387903 := by rw [digs_in]; simp [hashB, hn, h400]
    rw [e1]
    have HN := Lib.hid hn
    clear e1 hn
    go_enter Tryd.func76, Tryd.ntmps76
    go_wp2_with fail
    refine (l1All_any _ _ _ zs _ _ HN.out hl _ hz).mono ?_
    rintro e w' ⟨rfl, rfl⟩
    go_wp2
    go_ret
    exact ⟨rfl, rfl⟩
  · have e1 : hashB zs = false := by simp [hashB, hn]; omega
    rw [e1]
    have hni : (400 : Int) < (n : Int) := by omega
    clear e1 hn
    go_enter Tryd.func76, Tryd.ntmps76
    go_wp2
    go_ret
    exact ⟨rfl, rfl⟩

theorem l4If_yes (ad : Option Addr) (n cap : Nat) (zs : List Int) (hn : zs.length = n) (hl : n ≤ 1152921504606846976) (hr : hashB zs = true) (w : World) (hz : IsInts w ad zs) :
    Calls Tryd.prog 61 #[.slice ad n cap] w fun e w' => e = .returned (.tuple #[.slice ad n cap, .bool true]) ∧ w = w' := by
  have HN := Lib.hid hn
  have HR := Lib.hid hr
  clear hn hr
  go_enter Tryd.func61, Tryd.ntmps61
  go_wp2_with fail
  refine (l4Record_any _ _ _ zs HN.out hl _ hz).mono ?_
  rw [HR.out]
  rintro e w' ⟨rfl, rfl⟩
  go_wp2
  go_ret2
  exact ⟨rfl, rfl⟩
theorem l4If_no (ad : Option Addr) (n cap : Nat) (zs : List Int) (hn : zs.length = n) (hl : n ≤ 1152921504606846976) (hr : hashB zs = false) (w : World) (hz : IsInts w ad zs) :
    Calls Tryd.prog 61 #[.slice ad n cap] w fun e w' => e = .returned (.tuple #[.slice none 0 0, .bool false]) ∧ w = w' := by
  have HN := Lib.hid hn
  have HR := Lib.hid hr
  clear hn hr
  go_enter Tryd.func61, Tryd.ntmps61
  go_wp2_with fail
  refine (l4Record_any _ _ _ zs HN.out hl _ hz).mono ?_
  rw [HR.out]
  rintro e w' ⟨rfl, rfl⟩
  go_wp2
  go_ret2
  exact ⟨rfl, rfl⟩

/-- What a list that may be no record is answered as. -/
def recL (zs : List Int) : List Int := if hashB zs then zs else []
theorem recL_yes {zs : List Int} (h : hashB zs = true) : recL zs = zs := by simp [recL, h]
theorem recL_no {zs : List Int} (h : hashB zs = false) : recL zs = [] := by simp [recL, h]
theorem recL_length (zs : List Int) : (recL zs).length ≤ 400 := by
  unfold recL; split
  · rename_i h; exact (hashB_true.1 h).1
  · simp

/-- A list in a row of one's own from block B on. -/
def PutOut (B : Nat) (w : World) (zs : List Int) (e : Ending) (w' : World) : Prop :=
  ∃ (va : Option Addr) (k vc : Nat), e = .returned (.slice va k vc) ∧ w'.ownsRow B 3 1 (.slice va k vc) k (zs.map (Value.int .i64)) ∧ Below B w w'
/-- The same, with a bool beside it. -/
def RecOut (B : Nat) (w : World) (zs : List Int) (ok : Bool) (e : Ending) (w' : World) : Prop :=
  ∃ (va : Option Addr) (k vc : Nat), e = .returned (.tuple #[.slice va k vc, .bool ok]) ∧ w'.ownsRow B 3 1 (.slice va k vc) k (zs.map (Value.int .i64)) ∧ Below B w w'
theorem recOut_nil (B : Nat) (w w' : World) (h : Below B w w') : RecOut B w [] false (.returned (.tuple #[.slice none 0 0, .bool false])) w' :=
  ⟨none, 0, 0, rfl, World.ownsRow_nil _ _ _ _, h⟩

set_option maxRecDepth 100000 in
set_option maxHeartbeats 1600000 in
theorem l4Put_any (B : Nat) (va : Option Addr) (k vc : Nat) (xs : List Int) (hk : k ≤ 1000000000) (ad : Option Addr) (n cap : Nat) (zs : List Int) (hn : zs.length = n) (hl : n ≤ 1000000000) (hnil : ad = none → cap = 0) (w : World) (hB : B ≤ w.heap.size)
    (hown : w.ownsRow B 3 1 (.slice va k vc) k (xs.map (Value.int .i64))) (hz : InB B w ad zs) :
    Calls Tryd.prog 95 #[.slice va k vc, .slice ad n cap] w (PutOut B w (xs ++ (n : Int) :: zs)) := by
  obtain ⟨i0, hi, hz0, hz1, hz2⟩ := info_parts Tryd.info3
  have HN := Lib.hid hn
  have HNIL := Lib.hid hnil
  have HO := Lib.hid hown
  have HZ := Lib.hid hz
  have hn0 : 0 ≤ (n : Int) := by omega
  clear hn hnil hown hz
  go_enter Tryd.func95, Tryd.ntmps95
  go_wp2_with (first
    | (at_builtin; refine wpList_append_ints rfl _ _ 24 rfl B 3 i0 Tryd.underlying24 hi hz0 hz1 hz2 _ (k + 1) (xs ++ [(n : Int)]) rfl HO1.out ad n cap zs rfl HN.out (HZ.out.below HB1.out).ints HNIL.out (by omega) (Nat.le_trans hB HB1.out.size) ?_; intro v'' w2 hown'' hgrow2; obtain ⟨va'', vc'', rfl⟩ := own_shape hown''; have HO2 := Lib.hid hown''; have HB2 := Lib.hid (HB1.out.grown hgrow2 (Nat.le_trans hB HB1.out.size) (fun q hq => (HO1.out.lt q hq).1)); clear hown'' hgrow2)
    | (at_builtin; refine wpList_append_ints rfl _ _ 24 rfl B 3 i0 Tryd.underlying24 hi hz0 hz1 hz2 _ k xs rfl (HO.out.alloc _) (some ⟨w.heap.size, 0, none⟩) 1 1 [(n : Int)] rfl rfl (ints_spot w _ rfl [(n : Int)] 3) (fun h => by cases h) (by omega) (Nat.le_trans hB (ba w _).size) ?_; intro v' w1 hown' hgrow; obtain ⟨va', vc', rfl⟩ := own_shape hown'; have HO1 := Lib.hid hown'; have HB1 := Lib.hid (((Below.refl B w).alloc hB _).grown hgrow (Nat.le_trans hB (ba w _).size) (fun q hq => (HO.out.lt q hq).1)); clear hown' hgrow))
  go_ret
  refine ⟨va'', _, vc'', rfl, ?_, HB2.out⟩
  simpa using HO2.out

end Go.Proofs.YtmiohdibbpckaaaDoor

/- Records: counted lists behind one another, written and read; proofs and lists of lists. -/
namespace Go.Proofs.YtmiohdibbpckaaaDoor
open Go.RowKit

/-- Counted lists behind one another. -/
def enc (zss : List (List Int)) : List Int := zss.flatMap fun z => (z.length : Int) :: z
theorem enc_cons (z : List Int) (zs : List (List Int)) : enc (z :: zs) = (z.length : Int) :: (z ++ enc zs) := by simp [enc]
theorem enc_length : ∀ (zss : List (List Int)), (enc zss).length = zss.length + nS zss
  | [] => rfl
  | z :: zs => by rw [enc_cons, nS_cons]; simp [enc_length zs]; omega
theorem enc_nil : enc [] = [] := rfl
theorem enc_snoc (z : List Int) (zs : List (List Int)) : enc (zs ++ [z]) = enc zs ++ (z.length : Int) :: z := by simp [enc]
theorem enc_step {zss rest : List (List Int)} {z : List Int} {k : Nat} {xs ys : List Int} (h : zss.drop k = z :: rest) (he : xs ++ enc zss = ys ++ enc (zss.drop k)) :
    xs ++ enc zss = (ys ++ [(z.length : Int)] ++ z) ++ enc rest := by
  rw [he, h, enc_cons]; simp
theorem enc_long {zss rest : List (List Int)} {z : List Int} {k m : Nat} {xs ys : List Int} (h : zss.drop k = z :: rest) (he : xs ++ enc zss = ys ++ enc (zss.drop k)) (hm : ys.length = m) (hl : 400 < m + 1 + z.length) : hashB (xs ++ enc zss) = false := by
  apply hashB_long
  rw [he, h, enc_cons]; simp; omega

theorem InI.parts {P : Nat} {w : World} {a : Option Addr} {n c : Nat} {z : List Int} (h : InI P w (.slice a n c) z) : z.length = n ∧ InB P w a z ∧ (a = none → c = 0) := by
  obtain ⟨_, a', c', h1, h2, h3⟩ := h
  simp only [Value.slice.injEq] at h1
  obtain ⟨rfl, h, rfl⟩ := h1
  exact ⟨h.symm, h2, h3.1⟩
theorem InI.cap {P : Nat} {w : World} {a : Option Addr} {n c : Nat} {z : List Int} (h : InI P w (.slice a n c) z) : n ≤ c := by
  obtain ⟨_, a', c', h1, h2, h3⟩ := h
  simp only [Value.slice.injEq] at h1
  obtain ⟨rfl, h, rfl⟩ := h1
  omega

set_option maxRecDepth 100000 in
set_option maxHeartbeats 3200000 in
theorem encodeParts_any (B : Nat) (va : Option Addr) (k0 vc : Nat) (xs : List Int) (hk0 : k0 ≤ 400) (pa : Option Addr) (n pc : Nat) (zss : List (List Int)) (hn : zss.length = n) (hl : n ≤ 1048576) (hr : ∀ z ∈ zss, z.length ≤ 1048576) (w : World) (hB : B ≤ w.heap.size)
    (hown : w.ownsRow B 3 1 (.slice va k0 vc) k0 (xs.map (Value.int .i64))) (hz : InS B w (.slice pa n pc) zss) :
    Calls Tryd.prog 60 #[.slice va k0 vc, .slice pa n pc] w (RecOut B w (recL (xs ++ enc zss)) (hashB (xs ++ enc zss))) := by
  obtain ⟨i0, hi, hz0, hz1, hz2⟩ := info_parts Tryd.info3
  have HN := Lib.hid hn
  have HR := Lib.hid hr
  have HO0 := Lib.hid hown
  have H := Lib.hid hz
  clear hn hr hown hz
  go_enter Tryd.func60, Tryd.ntmps60
  go_wp2
  go_loopw [0, 7, 10] (fun V _ K wr => ∃ (k m : Nat) (va : Option Addr) (vc : Nat) (ys : List Int), k ≤ n ∧ m ≤ 400 ∧ K = .int .i64 k ∧ V = .slice va m vc ∧ wr.ownsRow B 3 1 (.slice va m vc) m (ys.map (Value.int .i64)) ∧ Below B w wr ∧ xs ++ enc zss = ys ++ enc (zss.drop k)) (fun _ _ K _ => n - (intOf K).toNat)
  case atStart => exact ⟨0, k0, va, vc, xs, Nat.zero_le _, hk0, rfl, rfl, HO0.out, Below.refl _ _, rfl⟩
  case round =>
    obtain ⟨k, m, va, vc, ys, hk, hm, rfl, rfl, hown, hbel, he⟩ := hrel
    have hyl : ys.length = m := by have := hown.1; simpa using this
    have HO := Lib.hid hown
    have HB := Lib.hid hbel
    have hBr : B ≤ wr.heap.size := Nat.le_trans hB hbel.size
    by_cases hkn : k < n
    · obtain ⟨b, off, a, c, z, rfl, hb, hc, hin, hd⟩ := (H.out.belowP hbel).at (k := k) (by have := HN.out; omega)
      have hzl := HR.out z (List.mem_of_mem_drop (i := k) (by rw [hd]; simp))
      have HI := Lib.hid hin
      by_cases hq : 400 < m + 1 + z.length
      · have hqi : (400 : Int) < (m : Int) + 1 + (z.length : Int) := by omega
        have hf := enc_long hd he hyl hq
        have HF := Lib.hid hf
        clear hown hbel he hyl hin hd hf
        go_wp2
        go_ret2
        rw [HF.out, recL_no HF.out]
        exact recOut_nil _ _ _ HB.out
      · have hqi : (m : Int) + 1 + (z.length : Int) ≤ 400 := by omega
        have HE := Lib.hid (enc_step hd he)
        clear hown hbel he hyl hin hd
        go_wp2_with (first
          | (at_builtin; refine wpList_append_ints rfl _ _ 24 rfl B 3 i0 Tryd.underlying24 hi hz0 hz1 hz2 _ (m + 1) (ys ++ [(z.length : Int)]) rfl HO1.out a z.length c z rfl rfl (HI.out.belowP HB1.out).parts.2.1.ints (HI.out.parts.2.2) (by omega) (Nat.le_trans hBr HB1.out.size) ?_; intro v'' w2 hown'' hgrow2; obtain ⟨va'', vc'', rfl⟩ := own_shape hown''; have HO2 := Lib.hid hown''; have HB2 := Lib.hid (HB1.out.grown hgrow2 (Nat.le_trans hBr HB1.out.size) (fun q hq => (HO1.out.lt q hq).1)); clear hown'' hgrow2)
          | (at_builtin; refine wpList_append_ints rfl _ _ 24 rfl B 3 i0 Tryd.underlying24 hi hz0 hz1 hz2 _ m ys rfl (HO.out.alloc _) (some ⟨wr.heap.size, 0, none⟩) 1 1 [(z.length : Int)] rfl rfl (ints_spot wr _ rfl [(z.length : Int)] 3) (fun h => by cases h) (by omega) (Nat.le_trans hBr (ba wr _).size) ?_; intro v' w1 hown' hgrow; obtain ⟨va', vc', rfl⟩ := own_shape hown'; have HO1 := Lib.hid hown'; have HB1 := Lib.hid (((Below.refl B wr).alloc hBr _).grown hgrow (Nat.le_trans hBr (ba wr _).size) (fun q hq => (HO.out.lt q hq).1)); clear hown' hgrow))
        go_roundw
        case rel => exact ⟨k + 1, m + 1 + z.length, va'', vc'', ys ++ [(z.length : Int)] ++ z, by omega, by omega, by go_num, rfl, HO2.out, HB.out.trans HB2.out, HE.out⟩
        case measure => simp only [intOf]; omega
    · have HE := Lib.hid he
      have HY := Lib.hid hyl
      obtain rfl : k = n := by omega
      clear hown hbel he hyl
      have e1 : xs ++ enc zss = ys := by
        have := HE.out
        rw [List.drop_of_length_le (by have := HN.out; omega), enc_nil, List.append_nil] at this
        exact this
      have HE1 := Lib.hid e1
      clear e1
      cases hrec : hashB ys
      · have HRC := Lib.hid hrec
        clear hrec
        go_wp2_with fail
        refine (isRecord_any _ _ _ ys HY.out (by omega) _ (own_ints HO.out).1).mono ?_
        rw [HRC.out]
        rintro e w' ⟨rfl, rfl⟩
        go_wp2
        go_ret2
        rw [HE1.out, HRC.out, recL_no HRC.out]
        exact recOut_nil _ _ _ HB.out
      · have HRC := Lib.hid hrec
        clear hrec
        go_wp2_with fail
        refine (isRecord_any _ _ _ ys HY.out (by omega) _ (own_ints HO.out).1).mono ?_
        rw [HRC.out]
        rintro e w' ⟨rfl, rfl⟩
        go_wp2
        go_ret2
        rw [HE1.out, HRC.out, recL_yes HRC.out]
        exact ⟨va, m, vc, rfl, HO.out, HB.out⟩

end Go.Proofs.YtmiohdibbpckaaaDoor

/- EncodeProof and JoinRecords of the program and of the reference. -/
namespace Go.Proofs.YtmiohdibbpckaaaDoor
open Go.RowKit

/-- A list that is answered, with a bool. -/
def AnsI (w : World) (zs : List Int) (ok : Bool) (e : Ending) (w' : World) : Prop := ∃ v, e = .returned (.tuple #[v, .bool ok]) ∧ OwI w.heap.size w'.heap.size w' v zs ∧ Below w.heap.size w w'
theorem ansI_nil {w w' : World} (h : Below w.heap.size w w') : AnsI w [] false (.returned (.tuple #[.slice none 0 0, .bool false])) w' :=
  ⟨_, rfl, owI_nil _ _ h.size, h⟩
theorem ansI_of {w w1 w' : World} {B : Nat} {zs : List Int} {ok : Bool} {e : Ending} (h : RecOut B w1 zs ok e w') (hb : Below w.heap.size w w1) (hB : w.heap.size ≤ B) : AnsI w zs ok e w' := by
  obtain ⟨va, k, vc, rfl, ho, hb'⟩ := h
  have hbb := hb.trans (hb'.mono hB)
  exact ⟨_, rfl, owI_mk (own_rebase ho (fun g hg => Nat.le_trans hB (ho.lt g hg).1)) hbb.size, hbb⟩

def encP (p : PrD) : List Int := enc [p.c, p.h, p.r]
theorem inS_three {w : World} {P : Nat} {a b c : Value} {p : PrD} (h1 : InI P w a p.c) (h2 : InI P w b p.h) (h3 : InI P w c p.r) (t : TypeId) :
    InS (w.heap.size + 1) (w.alloc (.cells #[a, b, c] t)) (.slice (some ⟨w.heap.size, 0, none⟩) 3 3) [p.c, p.h, p.r] := by
  have hb := ba w (.cells #[a, b, c] t)
  have hs : (w.alloc (.cells #[a, b, c] t)).heap.size = w.heap.size + 1 := by simp
  have hP := h1.1
  refine ⟨by omega, some ⟨w.heap.size, 0, none⟩, 3, rfl, (fun h => by cases h), .inr ⟨w.heap.size, 0, rfl, by omega, by omega, fun i z hz => ?_⟩⟩
  have k1 := (h1.below hb).wide (P' := w.heap.size + 1) (by omega) (by omega)
  have k2 := (h2.below hb).wide (P' := w.heap.size + 1) (by omega) (by omega)
  have k3 := (h3.below hb).wide (P' := w.heap.size + 1) (by omega) (by omega)
  match i, hz with
  | 0, hz => simp at hz; subst hz; exact ⟨a, by rw [World.cell?_alloc_at _ _ _ _ rfl]; rfl, k1⟩
  | 1, hz => simp at hz; subst hz; exact ⟨b, by rw [World.cell?_alloc_at _ _ _ _ rfl]; rfl, k2⟩
  | 2, hz => simp at hz; subst hz; exact ⟨c, by rw [World.cell?_alloc_at _ _ _ _ rfl]; rfl, k3⟩
  | i + 3, hz => simp at hz

set_option maxRecDepth 100000 in
set_option maxHeartbeats 1600000 in
theorem encodeProof_any {P : Nat} {w : World} {v : Value} {p : PrD} (h : InP P w v p) (hl : p.n ≤ 1048576) :
    Calls Tryd.prog 18 #[v] w (AnsI w (recL (encP p)) (hashB (encP p))) := by
  obtain ⟨a, b, c, rfl, h1, h2, h3⟩ := h
  have hr : ∀ z ∈ [p.c, p.h, p.r], z.length ≤ 1048576 := by
    unfold PrD.n at hl
    intro z hz
    simp only [List.mem_cons, List.not_mem_nil, or_false] at hz
    rcases hz with rfl | rfl | rfl <;> omega
  have hal := ba w (.cells #[a, b, c] 40)
  have hs1 : (w.alloc (.cells #[a, b, c] 40)).heap.size = w.heap.size + 1 := by simp
  have hS := inS_three (h1.below hal) (h2.below hal) (h3.below hal) 24
  rw [hs1] at hS
  have hX := b3_new w a b c 40
  obtain ⟨a1, a2, rfl⟩ := h1.shape
  obtain ⟨b1, b2, rfl⟩ := h2.shape
  obtain ⟨c1, c2, rfl⟩ := h3.shape
  have HS := Lib.hid hS
  have HR := Lib.hid hr
  have HA := Lib.hid (bt hal (ba _ (.cells #[.slice a1 p.c.length a2, .slice b1 p.h.length b2, .slice c1 p.r.length c2] 24)))
  obtain ⟨x0, x1, x2, _⟩ := hX
  clear hal hS hr hs1 h1 h2 h3
  go_enter Tryd.func18, Tryd.ntmps18
  go_wp2_with fail
  refine (encodeParts_any (w.heap.size + 2) none 0 0 [] (by decide) _ 3 3 [p.c, p.h, p.r] rfl (by decide) HR.out _ (by simp) (World.ownsRow_nil _ _ _ _) HS.out).mono ?_
  rintro e w1 ho
  have HO := Lib.hid (ansI_of ho HA.out (Nat.le_add_right _ 2))
  obtain ⟨va, k, vc, rfl, _⟩ := ho
  go_wp2
  go_ret2
  exact HO.out

theorem joinRecords_any {P : Nat} {w : World} {v : Value} {zss : List (List Int)} (h : InS P w v zss) (hl : zss.length ≤ 1048576) (hr : nS zss ≤ 1048576) :
    Calls Tryd.prog 23 #[v] w (AnsI w (recL ((zss.length : Int) :: enc zss)) (hashB ((zss.length : Int) :: enc zss))) := by
  obtain ⟨ad, cap, rfl⟩ := h.shape
  have hrr : ∀ z ∈ zss, z.length ≤ 1048576 := fun z hz => Nat.le_trans (nS_le hz) hr
  have hP := h.1
  generalize hn : zss.length = n at h
  have hnn : n ≤ 1048576 := by omega
  have hnn0 : 0 ≤ (n : Int) := by omega
  have hal := ba w (.cells #[.int .i64 (n : Int)] 3)
  have HS := Lib.hid (show InS w.heap.size (w.alloc (.cells #[.int .i64 (n : Int)] 3)) (.slice ad n cap) zss from by
    have h2 := h.below hal
    obtain ⟨q0, ad', cap', q1, q2, q3⟩ := h2
    refine ⟨by simp, ad', cap', q1, q2, ?_⟩
    rcases q3 with q3 | ⟨b, off, r1, r2, r3, r4⟩
    · exact .inl q3
    · refine .inr ⟨b, off, r1, by omega, r3, fun i z hz => ?_⟩
      obtain ⟨u, hu, hi⟩ := r4 i z hz
      exact ⟨u, hu, hi.wide hP (by simp)⟩)
  have HO := Lib.hid (own_lit w [(n : Int)] (by simp) 3)
  have HA := Lib.hid hal
  have HR := Lib.hid hrr
  have HN := Lib.hid hn
  clear hal hrr hn hl hr h
  go_enter Tryd.func23, Tryd.ntmps23
  go_wp2_with fail
  refine (encodeParts_any w.heap.size _ 1 1 [(n : Int)] (by decide) _ n cap zss HN.out hnn HR.out _ (by simp) HO.out HS.out).mono ?_
  rintro e w1 ho
  have HOO := Lib.hid (ansI_of ho HA.out (Nat.le_refl _))
  obtain ⟨va, k, vc, rfl, _⟩ := ho
  go_wp2
  go_ret2
  exact HOO.out

/-! ### The reference -/
set_option maxRecDepth 100000 in
set_option maxHeartbeats 3200000 in
theorem cJoin_any {P : Nat} {w : World} {v : Value} {zss : List (List Int)} (h : InS P w v zss) (hl : zss.length ≤ 1048576) (hr : nS zss ≤ 1048576) :
    Calls Tryd.prog 66 #[v] w (PutOut w.heap.size w ((zss.length : Int) :: enc zss)) := by
  obtain ⟨ad, cap, rfl⟩ := h.shape
  have hP := h.1
  have HR := Lib.hid hr
  generalize hn : zss.length = n at h
  have hnn : n ≤ 1048576 := by omega
  have hnn0 : 0 ≤ (n : Int) := by omega
  have HO := Lib.hid (own_lit w [(n : Int)] (by simp) 3)
  have HA := Lib.hid (ba w (.cells #[.int .i64 (n : Int)] 3))
  have H := Lib.hid h
  have HN := Lib.hid hn
  clear hn hl hr h
  go_enter Tryd.func66, Tryd.ntmps66
  go_wp2
  go_loopw [3, 5, 11] (fun V _ K wr => ∃ (k m : Nat) (va : Option Addr) (vc : Nat) (ys : List Int), k ≤ n ∧ m = 1 + k + nS (zss.take k) ∧ K = .int .i64 k ∧ V = .slice va m vc ∧ wr.ownsRow w.heap.size 3 1 (.slice va m vc) m (ys.map (Value.int .i64)) ∧ Below w.heap.size w wr ∧ [(n : Int)] ++ enc zss = ys ++ enc (zss.drop k)) (fun _ _ K _ => n - (intOf K).toNat)
  case atStart => exact ⟨0, 1, _, _, [(n : Int)], Nat.zero_le _, by simp [nS], rfl, rfl, HO.out, HA.out, rfl⟩
  case round =>
    obtain ⟨k, m, va, vc, ys, hk, hm, rfl, rfl, hown, hbel, he⟩ := hrel
    have hyl : ys.length = m := by have := hown.1; simpa using this
    have hmb : m ≤ 10000000 := by
      have := nS_drop zss k
      have := HR.out
      omega
    have HOr := Lib.hid hown
    have HB := Lib.hid hbel
    have HM := Lib.hid hm
    by_cases hkn : k < n
    · obtain ⟨b, off, a, c, z, rfl, hb, hc, hin, hd⟩ := (H.out.below hbel).at (k := k) (by have := HN.out; omega)
      have hzl : z.length ≤ 1048576 := Nat.le_trans (nS_le (List.mem_of_mem_drop (i := k) (by rw [hd]; simp))) HR.out
      have HI := Lib.hid hin
      have HE := Lib.hid (enc_step hd he)
      have HT := Lib.hid (mkS_take zss 0 hd).2.1
      clear hown hbel he hyl hin hd hm
      go_wp2_with fail
      refine (l4Put_any w.heap.size va m vc ys (by omega) a z.length c z rfl (by omega) HI.out.parts.2.2 _ HB.out.size HOr.out (HI.out.parts.2.1.mono hP)).mono ?_
      rintro e w2 ⟨va2, k2, vc2, rfl, ho2, hb2⟩
      have hk2 : k2 = m + 1 + z.length := by
        have h1 := ho2.1
        have h2 := HOr.out.1
        simp at h1 h2
        omega
      have HO2 := Lib.hid ho2
      have HB2 := Lib.hid (HB.out.trans hb2)
      have HK2 := Lib.hid hk2
      clear ho2 hb2 hk2 hc
      go_wp2
      go_roundw
      case rel =>
        refine ⟨k + 1, k2, va2, vc2, ys ++ (z.length : Int) :: z, by omega, ?_, by go_num, rfl, HO2.out, HB2.out, ?_⟩
        · rw [HT.out]
          have := HK2.out
          have := HM.out
          omega
        · have := HE.out
          simpa using this
      case measure => simp only [intOf]; omega
    · have HE := Lib.hid he
      obtain rfl : k = n := by omega
      clear hown hbel he hyl hm
      go_wp2
      go_ret
      have e1 := HE.out
      rw [List.drop_of_length_le (by have := HN.out; omega), enc_nil, List.append_nil] at e1
      exact ⟨va, m, vc, rfl, by
        rw [show (k : Int) :: enc zss = ys from e1]
        exact HOr.out, HB.out⟩

theorem sJoinRecords_any {P : Nat} {w : World} {v : Value} {zss : List (List Int)} (h : InS P w v zss) (hl : zss.length ≤ 1048576) (hr : nS zss ≤ 1048576) :
    Calls Tryd.prog 24 #[v] w (AnsI w (recL ((zss.length : Int) :: enc zss)) (hashB ((zss.length : Int) :: enc zss))) := by
  obtain ⟨ad, cap, rfl⟩ := h.shape
  have H := Lib.hid h
  clear h
  have hel : ((zss.length : Int) :: enc zss).length ≤ 10000000 := by
    simp only [List.length_cons, enc_length]; omega
  generalize he : (zss.length : Int) :: enc zss = es at hel
  have HE := Lib.hid he
  cases hrec : hashB es
  · have HRC := Lib.hid hrec
    have e2 := recL_no hrec
    rw [e2]
    clear he hrec e2
    go_enter Tryd.func24, Tryd.ntmps24
    go_wp2_with fail
    refine (cJoin_any H.out hl hr).mono ?_
    rw [HE.out]
    rintro e w1 ⟨va, k, vc, rfl, ho, hb⟩
    have HO := Lib.hid ho
    have HB := Lib.hid hb
    clear ho hb
    go_wp2_with fail
    refine (l4If_no va k vc es (own_ints HO.out).2.1 (by have := (own_ints HO.out).2.1; omega) HRC.out _ (own_ints HO.out).1).mono ?_
    rintro e w' ⟨rfl, rfl⟩
    go_wp2
    go_ret2
    exact ansI_nil HB.out
  · have HRC := Lib.hid hrec
    have e2 := recL_yes hrec
    rw [e2]
    clear he hrec e2
    go_enter Tryd.func24, Tryd.ntmps24
    go_wp2_with fail
    refine (cJoin_any H.out hl hr).mono ?_
    rw [HE.out]
    rintro e w1 ⟨va, k, vc, rfl, ho, hb⟩
    have HO := Lib.hid ho
    have HB := Lib.hid hb
    clear ho hb
    go_wp2_with fail
    refine (l4If_yes va k vc es (own_ints HO.out).2.1 (by have := (own_ints HO.out).2.1; omega) HRC.out _ (own_ints HO.out).1).mono ?_
    rintro e w' ⟨rfl, rfl⟩
    go_wp2
    go_ret2
    exact ⟨_, rfl, owI_mk HO.out HB.out.size, HB.out⟩

theorem encP_eq (p : PrD) : encP p = (([] ++ (p.c.length : Int) :: p.c) ++ (p.h.length : Int) :: p.h) ++ (p.r.length : Int) :: p.r := by
  unfold encP; rw [enc_cons, enc_cons, enc_cons, enc_nil]; simp
theorem encP_length (p : PrD) : (encP p).length = 3 + p.n := by
  unfold encP PrD.n; rw [enc_length]; simp [nS]; omega

set_option maxRecDepth 100000 in
set_option maxHeartbeats 3200000 in
theorem cProof_any {P : Nat} {w : World} {v : Value} {p : PrD} (h : InP P w v p) (hl : p.n ≤ 1048576) :
    Calls Tryd.prog 62 #[v] w (PutOut w.heap.size w (encP p)) := by
  obtain ⟨a, b, c, rfl, h1, h2, h3⟩ := h
  obtain ⟨hl1, hl2, hl3⟩ : p.c.length ≤ 1048576 ∧ p.h.length ≤ 1048576 ∧ p.r.length ≤ 1048576 := by unfold PrD.n at hl; omega
  rw [encP_eq]
  have hP := h1.1
  have hal := ba w (.cells #[a, b, c] 40)
  have hs1 : (w.alloc (.cells #[a, b, c] 40)).heap.size = w.heap.size + 1 := by simp
  have hX := b3_new w a b c 40
  have hal2 := ba (w.alloc (.cells #[a, b, c] 40)) (.cells #[] 3)
  have hX2 := hX.below hal2
  have hs2 : ((w.alloc (.cells #[a, b, c] 40)).alloc (.cells #[] 3)).heap.size = w.heap.size + 2 := by simp
  have hO := own_lit (w.alloc (.cells #[a, b, c] 40)) [] (by simp) 3
  rw [hs1] at hO
  have J1 := Lib.hid ((((h1.below hal).below hal2).wide (P' := w.heap.size + 1) (by omega) (by omega)).belowP (Below.refl _ _).drew)
  have J2 := Lib.hid ((((h2.below hal).below hal2).wide (P' := w.heap.size + 1) (by omega) (by omega)).belowP (Below.refl _ _).drew)
  have J3 := Lib.hid ((((h3.below hal).below hal2).wide (P' := w.heap.size + 1) (by omega) (by omega)).belowP (Below.refl _ _).drew)
  have HB0 := Lib.hid ((bt hal hal2).drew)
  have HO := Lib.hid (show World.ownsRow ((w.alloc (.cells #[a, b, c] 40)).alloc (.cells #[] 3)).drew (w.heap.size + 1) 3 1 (.slice (some ⟨w.heap.size + 1, 0, none⟩) 0 0) 0 (([] : List Int).map (Value.int .i64)) from own_below hO ((Below.refl _ _).drew))
  have HS := Lib.hid hs2
  obtain ⟨a1, a2, rfl⟩ := h1.shape
  obtain ⟨b1, b2, rfl⟩ := h2.shape
  obtain ⟨c1, c2, rfl⟩ := h3.shape
  have HP1 := Lib.hid J1.out.parts.2.1
  have HQ1 := Lib.hid J1.out.parts.2.2
  have HP2 := Lib.hid J2.out.parts.2.1
  have HQ2 := Lib.hid J2.out.parts.2.2
  have HP3 := Lib.hid J3.out.parts.2.1
  have HQ3 := Lib.hid J3.out.parts.2.2
  have HZ0 := Lib.hid J1.out.1
  have HX3 := Lib.hid (hX2.below (Below.refl _ _).drew)
  have HX := Lib.hid hX
  have HX2 := Lib.hid hX2
  obtain ⟨x0, x1, x2, _⟩ := hX
  obtain ⟨y0, y1, y2, _⟩ := hX2
  clear hal hal2 hs1 hs2 hO h1 h2 h3
  go_enter Tryd.func62, Tryd.ntmps62
  go_wp2_with fail
  go_region_held3 (fun w' => w'.cell? ⟨w.heap.size, 0, none⟩ = some (.slice a1 p.c.length a2) ∧ w'.cell? ⟨w.heap.size, 1, none⟩ = some (.slice b1 p.h.length b2) ∧ w'.cell? ⟨w.heap.size, 2, none⟩ = some (.slice c1 p.r.length c2)) (first | with_reducible exact ⟨s0, s1, s2⟩ | with_reducible exact ⟨t0, t1, t2⟩ | with_reducible exact ⟨u0, u1, u2⟩ | exact ⟨y0, y1, y2⟩ | exact ⟨x0, x1, x2⟩) ((first
    | (go_at_call 95; (with_reducible refine (l4Put_any (w.heap.size + 1) vb kb vcb _ (by have := HKb.out; simp at this; omega) c1 p.r.length c2 p.r rfl (by omega) HQ3.out _ (by with_reducible exact HZb.out) HOb.out (by with_reducible exact HP3b.out)).mono ?_); rintro e wc ⟨vc, kc, vcc, rfl, hoc, hbc⟩; have HOc := Lib.hid hoc; have HBc := Lib.hid (HBb.out.trans hbc); obtain ⟨s0, s1, s2, _⟩ := HXb.out.belowB hbc (Nat.lt_succ_self _); clear hoc hbc)
    | (go_at_call 95; (with_reducible refine (l4Put_any (w.heap.size + 1) va ka vca _ (by have := HKa.out; simp at this; omega) b1 p.h.length b2 p.h rfl (by omega) HQ2.out _ (by with_reducible exact HZa.out) HOa.out (by with_reducible exact HP2a.out)).mono ?_); rintro e wb ⟨vb, kb, vcb, rfl, hob, hbb⟩; have HKb := Lib.hid (own_ints hob).2.1; have HOb := Lib.hid hob; have HXb := Lib.hid (HXa.out.belowB hbb (Nat.lt_succ_self _)); have HBb := Lib.hid (HBa.out.trans hbb); have HP3b := Lib.hid (HP3a.out.below hbb); have HZb := Lib.hid (Nat.le_trans HZa.out hbb.size); obtain ⟨t0, t1, t2, _⟩ := HXb.out; clear hob hbb)
    | (go_at_call 95; (with_reducible refine (l4Put_any (w.heap.size + 1) _ 0 _ [] (by decide) a1 p.c.length a2 p.c rfl (by omega) HQ1.out _ (by with_reducible exact HZ0.out) HO.out HP1.out).mono ?_); rintro e wa ⟨va, ka, vca, rfl, hoa, hba⟩; have HKa := Lib.hid (own_ints hoa).2.1; have HOa := Lib.hid hoa; have HXa := Lib.hid (HX3.out.belowB hba (Nat.lt_succ_self _)); have HBa := Lib.hid hba; have HP2a := Lib.hid (HP2.out.below hba); have HP3a := Lib.hid (HP3.out.below hba); have HZa := Lib.hid (Nat.le_trans HZ0.out hba.size); obtain ⟨u0, u1, u2, _⟩ := HXa.out; clear hoa hba)))
  all_goals (
    go_wp2
    go_ret
    exact ⟨vc, kc, vcc, rfl, own_rebase HOc.out (fun g hg => Nat.le_trans (Nat.le_succ _) (HOc.out.lt g hg).1), HB0.out.trans (HBc.out.mono (Nat.le_succ _))⟩)

theorem sEncodeProof_any {P : Nat} {w : World} {v : Value} {p : PrD} (h : InP P w v p) (hl : p.n ≤ 1048576) :
    Calls Tryd.prog 19 #[v] w (AnsI w (recL (encP p)) (hashB (encP p))) := by
  have hel : (encP p).length ≤ 10000000 := by rw [encP_length]; omega
  generalize he : encP p = es at hel
  have HE := Lib.hid he
  obtain ⟨a, b, c, rfl, h1, h2, h3⟩ := h
  have hal := ba w (.cells #[a, b, c] 40)
  have H := Lib.hid (show InP P (w.alloc (.cells #[a, b, c] 40)) (.agg #[a, b, c]) p from ⟨a, b, c, rfl, h1.below hal, h2.below hal, h3.below hal⟩)
  have HA := Lib.hid hal
  have hX := b3_new w a b c 40
  obtain ⟨a1, a2, rfl⟩ := h1.shape
  obtain ⟨b1, b2, rfl⟩ := h2.shape
  obtain ⟨c1, c2, rfl⟩ := h3.shape
  obtain ⟨x0, x1, x2, _⟩ := hX
  clear h1 h2 h3 hal
  cases hrec : hashB es
  · have HRC := Lib.hid hrec
    have e2 := recL_no hrec
    rw [e2]
    clear he hrec e2
    go_enter Tryd.func19, Tryd.ntmps19
    go_wp2_with fail
    refine (cProof_any H.out hl).mono ?_
    rw [HE.out]
    rintro e w1 ⟨va, k, vc, rfl, ho, hb⟩
    have HO := Lib.hid ho
    have HB := Lib.hid (bt HA.out hb)
    clear ho hb
    go_wp2_with fail
    refine (l4If_no va k vc es (own_ints HO.out).2.1 (by have := (own_ints HO.out).2.1; omega) HRC.out _ (own_ints HO.out).1).mono ?_
    rintro e w' ⟨rfl, rfl⟩
    go_wp2
    go_ret2
    exact ansI_nil HB.out
  · have HRC := Lib.hid hrec
    have e2 := recL_yes hrec
    rw [e2]
    clear he hrec e2
    go_enter Tryd.func19, Tryd.ntmps19
    go_wp2_with fail
    refine (cProof_any H.out hl).mono ?_
    rw [HE.out]
    rintro e w1 ⟨va, k, vc, rfl, ho, hb⟩
    have HO := Lib.hid ho
    have HB := Lib.hid (bt HA.out hb)
    clear ho hb
    go_wp2_with fail
    refine (l4If_yes va k vc es (own_ints HO.out).2.1 (by have := (own_ints HO.out).2.1; omega) HRC.out _ (own_ints HO.out).1).mono ?_
    rintro e w' ⟨rfl, rfl⟩
    go_wp2
    go_ret2
    exact ⟨_, rfl, owI_mk (own_rebase HO.out (fun g hg => Nat.le_trans HA.out.size (HO.out.lt g hg).1)) HB.out.size, HB.out⟩




end Go.Proofs.YtmiohdibbpckaaaDoor

/- EncodeText and EncodeCiphers of the program and of the reference. -/
namespace Go.Proofs.YtmiohdibbpckaaaDoor
open Go.RowKit

def txt (s : ByteArray) : List Int := (s.size : Int) :: lbl s
theorem txt_length (s : ByteArray) : (txt s).length = 1 + s.size := by unfold txt; simp [lbl_length]; omega
theorem txt_take {s : ByteArray} {k : Nat} (h : k < s.size) : (lbl s).take (k + 1) = (lbl s).take k ++ [(s[k].toNat : Int)] := by
  have hl : k < (lbl s).length := by rw [lbl_length]; exact h
  have e : (lbl s)[k] = (s[k].toNat : Int) := by
    simp only [lbl, List.getElem_map]
    rfl
  rw [List.take_succ_eq_append_getElem hl, e]
theorem txt_rec (s : ByteArray) (h : s.size < 400) : hashB (txt s) = true := by
  rw [hashB_true, txt_length, digsB_true]
  refine ⟨by omega, fun z hz => ?_⟩
  unfold txt at hz
  rcases List.mem_cons.1 hz with rfl | hz
  · omega
  · have := lbl_mem hz; omega
theorem txt_long (s : ByteArray) (h : 400 ≤ s.size) : hashB (txt s) = false := hashB_long (by rw [txt_length]; omega)

set_option maxRecDepth 100000 in
set_option maxHeartbeats 1600000 in
theorem encodeText_any (s : ByteArray) (hs : s.size ≤ 1048576) (w : World) :
    Calls Tryd.prog 34 #[.string s] w (AnsI w (recL (txt s)) (hashB (txt s))) := by
  by_cases h400 : 400 ≤ s.size
  · have hsi : (400 : Int) ≤ (s.size : Int) := by omega
    rw [txt_long s h400, recL_no (txt_long s h400)]
    clear h400
    go_enter Tryd.func34, Tryd.ntmps34
    go_wp2
    go_ret2
    exact ansI_nil (Below.refl _ _)
  · have hsi : (s.size : Int) < 400 := by omega
    rw [txt_rec s (by omega), recL_yes (txt_rec s (by omega))]
    obtain ⟨i0, hi, hz0, hz1, hz2⟩ := info_parts Tryd.info3
    have HL := Lib.hid (lbl_length s)
    have HO0 := Lib.hid (own_lit w [(s.size : Int)] (by simp) 3)
    have HA := Lib.hid (ba w (.cells #[.int .i64 (s.size : Int)] 3))
    clear h400
    go_enter Tryd.func34, Tryd.ntmps34
    go_wp2
    go_loopw [4, 5, 14] (fun V _ K wr => ∃ (k : Nat) (va : Option Addr) (vc : Nat), k ≤ s.size ∧ K = .int .i64 k ∧ V = .slice va (1 + k) vc ∧ wr.ownsRow w.heap.size 3 1 (.slice va (1 + k) vc) (1 + k) (((s.size : Int) :: (lbl s).take k).map (Value.int .i64)) ∧ Below w.heap.size w wr) (fun _ _ K _ => s.size - (intOf K).toNat)
    case atStart => exact ⟨0, some ⟨w.heap.size, 0, none⟩, 1, Nat.zero_le _, rfl, rfl, HO0.out, HA.out⟩
    case round =>
      obtain ⟨k, va, vc, hk, rfl, rfl, hown, hbel⟩ := hrel
      have HO := Lib.hid hown
      have HB := Lib.hid hbel
      clear hown hbel
      by_cases hks : k < s.size
      · have hki : (k : Int) < (s.size : Int) := by omega
        have hb255 : (s[k].toNat : Int) ≤ 255 := by have := s[k].toNat_lt; omega
        have hb0 : 0 ≤ (s[k].toNat : Int) := by omega
        have HT := Lib.hid (txt_take hks)
        go_wp2_with (at_builtin; refine wpList_append_ints rfl _ _ 24 rfl w.heap.size 3 i0 Tryd.underlying24 hi hz0 hz1 hz2 _ (1 + k) ((s.size : Int) :: (lbl s).take k) rfl (HO.out.alloc _) (some ⟨wr.heap.size, 0, none⟩) 1 1 [(s[k].toNat : Int)] rfl rfl (ints_spot wr _ rfl [(s[k].toNat : Int)] 3) (fun h => by cases h) (by omega) (Nat.le_trans HB.out.size (ba wr _).size) ?_; intro v' w1 hown' hgrow; obtain ⟨va', vc', rfl⟩ := own_shape hown'; have HO1 := Lib.hid hown'; have HB1 := Lib.hid ((HB.out.trans ((ba wr _).mono HB.out.size)).grown hgrow (Nat.le_trans HB.out.size (ba wr _).size) (fun q hq => (HO.out.lt q hq).1)); clear hown' hgrow)
        go_roundw
        case rel =>
          exact ⟨k + 1, va', vc', by omega, by go_num, by rw [show 1 + (k + 1) = 1 + k + 1 by omega], by rw [show 1 + (k + 1) = 1 + k + 1 by omega, HT.out]; simpa using HO1.out, HB1.out⟩
        case measure => simp only [intOf]; omega
      · have hki : (s.size : Int) ≤ (k : Int) := by omega
        obtain rfl : k = s.size := by omega
        go_wp2
        go_ret2
        refine ⟨_, rfl, ?_, HB.out⟩
        have h := HO.out
        rw [List.take_of_length_le (by rw [HL.out]; omega)] at h
        exact owI_mk h HB.out.size

set_option maxRecDepth 100000 in
set_option maxHeartbeats 1600000 in
theorem cText_any (s : ByteArray) (hs : s.size ≤ 1048576) (w : World) :
    Calls Tryd.prog 75 #[.string s] w (PutOut w.heap.size w (txt s)) := by
  have hsi : (s.size : Int) ≤ 1048576 := by omega
  obtain ⟨i0, hi, hz0, hz1, hz2⟩ := info_parts Tryd.info3
  have HL := Lib.hid (lbl_length s)
  have HO0 := Lib.hid (own_lit w [(s.size : Int)] (by simp) 3)
  have HA := Lib.hid (ba w (.cells #[.int .i64 (s.size : Int)] 3))
  go_enter Tryd.func75, Tryd.ntmps75
  go_wp2
  go_loopw [3, 4] (fun V K wr => ∃ (k : Nat) (va : Option Addr) (vc : Nat), k ≤ s.size ∧ K = .int .i64 k ∧ V = .slice va (1 + k) vc ∧ wr.ownsRow w.heap.size 3 1 (.slice va (1 + k) vc) (1 + k) (((s.size : Int) :: (lbl s).take k).map (Value.int .i64)) ∧ Below w.heap.size w wr) (fun _ K _ => s.size - (intOf K).toNat)
  case atStart => exact ⟨0, some ⟨w.heap.size, 0, none⟩, 1, Nat.zero_le _, rfl, rfl, HO0.out, HA.out⟩
  case round =>
    obtain ⟨k, va, vc, hk, rfl, rfl, hown, hbel⟩ := hrel
    have HO := Lib.hid hown
    have HB := Lib.hid hbel
    clear hown hbel
    by_cases hks : k < s.size
    · have hki : (k : Int) < (s.size : Int) := by omega
      have hb255 : (s[k].toNat : Int) ≤ 255 := by have := s[k].toNat_lt; omega
      have hb0 : 0 ≤ (s[k].toNat : Int) := by omega
      have HT := Lib.hid (txt_take hks)
      go_wp2_with (at_builtin; refine wpList_append_ints rfl _ _ 24 rfl w.heap.size 3 i0 Tryd.underlying24 hi hz0 hz1 hz2 _ (1 + k) ((s.size : Int) :: (lbl s).take k) rfl (HO.out.alloc _) (some ⟨wr.heap.size, 0, none⟩) 1 1 [(s[k].toNat : Int)] rfl rfl (ints_spot wr _ rfl [(s[k].toNat : Int)] 3) (fun h => by cases h) (by omega) (Nat.le_trans HB.out.size (ba wr _).size) ?_; intro v' w1 hown' hgrow; obtain ⟨va', vc', rfl⟩ := own_shape hown'; have HO1 := Lib.hid hown'; have HB1 := Lib.hid ((HB.out.trans ((ba wr _).mono HB.out.size)).grown hgrow (Nat.le_trans HB.out.size (ba wr _).size) (fun q hq => (HO.out.lt q hq).1)); clear hown' hgrow)
      go_roundw
      case rel =>
        exact ⟨k + 1, va', vc', by omega, by go_num, by rw [show 1 + (k + 1) = 1 + k + 1 by omega], by rw [show 1 + (k + 1) = 1 + k + 1 by omega, HT.out]; simpa using HO1.out, HB1.out⟩
      case measure => simp only [intOf]; omega
    · have hki : (s.size : Int) ≤ (k : Int) := by omega
      obtain rfl : k = s.size := by omega
      go_wp2
      go_ret
      have h := HO.out
      rw [List.take_of_length_le (by rw [HL.out]; omega)] at h
      exact ⟨va, _, vc, rfl, h, HB.out⟩

theorem sEncodeText_any (s : ByteArray) (hs : s.size ≤ 1048576) (w : World) :
    Calls Tryd.prog 36 #[.string s] w (AnsI w (recL (txt s)) (hashB (txt s))) := by
  have hel : (txt s).length ≤ 10000000 := by rw [txt_length]; omega
  generalize he : txt s = es at hel
  have HE := Lib.hid he
  cases hrec : hashB es
  · have HRC := Lib.hid hrec
    have e2 := recL_no hrec
    rw [e2]
    clear he hrec e2
    go_enter Tryd.func36, Tryd.ntmps36
    go_wp2_with fail
    refine (cText_any s hs _).mono ?_
    rw [HE.out]
    rintro e w1 ⟨va, k, vc, rfl, ho, hb⟩
    have HO := Lib.hid ho
    have HB := Lib.hid hb
    clear ho hb
    go_wp2_with fail
    refine (l4If_no va k vc es (own_ints HO.out).2.1 (by have := (own_ints HO.out).2.1; omega) HRC.out _ (own_ints HO.out).1).mono ?_
    rintro e w' ⟨rfl, rfl⟩
    go_wp2
    go_ret2
    exact ansI_nil HB.out
  · have HRC := Lib.hid hrec
    have e2 := recL_yes hrec
    rw [e2]
    clear he hrec e2
    go_enter Tryd.func36, Tryd.ntmps36
    go_wp2_with fail
    refine (cText_any s hs _).mono ?_
    rw [HE.out]
    rintro e w1 ⟨va, k, vc, rfl, ho, hb⟩
    have HO := Lib.hid ho
    have HB := Lib.hid hb
    clear ho hb
    go_wp2_with fail
    refine (l4If_yes va k vc es (own_ints HO.out).2.1 (by have := (own_ints HO.out).2.1; omega) HRC.out _ (own_ints HO.out).1).mono ?_
    rintro e w' ⟨rfl, rfl⟩
    go_wp2
    go_ret2
    exact ⟨_, rfl, owI_mk HO.out HB.out.size, HB.out⟩

/-! ### Ciphertexts -/
def encC (zs : List Int) : List Int := ((zs.length / 2 : Nat) : Int) :: zs
theorem InC.of {P : Nat} {w : World} {ad : Option Addr} {n cap : Nat} {zs : List Int} (h : InC P w (.slice ad n cap) zs) : zs.length = n * 2 ∧ InB P w ad zs ∧ (ad = none → cap = 0) := by
  obtain ⟨_, a', n', c', h1, h2, h3, h4⟩ := h
  simp only [Value.slice.injEq] at h1
  obtain ⟨rfl, rfl, rfl⟩ := h1
  exact ⟨h2, h3, h4⟩
theorem InC.shape {P : Nat} {w : World} {v : Value} {zs : List Int} (h : InC P w v zs) : ∃ ad n cap, v = .slice ad n cap ∧ zs.length = n * 2 := by
  obtain ⟨_, ad, n, cap, h, hn, _⟩ := h
  exact ⟨ad, n, cap, h, hn⟩
theorem take_two {zs : List Int} {k : Nat} {p q : Int} (h : zs.drop (k * 2) = p :: q :: zs.drop ((k + 1) * 2)) : zs.take ((k + 1) * 2) = zs.take (k * 2) ++ [p, q] := by
  have h1 := List.take_append_drop (k * 2) zs
  have hk : k * 2 ≤ zs.length := by
    rcases Nat.le_total (k * 2) zs.length with h' | h'
    · exact h'
    · rw [List.drop_of_length_le h'] at h; cases h
  conv => lhs; rw [← h1, h]
  rw [List.take_append]
  rw [List.take_of_length_le (by simp; omega)]
  congr 1
  rw [List.length_take, Nat.min_eq_left hk, show (k + 1) * 2 - k * 2 = 2 by omega]
  rfl

set_option maxRecDepth 100000 in
set_option maxHeartbeats 3200000 in
theorem encodeCiphers_any {P : Nat} {w : World} {v : Value} {zs : List Int} (h : InC P w v zs) (hl : zs.length ≤ 4194304) :
    Calls Tryd.prog 32 #[v] w (AnsI w (recL (encC zs)) (hashB (encC zs))) := by
  obtain ⟨ad, n, cap, rfl, hn⟩ := h.shape
  have en : encC zs = [(n : Int)] ++ zs := by unfold encC; rw [show zs.length / 2 = n by omega]; rfl
  rw [en]
  clear en
  have hnn : n ≤ 2097152 := by omega
  have hnn0 : 0 ≤ (n : Int) := by omega
  by_cases h400 : 400 < n
  · have hni : (400 : Int) < (n : Int) := by omega
    have e1 : hashB ([(n : Int)] ++ zs) = false := hashB_long (by simp; omega)
    rw [e1, recL_no e1]
    clear e1 h hn hl
    go_enter Tryd.func32, Tryd.ntmps32
    go_wp2
    go_ret2
    exact ansI_nil (Below.refl _ _)
  · have hni : (n : Int) ≤ 400 := by omega
    obtain ⟨i0, hi, hz0, hz1, hz2⟩ := info_parts Tryd.info3
    have HO0 := Lib.hid (own_lit w [(n : Int)] (by simp) 3)
    have HA := Lib.hid (ba w (.cells #[.int .i64 (n : Int)] 3))
    have HZ := Lib.hid h.of.2.1
    have hP := h.1
    have HN := Lib.hid hn
    clear h hn hl
    go_enter Tryd.func32, Tryd.ntmps32
    go_wp2
    go_loopw [4, 6, 15] (fun V _ K wr => ∃ (k : Nat) (va : Option Addr) (vc : Nat), k ≤ n ∧ K = .int .i64 k ∧ V = .slice va (1 + k * 2) vc ∧ wr.ownsRow w.heap.size 3 1 (.slice va (1 + k * 2) vc) (1 + k * 2) (([(n : Int)] ++ zs.take (k * 2)).map (Value.int .i64)) ∧ Below w.heap.size w wr) (fun _ _ K _ => n - (intOf K).toNat)
    case atStart => exact ⟨0, some ⟨w.heap.size, 0, none⟩, 1, Nat.zero_le _, rfl, rfl, HO0.out, HA.out⟩
    case round =>
      obtain ⟨k, va, vc, hk, rfl, rfl, hown, hbel⟩ := hrel
      have HO := Lib.hid hown
      have HB := Lib.hid hbel
      by_cases hkn : k < n
      · have hki : (k : Int) < (n : Int) := by omega
        obtain ⟨b, off, p, q, rfl, hb, hc1, hc2, hd⟩ := ((HZ.out.below (hbel.mono hP)).ints).pair hkn HN.out
        have HT := Lib.hid (take_two hd)
        clear hown hbel hd
        have hal := ba wr (.cells #[.int .i64 p, .int .i64 q] 98)
        have HAL := Lib.hid (bt hal (ba _ (.cells #[.int .i64 p, .int .i64 q] 3)))
        have HS := Lib.hid (show (wr.alloc (.cells #[.int .i64 p, .int .i64 q] 98)).heap.size = wr.heap.size + 1 by simp)
        clear hal
        go_wp2_with (at_builtin; refine wpList_append_ints rfl _ _ 24 rfl w.heap.size 3 i0 Tryd.underlying24 hi hz0 hz1 hz2 _ (1 + k * 2) ([(n : Int)] ++ zs.take (k * 2)) rfl ((HO.out.alloc _).alloc _) (some ⟨wr.heap.size + 1, 0, none⟩) 2 2 [p, q] rfl rfl (ints_spot _ _ HS.out [p, q] 3) (fun h => by cases h) (by omega) (Nat.le_trans HB.out.size HAL.out.size) ?_; intro v' w1 hown' hgrow; obtain ⟨va', vc', rfl⟩ := own_shape hown'; have HO1 := Lib.hid hown'; have HB1 := Lib.hid ((HB.out.trans (HAL.out.mono HB.out.size)).grown hgrow (Nat.le_trans HB.out.size HAL.out.size) (fun q hq => (HO.out.lt q hq).1)); clear hown' hgrow)
        go_roundw
        case rel =>
          exact ⟨k + 1, va', vc', by omega, by go_num, by rw [show 1 + (k + 1) * 2 = 1 + k * 2 + 2 by omega], by rw [show 1 + (k + 1) * 2 = 1 + k * 2 + 2 by omega, HT.out]; simpa using HO1.out, HB1.out⟩
        case measure => simp only [intOf]; omega
      · have hki : (n : Int) ≤ (k : Int) := by omega
        obtain rfl : k = n := by omega
        have hlen : ([(k : Int)] ++ zs).length = 1 + k * 2 := by have := HN.out; simp; omega
        have ht : zs.take (k * 2) = zs := List.take_of_length_le (by have := HN.out; omega)
        rw [ht] at hown
        have HOr := Lib.hid hown
        have HBr := Lib.hid hbel
        have HL := Lib.hid hlen
        clear hown hbel ht hlen
        cases hrec : hashB ([(k : Int)] ++ zs)
        · have HRC := Lib.hid hrec
          clear hrec
          go_wp2_with fail
          refine (isRecord_any _ _ _ ([(k : Int)] ++ zs) HL.out (by omega) _ (own_ints HOr.out).1).mono ?_
          rw [HRC.out]
          rintro e w' ⟨rfl, rfl⟩
          go_wp2
          go_ret2
          have h1 : hashB ((k : Int) :: zs) = false := HRC.out
          rw [h1, recL_no h1]
          exact ansI_nil HBr.out
        · have HRC := Lib.hid hrec
          clear hrec
          go_wp2_with fail
          refine (isRecord_any _ _ _ ([(k : Int)] ++ zs) HL.out (by omega) _ (own_ints HOr.out).1).mono ?_
          rw [HRC.out]
          rintro e w' ⟨rfl, rfl⟩
          go_wp2
          go_ret2
          have h1 : hashB ((k : Int) :: zs) = true := HRC.out
          rw [h1, recL_yes h1]
          exact ⟨_, rfl, owI_mk HOr.out HBr.out.size, HBr.out⟩

set_option maxRecDepth 100000 in
set_option maxHeartbeats 3200000 in
theorem cCiphers_any {P : Nat} {w : World} {v : Value} {zs : List Int} (h : InC P w v zs) (hl : zs.length ≤ 4194304) :
    Calls Tryd.prog 71 #[v] w (PutOut w.heap.size w (encC zs)) := by
  obtain ⟨ad, n, cap, rfl, hn⟩ := h.shape
  have en : encC zs = [(n : Int)] ++ zs := by unfold encC; rw [show zs.length / 2 = n by omega]; rfl
  rw [en]
  clear en
  have hnn : n ≤ 2097152 := by omega
  have hnn0 : 0 ≤ (n : Int) := by omega
  obtain ⟨i0, hi, hz0, hz1, hz2⟩ := info_parts Tryd.info3
  have HO0 := Lib.hid (own_lit w [(n : Int)] (by simp) 3)
  have HA := Lib.hid (ba w (.cells #[.int .i64 (n : Int)] 3))
  have HZ := Lib.hid h.of.2.1
  have hP := h.1
  have HN := Lib.hid hn
  clear h hn hl
  go_enter Tryd.func71, Tryd.ntmps71
  go_wp2
  go_loopw [3, 5, 11] (fun V _ K wr => ∃ (k : Nat) (va : Option Addr) (vc : Nat), k ≤ n ∧ K = .int .i64 k ∧ V = .slice va (1 + k * 2) vc ∧ wr.ownsRow w.heap.size 3 1 (.slice va (1 + k * 2) vc) (1 + k * 2) (([(n : Int)] ++ zs.take (k * 2)).map (Value.int .i64)) ∧ Below w.heap.size w wr) (fun _ _ K _ => n - (intOf K).toNat)
  case atStart => exact ⟨0, some ⟨w.heap.size, 0, none⟩, 1, Nat.zero_le _, rfl, rfl, HO0.out, HA.out⟩
  case round =>
    obtain ⟨k, va, vc, hk, rfl, rfl, hown, hbel⟩ := hrel
    have HO := Lib.hid hown
    have HB := Lib.hid hbel
    by_cases hkn : k < n
    · have hki : (k : Int) < (n : Int) := by omega
      obtain ⟨b, off, p, q, rfl, hb, hc1, hc2, hd⟩ := ((HZ.out.below (hbel.mono hP)).ints).pair hkn HN.out
      have HT := Lib.hid (take_two hd)
      clear hown hbel hd
      have hal := ba wr (.cells #[.int .i64 p, .int .i64 q] 98)
      have HAL := Lib.hid (bt hal (ba _ (.cells #[.int .i64 p, .int .i64 q] 3)))
      have HS := Lib.hid (show (wr.alloc (.cells #[.int .i64 p, .int .i64 q] 98)).heap.size = wr.heap.size + 1 by simp)
      clear hal
      go_wp2_with (at_builtin; refine wpList_append_ints rfl _ _ 24 rfl w.heap.size 3 i0 Tryd.underlying24 hi hz0 hz1 hz2 _ (1 + k * 2) ([(n : Int)] ++ zs.take (k * 2)) rfl ((HO.out.alloc _).alloc _) (some ⟨wr.heap.size + 1, 0, none⟩) 2 2 [p, q] rfl rfl (ints_spot _ _ HS.out [p, q] 3) (fun h => by cases h) (by omega) (Nat.le_trans HB.out.size HAL.out.size) ?_; intro v' w1 hown' hgrow; obtain ⟨va', vc', rfl⟩ := own_shape hown'; have HO1 := Lib.hid hown'; have HB1 := Lib.hid ((HB.out.trans (HAL.out.mono HB.out.size)).grown hgrow (Nat.le_trans HB.out.size HAL.out.size) (fun q hq => (HO.out.lt q hq).1)); clear hown' hgrow)
      go_roundw
      case rel =>
        exact ⟨k + 1, va', vc', by omega, by go_num, by rw [show 1 + (k + 1) * 2 = 1 + k * 2 + 2 by omega], by rw [show 1 + (k + 1) * 2 = 1 + k * 2 + 2 by omega, HT.out]; simpa using HO1.out, HB1.out⟩
      case measure => simp only [intOf]; omega

    · have hki : (n : Int) ≤ (k : Int) := by omega
      obtain rfl : k = n := by omega
      have ht : zs.take (k * 2) = zs := List.take_of_length_le (by have := HN.out; omega)
      rw [ht] at hown
      have HOr := Lib.hid hown
      have HBr := Lib.hid hbel
      clear hown hbel ht
      go_wp2
      go_ret
      exact ⟨va, _, vc, rfl, HOr.out, HBr.out⟩

end Go.Proofs.YtmiohdibbpckaaaDoor

/- Counted lists are read back. -/
namespace Go.Proofs.YtmiohdibbpckaaaDoor
open Go.RowKit

/-! ### The plain facts -/
/-- Can a counted list be taken from the front? The list; the rest. -/
def tkB (l : List Int) : Bool := match l with | [] => false | h :: t => decide (0 ≤ h) && decide (h ≤ t.length)
def tkA (l : List Int) : List Int := (l.drop 1).take (l.headD 0).toNat
def tkR (l : List Int) : List Int := l.drop (1 + (l.headD 0).toNat)
def spl : Nat → List Int → List (List Int) → Option (List (List Int) × List Int)
  | 0, l, acc => some (acc, l)
  | n + 1, l, acc => if tkB l then spl n (tkR l) (acc ++ [tkA l]) else none
def splOk (n : Nat) (l : List Int) : Bool := match spl n l [] with | some (_, []) => true | _ => false
def splRes (n : Nat) (l : List Int) : List (List Int) := match spl n l [] with | some (a, []) => a | _ => []
theorem tkB_cons {h : Int} {t : List Int} : tkB (h :: t) = true ↔ 0 ≤ h ∧ h ≤ t.length := by simp [tkB]
theorem tkR_length {l : List Int} (h : tkB l = true) : (tkR l).length < l.length := by
  cases l with
  | nil => simp [tkB] at h
  | cons x t => simp [tkR]; omega
theorem spl_go {n : Nat} {l : List Int} {acc : List (List Int)} (h : tkB l = true) : spl (n + 1) l acc = spl n (tkR l) (acc ++ [tkA l]) := by simp [spl, h]
theorem spl_stop {n : Nat} {l : List Int} {acc : List (List Int)} (h : tkB l = false) : spl (n + 1) l acc = none := by simp [spl, h]
theorem spl_short : ∀ (n : Nat) (l : List Int) (acc : List (List Int)), l.length < n → spl n l acc = none
  | 0, l, acc, h => by omega
  | n + 1, l, acc, h => by
    cases hb : tkB l
    · exact spl_stop hb
    · rw [spl_go hb]
      exact spl_short n _ _ (by have := tkR_length hb; omega)
theorem splOk_none {n : Nat} {l : List Int} (h : spl n l [] = none) : splOk n l = false ∧ splRes n l = [] := by simp [splOk, splRes, h]
theorem splOk_some {n : Nat} {l : List Int} {a : List (List Int)} (h : spl n l [] = some (a, [])) : splOk n l = true ∧ splRes n l = a := by simp [splOk, splRes, h]
theorem splOk_more {n : Nat} {l r : List Int} {a : List (List Int)} (h : spl n l [] = some (a, r)) (hr : r ≠ []) : splOk n l = false ∧ splRes n l = [] := by
  cases r with
  | nil => exact absurd rfl hr
  | cons x t => simp [splOk, splRes, h]
/-- Every list that is read is a part of what is read. -/
theorem spl_bound : ∀ (n : Nat) (l : List Int) (acc : List (List Int)) (a : List (List Int)) (r : List Int), spl n l acc = some (a, r) → a.length = acc.length + n ∧ nS a + n + r.length = nS acc + l.length
  | 0, l, acc, a, r, h => by simp [spl] at h; obtain ⟨rfl, rfl⟩ := h; simp
  | n + 1, l, acc, a, r, h => by
    cases hb : tkB l
    · rw [spl_stop hb] at h; cases h
    · rw [spl_go hb] at h
      obtain ⟨h1, h2⟩ := spl_bound n _ _ a r h
      refine ⟨by simp at h1; omega, ?_⟩
      rw [nS_append] at h2
      cases l with
      | nil => simp [tkB] at hb
      | cons x t =>
        obtain ⟨hx0, hx1⟩ := tkB_cons.1 hb
        simp [tkA, tkR, nS] at h2 ⊢
        omega
theorem splRes_bound (n : Nat) (l : List Int) : (splRes n l).length ≤ l.length ∧ nS (splRes n l) ≤ l.length := by
  unfold splRes
  split
  · rename_i a h
    obtain ⟨h1, h2⟩ := spl_bound n l [] a [] h
    simp [nS] at h1 h2 ⊢
    omega
  · simp [nS]

/-- What is cut out of a list. -/
theorem InB.cut {P : Nat} {w : World} {b off cap : Nat} {zs : List Int} (h : InB P w (some ⟨b, off, none⟩) zs) (k : Nat) (hk : k ≤ zs.length) (hc : zs.length ≤ cap) :
    InB P w (if cap = k then some ⟨b, off, none⟩ else some ⟨b, off + k, none⟩) (zs.drop k) := by
  by_cases h0 : zs.drop k = []
  · exact .inl h0
  · have hlt : k < zs.length := by
      rcases Nat.lt_or_ge k zs.length with h' | h'
      · exact h'
      · exact absurd (List.drop_of_length_le h') h0
    rw [if_neg (by omega)]
    rcases h with h | ⟨b', off', h1, h2, h3, h4⟩
    · subst h; simp at hlt
    · simp only [Option.some.injEq, Addr.mk.injEq, and_true] at h1
      obtain ⟨rfl, rfl⟩ := h1
      refine .inr ⟨b, off + k, rfl, h2, h3, fun i hi => ?_⟩
      rw [List.length_drop] at hi
      have := h4 (k + i) (by omega)
      rw [show off + k + i = off + (k + i) by omega, this]
      simp [List.getD_eq_getElem?_getD, List.getElem?_drop]
theorem InB.takeN {P : Nat} {w : World} {ad : Option Addr} {zs : List Int} (h : InB P w ad zs) (k : Nat) : InB P w ad (zs.take k) := by
  rcases h with h | ⟨b, off, h1, h2, h3, h4⟩
  · subst h; exact .inl (by simp)
  · refine .inr ⟨b, off, h1, h2, h3, fun i hi => ?_⟩
    rw [List.length_take] at hi
    rw [h4 i (by omega)]
    simp [List.getD_eq_getElem?_getD, show i < k by omega]

/-- A list of lists that is answered, with a bool. -/
def AnsS (w : World) (zss : List (List Int)) (ok : Bool) (e : Ending) (w' : World) : Prop := ∃ v, e = .returned (.tuple #[v, .bool ok]) ∧ OwS w.heap.size w'.heap.size w' v zss ∧ Below w.heap.size w w'
theorem ansS_nil {w w' : World} (h : Below w.heap.size w w') : AnsS w [] false (.returned (.tuple #[.slice none 0 0, .bool false])) w' :=
  ⟨_, rfl, ⟨w'.heap.size, [], OwR.mk (World.ownsRow_nil _ _ _ _) h.size, ⟨Nat.le_refl _, Nat.le_refl _⟩⟩, h⟩

set_option maxRecDepth 100000 in
set_option maxHeartbeats 3200000 in
theorem decodeParts_any {P : Nat} {w : World} {v : Value} {zs : List Int} (n : Nat) (h : InI P w v zs) (hl : zs.length ≤ 1048576) (hd : ∀ z ∈ zs, 0 ≤ z ∧ z ≤ 4611686018427387903) (hn : n ≤ 4611686018427387903) :
    Calls Tryd.prog 64 #[v, .int .i64 n] w (AnsS w (splRes n zs) (splOk n zs)) := by
  obtain ⟨ad, cap, rfl⟩ := h.shape
  obtain ⟨hzl, hin, hnil⟩ := h.parts
  have hcap := h.cap
  have hP := h.1
  generalize hm : zs.length = m at h hcap hzl
  by_cases hnm : m < n
  · obtain ⟨e1, e2⟩ := splOk_none (spl_short n zs [] (by omega))
    rw [e1, e2]
    have hnmi : (m : Int) < (n : Int) := by omega
    clear e1 e2 h hin hm hzl hd hnil
    go_enter Tryd.func64, Tryd.ntmps64
    go_wp2
    go_ret2
    exact ansS_nil (Below.refl _ _)
  obtain ⟨i0, hi, hz0, hz1, hz2⟩ := info_parts Tryd.infoSL
  obtain ⟨j0, ji, jz0, jz1, jz2⟩ := info_parts Tryd.info3
  have hnmi : (n : Int) ≤ (m : Int) := by omega
  have hn' : n ≤ 1048576 := by omega
  have hm' : m ≤ 1048576 := by omega
  have HZ2 := Lib.hid hz2
  have HD := Lib.hid hd
  have HM := Lib.hid hm
  have HI := Lib.hid hin
  have HCAP := Lib.hid hcap
  have HNIL := Lib.hid hnil
  clear hz2 hd hm h hin hcap hzl hnil
  go_enter Tryd.func64, Tryd.ntmps64
  go_wp2_with (at_make; refine wpList_make_full _ rfl _ _ 46 rfl w.heap.size 24 i0 (.slice none 0 0) 1 Tryd.underlying46 hi hz0 hz1 .i64 .i64 _ _ n rfl rfl rfl rfl (by rw [HZ2.out]; omega) (by unfold maxLen; omega) (Nat.le_refl _) ?_; intro w1 hown hgrow)
  go_loopw [0, 7, 8, 17] (fun L _ _ K wr => ∃ (k : Nat) (vs : List Value) (acc : List (List Int)) (la : Option Addr) (lm lc : Nat) (rest : List Int), k ≤ n ∧ K = .int .i64 k ∧ L = .slice la lm lc ∧ rest.length = lm ∧ lm ≤ lc ∧ (lm ≤ m) ∧ (la = none → lc = 0) ∧ InB P wr la rest ∧ (∀ z ∈ rest, 0 ≤ z ∧ z ≤ 4611686018427387903) ∧ vs.length = k ∧ wr.ownsRow w.heap.size 24 1 (.slice (some ⟨w.heap.size, 0, none⟩) n n) n (rowMix vs n) ∧ ChI wr.heap.size wr (w.heap.size + 1) vs acc ∧ Below w.heap.size w wr ∧ spl n zs [] = spl (n - k) rest acc) (fun _ _ _ K _ => n - (intOf K).toNat)
  case atStart =>
    have hb := (Below.refl w.heap.size w).grown hgrow (Nat.le_refl _) (by simp)
    refine ⟨0, [], [], ad, m, cap, zs, Nat.zero_le _, rfl, rfl, HM.out, HCAP.out, Nat.le_refl _, HNIL.out, HI.out.below (hb.mono hP), HD.out, rfl, ?_, ⟨?_, Nat.le_refl _⟩, hb, rfl⟩
    · have h := hown
      rw [show Value.cells (.slice none 0 0) = #[.slice none 0 0] from rfl, Nat.mul_one, toList_madeCells_one] at h
      simpa [rowMix] using h
    · exact (hown.lt w.heap.size rfl).2
  case round =>
    clear hown hgrow
    obtain ⟨k, vs, acc, la, lm, lc, rest, hk, rfl, rfl, hrl, hlc, hlm, hlnil, hin, hdig, hvs, hown, hch, hbel, he⟩ := hrel
    by_cases hkn : k < n
    · cases hb : tkB rest
      · have e0 : spl n zs [] = none := by
          rw [he, show n - k = (n - k - 1) + 1 by omega]; exact spl_stop hb
        have HE := Lib.hid (splOk_none e0)
        have HB := Lib.hid hbel
        cases rest with
        | nil =>
          obtain rfl : lm = 0 := by simpa using hrl.symm
          clear hb he e0 hbel hown hch hin hdig hvs hrl
          go_wp2
          go_ret2
          rw [HE.out.1, HE.out.2]
          exact ansS_nil HB.out
        | cons x t =>
          have hx := hdig x (by simp)
          have hxl : (t.length : Int) < x := by
            rcases Int.lt_or_le t.length x with h | h
            · exact h
            · have := tkB_cons.2 ⟨hx.1, h⟩; rw [this] at hb; cases hb
          obtain ⟨bb, off, z, rfl, hbl, hc, hdr⟩ := hin.ints.at (k := 0) (by simp)
          obtain rfl : x = z := by simpa using (List.cons.inj hdr).1
          simp only [List.length_cons] at hrl
          have hlm1 : (1 : Int) ≤ (lm : Int) ∧ (lm : Int) ≤ x := by omega
          obtain ⟨hlm1, hlm2⟩ := hlm1
          obtain ⟨hx0, hx1⟩ := hx
          have hlm0 : 0 < lm := by omega
          rw [Nat.add_zero] at hc
          clear hb he e0 hbel hown hch hin hdig hvs hrl hdr hxl hlnil
          go_wp2
          go_ret2
          rw [HE.out.1, HE.out.2]
          exact ansS_nil HB.out
      · cases rest with
        | nil => simp [tkB] at hb
        | cons x t =>
          obtain ⟨hx0, hx1⟩ := tkB_cons.1 hb
          obtain ⟨q, rfl⟩ : ∃ q : Nat, x = (q : Int) := ⟨x.toNat, by omega⟩
          have hqt : q ≤ t.length := by omega
          have hrl' : lm = t.length + 1 := by simpa using hrl.symm
          have eA : tkA ((q : Int) :: t) = t.take q := by simp [tkA]
          have eR : tkR ((q : Int) :: t) = t.drop q := by simp [tkR, Nat.add_comm 1 q]
          have he2 : spl n zs [] = spl (n - (k + 1)) (t.drop q) (acc ++ [t.take q]) := by
            rw [he, show n - k = (n - (k + 1)) + 1 by omega, spl_go hb, eA, eR]
          obtain ⟨bb, off, z, rfl, hbl, hc, hdr⟩ := hin.ints.at (k := 0) (by simp)
          obtain rfl : (q : Int) = z := by simpa using (List.cons.inj hdr).1
          rw [Nat.add_zero] at hc
          have c1 := (hin.cut (cap := lc) 1 (by simp) (by simp; omega)).takeN q
          have c2 := hin.cut (cap := lc) (1 + q) (by simp; omega) (by simp; omega)
          rw [List.drop_one, List.tail_cons] at c1
          rw [show (((q : Int) :: t).drop (1 + q)) = t.drop q by rw [Nat.add_comm, List.drop_succ_cons]] at c2
          have hlq : (q : Int) < (lm : Int) := by omega
          have hq0 : 0 ≤ (q : Int) := by omega
          have hlqn : q < lm := by omega
          have ht1 : ((lm : Int) == 0) = false := by rw [beq_eq_false_iff_ne]; omega
          have ht2 : decide (lm ≤ q) = false := by rw [decide_eq_false_iff_not]; omega
          have hq1 : (q : Int) ≤ 1048576 := by omega
          have hlcq : (1 : Int) + q ≤ (lc : Int) := by omega
          have hlmq : (1 : Int) + q ≤ (lm : Int) := by omega
          have hlm0 : 0 < lm := by omega
          obtain ⟨d1, d2⟩ := rowMix_cell hown hvs hkn
          have HE := Lib.hid he2
          have HB := Lib.hid hbel
          have HO := Lib.hid hown
          have HC := Lib.hid hch
          have HV := Lib.hid hvs
          have HDG := Lib.hid hdig
          have HRL := Lib.hid hrl'
          by_cases g1 : lc = 1
          · subst g1
            obtain rfl : q = 0 := by omega
            obtain rfl : t = [] := List.length_eq_zero_iff.1 (by omega)
            obtain rfl : lm = 1 := by omega
            rw [if_pos rfl] at c1 c2
            rw [show ((0 : Nat) : Int) = 0 from rfl] at hc
            have C1 := Lib.hid c1
            have HOL := Lib.hid (own_lit wr [] (by simp) 3)
            clear hb he he2 hbel hown hch hin hdig hvs hrl hdr hlnil hx0 hx1 eA eR c1 c2 hrl' d1 d2 hqt hlq hq0 hq1 hlqn ht1 ht2 hlcq hlmq hlm0
            go_wp2_with (at_builtin; refine wpList_append_ints rfl _ _ 24 rfl wr.heap.size 3 j0 Tryd.underlying24 ji jz0 jz1 jz2 _ 0 [] rfl HOL.out (some ⟨bb, off, none⟩) 0 0 [] rfl rfl (C1.out.below ((ba wr _).mono (Nat.le_trans hP HB.out.size))).ints (fun h => by cases h) (by omega) (ba wr _).size ?_; intro v' w2 hown' hgrow; obtain ⟨va', vc', hv'⟩ := own_shape hown'; subst hv'; have hb2 := (ba wr (.cells #[] 3)).grown hgrow (ba wr _).size (fun q hq => (HOL.out.lt q hq).1); have HO1 := Lib.hid (owI_mk (zs := []) (by simpa using hown') hb2.size); obtain ⟨d1, d2⟩ := rowMix_cell (own_below HO.out hb2) HV.out hkn; have HB2 := Lib.hid hb2; clear hown' hgrow hb2)
            go_roundw
            case rel =>
              refine ⟨k + 1, vs ++ [.slice va' 0 vc'], acc ++ [[]], _, _, _, [], by omega, by go_num, rfl, ?_, ?_, ?_, (fun h => by cases h), ?_, ?_, ?_, ?_, ?_, ?_, HE.out⟩
              · simp
              · omega
              · omega
              · exact InB.nil
              · exact fun z hz => by cases hz
              · have := HV.out; simp [this]
              · have := ((own_below HO.out HB2.out).stored k (.slice va' 0 vc')).1
                rwa [rowMix_set HV.out hkn] at this
              · have := ((HC.out.below HB2.out).snoc HO1.out).mid (mid_cell w2 w.heap.size k (.slice va' 0 vc')) (.inr (Nat.le_refl _))
                exact this.wide (by simp) (Nat.le_refl _)
              · exact (HB.out.trans (HB2.out.mono HB.out.size)).setCell (Nat.le_refl _) _
            case measure => simp only [intOf]; omega
          by_cases g2 : lc = 1 + q
          · subst g2
            have hq00 : ¬ q = 0 := by omega
            rw [if_neg g1] at c1
            rw [if_pos rfl] at c2
            have C1 := Lib.hid c1
            have C2 := Lib.hid c2
            have HOL := Lib.hid (own_lit wr [] (by simp) 3)
            clear hb he he2 hbel hown hch hin hdig hvs hrl hdr hlnil hx0 hx1 eA eR c1 c2 hrl' d1 d2 g1
            go_wp2_with (at_builtin; refine wpList_append_ints rfl _ _ 24 rfl wr.heap.size 3 j0 Tryd.underlying24 ji jz0 jz1 jz2 _ 0 [] rfl HOL.out (some ⟨bb, off + 1, none⟩) (1 + q - 1) q (t.take q) rfl (by simp; omega) (C1.out.below ((ba wr _).mono (Nat.le_trans hP HB.out.size))).ints (fun h => by cases h) (by omega) (ba wr _).size ?_; intro v' w2 hown' hgrow; obtain ⟨va', vc', hv'⟩ := own_shape hown'; rw [show 0 + (1 + q - 1) = q by omega] at hv' hown'; subst hv'; have hb2 := (ba wr (.cells #[] 3)).grown hgrow (ba wr _).size (fun q hq => (HOL.out.lt q hq).1); have HO1 := Lib.hid (owI_mk (zs := t.take q) (by simpa using hown') hb2.size); obtain ⟨d1, d2⟩ := rowMix_cell (own_below HO.out hb2) HV.out hkn; have HB2 := Lib.hid hb2; clear hown' hgrow hb2)
            go_roundw
            case rel =>
              refine ⟨k + 1, vs ++ [.slice va' q vc'], acc ++ [t.take q], _, _, _, t.drop q, by omega, by go_num, rfl, ?_, ?_, ?_, (fun h => by cases h), ?_, ?_, ?_, ?_, ?_, ?_, HE.out⟩
              · have := HRL.out; simp; omega
              · omega
              · omega
              · exact (C2.out.below (HB2.out.mono (Nat.le_trans hP HB.out.size))).below ((Below.refl P w2).setCell (p := ⟨w.heap.size, k, none⟩) hP _)
              · exact fun z hz => HDG.out z (List.mem_cons_of_mem _ (List.mem_of_mem_drop hz))
              · have := HV.out; simp [this]
              · have := ((own_below HO.out HB2.out).stored k (.slice va' q vc')).1
                rwa [rowMix_set HV.out hkn] at this
              · have := ((HC.out.below HB2.out).snoc HO1.out).mid (mid_cell w2 w.heap.size k (.slice va' q vc')) (.inr (Nat.le_refl _))
                exact this.wide (by simp) (Nat.le_refl _)
              · exact (HB.out.trans (HB2.out.mono HB.out.size)).setCell (Nat.le_refl _) _
            case measure => simp only [intOf]; omega
          rw [if_neg g1] at c1
          rw [if_neg g2] at c2
          have C1 := Lib.hid c1
          have C2 := Lib.hid c2
          have HOL := Lib.hid (own_lit wr [] (by simp) 3)
          clear hb he he2 hbel hown hch hin hdig hvs hrl hdr hlnil hx0 hx1 eA eR c1 c2 hrl' d1 d2
          go_wp2_with (at_builtin; refine wpList_append_ints rfl _ _ 24 rfl wr.heap.size 3 j0 Tryd.underlying24 ji jz0 jz1 jz2 _ 0 [] rfl HOL.out (some ⟨bb, off + 1, none⟩) (1 + q - 1) (lc - 1) (t.take q) rfl (by simp; omega) (C1.out.below ((ba wr _).mono (Nat.le_trans hP HB.out.size))).ints (fun h => by cases h) (by omega) (ba wr _).size ?_; intro v' w2 hown' hgrow; obtain ⟨va', vc', hv'⟩ := own_shape hown'; rw [show 0 + (1 + q - 1) = q by omega] at hv' hown'; subst hv'; have hb2 := (ba wr (.cells #[] 3)).grown hgrow (ba wr _).size (fun q hq => (HOL.out.lt q hq).1); have HO1 := Lib.hid (owI_mk (zs := t.take q) (by simpa using hown') hb2.size); obtain ⟨d1, d2⟩ := rowMix_cell (own_below HO.out hb2) HV.out hkn; have HB2 := Lib.hid hb2; clear hown' hgrow hb2)
          go_roundw
          case rel =>
            refine ⟨k + 1, vs ++ [.slice va' q vc'], acc ++ [t.take q], _, _, _, t.drop q, by omega, by go_num, rfl, ?_, ?_, ?_, (fun h => by cases h), ?_, ?_, ?_, ?_, ?_, ?_, HE.out⟩
            · have := HRL.out; simp; omega
            · omega
            · omega
            · exact (C2.out.below (HB2.out.mono (Nat.le_trans hP HB.out.size))).below ((Below.refl P w2).setCell (p := ⟨w.heap.size, k, none⟩) hP _)
            · exact fun z hz => HDG.out z (List.mem_cons_of_mem _ (List.mem_of_mem_drop hz))
            · have := HV.out; simp [this]
            · have := ((own_below HO.out HB2.out).stored k (.slice va' q vc')).1
              rwa [rowMix_set HV.out hkn] at this
            · have := ((HC.out.below HB2.out).snoc HO1.out).mid (mid_cell w2 w.heap.size k (.slice va' q vc')) (.inr (Nat.le_refl _))
              exact this.wide (by simp) (Nat.le_refl _)
            · exact (HB.out.trans (HB2.out.mono HB.out.size)).setCell (Nat.le_refl _) _
          case measure => simp only [intOf]; omega
    · have HE := Lib.hid he
      have HB := Lib.hid hbel
      have HO := Lib.hid hown
      have HC := Lib.hid hch
      have HV := Lib.hid hvs
      have HRL := Lib.hid hrl
      obtain rfl : k = n := by omega
      clear he hbel hown hch hin hdig hvs hlnil hrl
      by_cases h0 : lm = 0
      · subst h0
        obtain rfl : rest = [] := List.length_eq_zero_iff.1 HRL.out
        go_wp2
        go_ret2
        have e1 := HE.out
        rw [Nat.sub_self] at e1
        obtain ⟨q1, q2⟩ := splOk_some (show spl k zs [] = some (acc, []) from e1)
        rw [q1, q2]
        have hlen : acc.length = k := by have := HC.out.len; have := HV.out; omega
        refine ⟨_, rfl, ⟨w.heap.size + 1, vs, ?_, HC.out⟩, HB.out⟩
        have h := HO.out
        unfold rowMix at h
        rw [HV.out] at h
        simp only [Nat.sub_self, List.replicate_zero, List.append_nil] at h
        rw [hlen]
        refine ⟨h, ?_, (HC.out.le).1, Nat.le_succ _⟩
        rintro g ⟨⟩
        exact Nat.lt_succ_self _
      · have hl0 : 0 < lm := by omega
        have hl1 : (0 : Int) < (lm : Int) := by omega
        go_wp2
        go_ret2
        have e1 := HE.out
        rw [Nat.sub_self] at e1
        obtain ⟨q1, q2⟩ := splOk_more (show spl k zs [] = some (acc, rest) from e1) (fun h => by have := HRL.out; rw [h] at this; simp at this; omega)
        rw [q1, q2]
        exact ansS_nil HB.out

end Go.Proofs.YtmiohdibbpckaaaDoor

/- SplitRecords of the program and of the reference. -/
namespace Go.Proofs.YtmiohdibbpckaaaDoor
open Go.RowKit

theorem InI.cut {P : Nat} {w : World} {b off n cap : Nat} {x : Int} {t : List Int} (h : InI P w (.slice (some ⟨b, off, none⟩) (n + 1) cap) (x :: t)) (hn : t.length = n) :
    InI P w (.slice (if cap = 1 then some ⟨b, off, none⟩ else some ⟨b, off + 1, none⟩) n (cap - 1)) t := by
  have hc := h.cap
  have hp := h.parts
  have hq := hp.2.1.cut (cap := cap) 1 (by simp) (by simp; omega)
  rw [List.drop_one, List.tail_cons] at hq
  refine ⟨h.1, _, cap - 1, by rw [hn], hq, fun h0 => ?_, by omega⟩
  split at h0 <;> cases h0

set_option maxRecDepth 100000 in
set_option maxHeartbeats 1600000 in
theorem splitRecords_any {P : Nat} {w : World} {v : Value} {zs : List Int} (h : InI P w v zs) (hl : zs.length ≤ 1048576) :
    Calls Tryd.prog 25 #[v] w (AnsS w (if hashB zs then splRes (zs.headD 0).toNat (zs.drop 1) else []) (hashB zs && decide (0 < zs.length) && splOk (zs.headD 0).toNat (zs.drop 1))) := by
  obtain ⟨ad, cap, rfl⟩ := h.shape
  obtain ⟨hzl, hin, hnil⟩ := h.parts
  cases zs with
  | nil =>
    rw [show (if hashB [] = true then splRes (([] : List Int).headD 0).toNat (([] : List Int).drop 1) else []) = [] from by split <;> rfl, show (hashB [] && decide (0 < ([] : List Int).length) && splOk (([] : List Int).headD 0).toNat (([] : List Int).drop 1)) = false from by simp]
    clear h hin
    simp only [List.length_nil]
    go_enter Tryd.func25, Tryd.ntmps25
    go_wp2
    go_ret2
    exact ansS_nil (Below.refl _ _)
  | cons x t =>
    generalize hn : t.length = n at *
    have hlen : (x :: t).length = n + 1 := by simp [hn]
    rw [hlen] at h hl ⊢
    have HL := Lib.hid hlen
    have HI := Lib.hid hin.ints
    have hm0 : ((((n + 1 : Nat)) : Int) == 0) = false := by rw [beq_eq_false_iff_ne]; omega
    have hm1 : ((n : Int) + 1 == 0) = false := by rw [beq_eq_false_iff_ne]; omega
    cases hr : hashB (x :: t)
    · rw [show (if false = true then splRes ((x :: t).headD 0).toNat ((x :: t).drop 1) else []) = [] from rfl, show (false && decide (0 < n + 1) && splOk ((x :: t).headD 0).toNat ((x :: t).drop 1)) = false from rfl]
      have HR := Lib.hid hr
      clear hr h hin hlen hn hzl
      go_enter Tryd.func25, Tryd.ntmps25
      go_wp2_with fail
      refine (isRecord_any _ _ _ (x :: t) HL.out (by omega) _ HI.out).mono ?_
      rw [HR.out]
      rintro e w' ⟨rfl, rfl⟩
      go_wp2
      go_ret2
      exact ansS_nil (Below.refl _ _)
    · have hdg := digsB_true.1 (hashB_true.1 hr).2
      obtain ⟨hx0, hx1⟩ := hdg x (by simp)
      obtain ⟨q, rfl⟩ : ∃ q : Nat, x = q := ⟨x.toNat, by omega⟩
      rw [show (if true = true then splRes (((q : Int) :: t).headD 0).toNat (((q : Int) :: t).drop 1) else []) = splRes q t from by simp, show (true && decide (0 < n + 1) && splOk (((q : Int) :: t).headD 0).toNat (((q : Int) :: t).drop 1)) = splOk q t from by simp]
      obtain ⟨b, off, z, rfl, hbl, hc, hdr⟩ := hin.ints.at (k := 0) (by simp)
      obtain rfl : (q : Int) = z := by simpa using (List.cons.inj hdr).1
      rw [Nat.add_zero] at hc
      have HR := Lib.hid hr
      have hcut := (h.cut hn).belowP ((Below.refl P w).drew)
      have HD := Lib.hid (fun z (hz : z ∈ t) => hdg z (List.mem_cons_of_mem _ hz))
      have HN := Lib.hid (show t.length ≤ 1048576 by omega)
      have hq1 : q ≤ 4611686018427387903 := by omega
      have hm2 : (1 : Int) ≤ ((n + 1 : Nat) : Int) := by omega
      have hm3 : 0 < n + 1 := by omega
      have hm4 : (1 : Int) ≤ (n : Int) + 1 := by omega
      have hm5 : 0 < (n : Int) + 1 := by omega
      by_cases g1 : cap = 1
      · subst g1
        rw [if_pos rfl] at hcut
        have HC := Lib.hid (show InI P w.drew (.slice (some ⟨b, off, none⟩) n 0) t from hcut)
        clear hr h hin hlen hn hzl hdg hdr hcut
        go_enter Tryd.func25, Tryd.ntmps25
        go_wp2_with fail
        refine (isRecord_any _ _ _ _ HL.out (by omega) _ HI.out).mono ?_
        rw [HR.out]
        rintro e w' ⟨rfl, rfl⟩
        go_wp2
        go_region_held3 (fun w' => w'.cell? ⟨b, off, none⟩ = some (.int .i64 q)) (first | with_reducible exact y0 | exact hc) ((first | (go_at_call 64; (with_reducible refine (decodeParts_any q HC.out HN.out HD.out hq1).mono ?_); rintro e wa ⟨va, rfl, hoa, hba⟩; have HOa := Lib.hid (show OwS w.heap.size wa.heap.size wa va (splRes q t) from hoa); have HBa := Lib.hid (show Below w.heap.size w wa from bt ((Below.refl _ w).drew) hba); have y0 := (HBa.out.cell (p := ⟨b, off, none⟩) hbl).trans hc; clear hoa hba)))
        all_goals (
          go_wp2
          go_ret2
          exact ⟨va, rfl, HOa.out, HBa.out⟩)
      · rw [if_neg g1] at hcut
        have HC := Lib.hid hcut
        clear hr h hin hlen hn hzl hdg hdr hcut
        go_enter Tryd.func25, Tryd.ntmps25
        go_wp2_with fail
        refine (isRecord_any _ _ _ _ HL.out (by omega) _ HI.out).mono ?_
        rw [HR.out]
        rintro e w' ⟨rfl, rfl⟩
        go_wp2
        go_region_held3 (fun w' => w'.cell? ⟨b, off, none⟩ = some (.int .i64 q)) (first | with_reducible exact y0 | exact hc) ((first | (go_at_call 64; (with_reducible refine (decodeParts_any q HC.out HN.out HD.out hq1).mono ?_); rintro e wa ⟨va, rfl, hoa, hba⟩; have HOa := Lib.hid (show OwS w.heap.size wa.heap.size wa va (splRes q t) from hoa); have HBa := Lib.hid (show Below w.heap.size w wa from bt ((Below.refl _ w).drew) hba); have y0 := (HBa.out.cell (p := ⟨b, off, none⟩) hbl).trans hc; clear hoa hba)))
        all_goals (
          go_wp2
          go_ret2
          exact ⟨va, rfl, HOa.out, HBa.out⟩)

/-! ### The reference -/
/-- What is taken from the front: a list of one's own, and the rest, which stays where it is. -/
def TakeOut (P : Nat) (w : World) (zs : List Int) (e : Ending) (w' : World) : Prop :=
  ∃ a r, e = .returned (.tuple #[a, r, .bool true]) ∧ OwI w.heap.size w'.heap.size w' a (tkA zs) ∧ InI P w' r (tkR zs) ∧ Below w.heap.size w w'

def OwnN (w : World) (n : Nat) (zs : List Int) (e : Ending) (w' : World) : Prop :=
  ∃ (va : Option Addr) (vc : Nat), e = .returned (.slice va n vc) ∧ w'.ownsRow w.heap.size 3 1 (.slice va n vc) n (zs.map (Value.int .i64)) ∧ Below w.heap.size w w'
theorem l1Own_n (ad : Option Addr) (n cap : Nat) (zs : List Int) (hn : zs.length = n) (hl : n ≤ 1000000000) (hnil : ad = none → cap = 0) (w : World) (hz : IsInts w ad zs) :
    Calls Tryd.prog 94 #[.slice ad n cap] w (OwnN w n zs) := by
  subst hn
  exact l1Own_any ad _ cap zs rfl hl hnil w hz

theorem inI_mk {P : Nat} {w : World} {ad : Option Addr} {n cap : Nat} {zs : List Int} (h0 : P ≤ w.heap.size) (h : InB P w ad zs) (hn : zs.length = n) (hnil : ad = none → cap = 0) (hc : n ≤ cap) : InI P w (.slice ad n cap) zs := by
  subst hn
  exact ⟨h0, ad, cap, rfl, h, hnil, hc⟩

/-! ### The reference's list of lists -/
theorem owI_out {Q P base n : Nat} {w w' : World} {u v : Value} {z : List Int} {vs : List Value} (h : OwI Q P w u z) (ho : w.ownsRow base 24 1 v n vs) (hg : w.grownBy w' v.ownBlock) : OwI Q P w' u z := by
  refine ⟨own_block h.1 (fun g hgu => ?_), h.2.1, Nat.le_trans h.2.2.1 hg.size, h.2.2.2⟩
  refine hg.block g (by have := h.2.1 g hgu; have := h.2.2.1; omega) (fun e => ?_)
  rcases h.1.2 with ⟨rfl, _⟩ | ⟨g1, c1, cur1, rfl, _, hh1, _⟩
  · simp [Value.ownBlock] at hgu
  · rcases ho.2 with ⟨rfl, _⟩ | ⟨g2, c2, cur2, rfl, _, hh2, _⟩
    · simp [Value.ownBlock] at e
    · simp [Value.ownBlock] at e hgu
      subst hgu
      subst e
      rw [hh1] at hh2
      simp at hh2
theorem InI.out {P base n : Nat} {w w' : World} {u v : Value} {z : List Int} {vs : List Value} (h : InI P w u z) (hP : P ≤ base) (ho : w.ownsRow base 24 1 v n vs) (hg : w.grownBy w' v.ownBlock) : InI P w' u z :=
  h.belowP ((Below.refl P w).grown hg h.1 (fun k hk => Nat.le_trans hP (ho.lt k hk).1))

theorem rows_snoc {Q P : Nat} {w : World} {vs : List Value} {acc : List (List Int)} {a : Value} {z : List Int} (h : ∀ (i : Nat) z, acc[i]? = some z → ∃ u, vs[i]? = some u ∧ OwI Q P w u z) (hl : vs.length = acc.length) (ha : OwI Q P w a z) :
    ∀ (i : Nat) z', (acc ++ [z])[i]? = some z' → ∃ u, (vs ++ [a])[i]? = some u ∧ OwI Q P w u z' := by
  intro i z' hi
  by_cases hlt : i < acc.length
  · rw [List.getElem?_append_left hlt] at hi
    obtain ⟨u, hu, ho⟩ := h i z' hi
    exact ⟨u, by rw [List.getElem?_append_left (by omega)]; exact hu, ho⟩
  · rw [List.getElem?_append_right (by omega)] at hi
    have h0 : i - acc.length = 0 := by
      rcases Nat.eq_zero_or_pos (i - acc.length) with h | h
      · exact h
      · rw [List.getElem?_eq_none (by simp; omega)] at hi; cases hi
    rw [h0] at hi
    simp at hi
    subst hi
    exact ⟨a, by rw [List.getElem?_append_right (by omega), show i - vs.length = 0 by omega]; rfl, ha⟩
theorem inS_of_rows {Q base n cap : Nat} {w : World} {va : Option Addr} {vs : List Value} {acc : List (List Int)} (ho : w.ownsRow base 24 1 (.slice va n cap) n vs) (hl : acc.length = n)
    (h : ∀ (i : Nat) z, acc[i]? = some z → ∃ u, vs[i]? = some u ∧ OwI Q w.heap.size w u z) : InS w.heap.size w (.slice va n cap) acc := by
  subst hl
  rcases ho.2 with ⟨h1, hn⟩ | ⟨g, cap', cur, h1, _, hg, _⟩
  · simp only [Value.slice.injEq] at h1
    obtain ⟨rfl, _, rfl⟩ := h1
    exact ⟨Nat.le_refl _, none, 0, rfl, fun _ => rfl, .inl (List.length_eq_zero_iff.1 hn)⟩
  · simp only [Value.slice.injEq] at h1
    obtain ⟨rfl, _, rfl⟩ := h1
    have hgl := (Array.getElem?_eq_some_iff.1 hg).1
    refine ⟨Nat.le_refl _, some ⟨g, 0, none⟩, cap, rfl, (fun h => by cases h), .inr ⟨g, 0, rfl, hgl, hgl, fun i z hz => ?_⟩⟩
    obtain ⟨u, hu, hi⟩ := h i z hz
    refine ⟨u, ?_, hi.toIn⟩
    have := ho.cells (g := g) rfl i u hu
    have e1 : (⟨g, 0, none⟩ : Addr).add i = ⟨g, 0 + i, none⟩ := by
      unfold Addr.add; split
      · subst_vars; rfl
      · rfl
    rwa [e1] at this

/-- A list of lists that the reference answers: it reads so. -/
def AnsR (w : World) (zss : List (List Int)) (ok : Bool) (e : Ending) (w' : World) : Prop := ∃ v, e = .returned (.tuple #[v, .bool ok]) ∧ (ok = true → InS w'.heap.size w' v zss) ∧ Below w.heap.size w w'

def cspB (zs : List Int) : Bool := hashB zs && decide (0 < zs.length) && splOk (zs.headD 0).toNat (zs.drop 1)

/-- What is answered. -/
def spR (zs : List Int) : List (List Int) := if hashB zs then splRes (zs.headD 0).toNat (zs.drop 1) else []
theorem spR_no {zs : List Int} (h : cspB zs = false) : spR zs = [] := by
  unfold spR
  split
  · rename_i hr
    cases zs with
    | nil => rfl
    | cons x t =>
      have h2 : splOk x.toNat t = false := by simpa [cspB, hr] using h
      simp only [List.headD_cons, List.drop_one, List.tail_cons]
      unfold splOk at h2
      unfold splRes
      split <;> simp_all
  · rfl
theorem spR_yes {zs : List Int} (h : cspB zs = true) : spR zs = splRes (zs.headD 0).toNat (zs.drop 1) := by
  have : hashB zs = true := by simp only [cspB, Bool.and_eq_true] at h; exact h.1.1
  simp [spR, this]
theorem spR_bound (zs : List Int) : (spR zs).length ≤ zs.length ∧ nS (spR zs) ≤ zs.length := by
  unfold spR
  split
  · have := splRes_bound (zs.headD 0).toNat (zs.drop 1)
    simp only [List.length_drop] at this
    omega
  · simp [nS]
def AnsQ (w : World) (zss : List (List Int)) (ok : Bool) (e : Ending) (w' : World) : Prop := ∃ v, e = .returned (.tuple #[v, .bool ok]) ∧ InS w'.heap.size w' v zss ∧ Below w.heap.size w w'

theorem splitRecords_ans {P : Nat} {w : World} {v : Value} {zs : List Int} (h : InI P w v zs) (hl : zs.length ≤ 1048576) :
    Calls Tryd.prog 25 #[v] w (AnsS w (spR zs) (cspB zs)) := splitRecords_any h hl

end Go.Proofs.YtmiohdibbpckaaaDoor

