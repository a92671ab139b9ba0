/- Records: what a record is; lists below a bound; a counted list is put behind a list. -/
import Derived.Test.YtmiohdibbpckaaaDoorTyI
namespace Go.Proofs.YtmiohdibbpckaaaDoor
open Go.RowKit

/-- A record: at most 400 digests. -/
theorem hashB_true {zs : List Int} : hashB zs = true ↔ zs.length ≤ 400 ∧ digsB zs = true := by simp [hashB]
theorem hashB_long {zs : List Int} (h : 400 < zs.length) : hashB zs = false := by rw [← Bool.not_eq_true, hashB_true]; omega

theorem isRecord_any (ad : Option Addr) (n cap : Nat) (zs : List Int) (hn : zs.length = n) (hl : n ≤ 1152921504606846976) (w : World) (hz : IsInts w ad zs) :
    Calls Tryd.prog 63 #[.slice ad n cap] w fun e w' => e = .returned (.bool (hashB zs)) ∧ w = w' := by
  by_cases h400 : n ≤ 400
  · have hni : (n : Int) ≤ 400 := by omega
    have e1 : hashB zs = digsB zs := by simp [hashB, hn, h400]
    rw [e1]
    have HN := Lib.hid hn
    clear e1 hn
    go_enter Tryd.func63, Tryd.ntmps63
    go_wp2_with fail
    refine (areDigests_any _ _ _ zs HN.out hl _ hz).mono ?_
    rintro e w' ⟨rfl, rfl⟩
    go_wp2
    go_ret
    exact ⟨rfl, rfl⟩
  · have e1 : hashB zs = false := by simp [hashB, hn]; omega
    rw [e1]
    have hni : (400 : Int) < (n : Int) := by omega
    clear e1 hn
    go_enter Tryd.func63, Tryd.ntmps63
    go_wp2
    go_ret
    exact ⟨rfl, rfl⟩

theorem l4Record_any (ad : Option Addr) (n cap : Nat) (zs : List Int) (hn : zs.length = n) (hl : n ≤ 1152921504606846976) (w : World) (hz : IsInts w ad zs) :
    Calls Tryd.prog 76 #[.slice ad n cap] w fun e w' => e = .returned (.bool (hashB zs)) ∧ w = w' := by
  by_cases h400 : n ≤ 400
  · have hni : (n : Int) ≤ 400 := by omega
    have e1 : hashB zs = allIn zs 0 4611686018427387903 := by rw [digs_in]; simp [hashB, hn, h400]
    rw [e1]
    have HN := Lib.hid hn
    clear e1 hn
    go_enter Tryd.func76, Tryd.ntmps76
    go_wp2_with fail
    refine (l1All_any _ _ _ zs _ _ HN.out hl _ hz).mono ?_
    rintro e w' ⟨rfl, rfl⟩
    go_wp2
    go_ret
    exact ⟨rfl, rfl⟩
  · have e1 : hashB zs = false := by simp [hashB, hn]; omega
    rw [e1]
    have hni : (400 : Int) < (n : Int) := by omega
    clear e1 hn
    go_enter Tryd.func76, Tryd.ntmps76
    go_wp2
    go_ret
    exact ⟨rfl, rfl⟩

theorem l4If_yes (ad : Option Addr) (n cap : Nat) (zs : List Int) (hn : zs.length = n) (hl : n ≤ 1152921504606846976) (hr : hashB zs = true) (w : World) (hz : IsInts w ad zs) :
    Calls Tryd.prog 61 #[.slice ad n cap] w fun e w' => e = .returned (.tuple #[.slice ad n cap, .bool true]) ∧ w = w' := by
  have HN := Lib.hid hn
  have HR := Lib.hid hr
  clear hn hr
  go_enter Tryd.func61, Tryd.ntmps61
  go_wp2_with fail
  refine (l4Record_any _ _ _ zs HN.out hl _ hz).mono ?_
  rw [HR.out]
  rintro e w' ⟨rfl, rfl⟩
  go_wp2
  go_ret2
  exact ⟨rfl, rfl⟩
theorem l4If_no (ad : Option Addr) (n cap : Nat) (zs : List Int) (hn : zs.length = n) (hl : n ≤ 1152921504606846976) (hr : hashB zs = false) (w : World) (hz : IsInts w ad zs) :
    Calls Tryd.prog 61 #[.slice ad n cap] w fun e w' => e = .returned (.tuple #[.slice none 0 0, .bool false]) ∧ w = w' := by
  have HN := Lib.hid hn
  have HR := Lib.hid hr
  clear hn hr
  go_enter Tryd.func61, Tryd.ntmps61
  go_wp2_with fail
  refine (l4Record_any _ _ _ zs HN.out hl _ hz).mono ?_
  rw [HR.out]
  rintro e w' ⟨rfl, rfl⟩
  go_wp2
  go_ret2
  exact ⟨rfl, rfl⟩

/-- What a list that may be no record is answered as. -/
def recL (zs : List Int) : List Int := if hashB zs then zs else []
theorem recL_yes {zs : List Int} (h : hashB zs = true) : recL zs = zs := by simp [recL, h]
theorem recL_no {zs : List Int} (h : hashB zs = false) : recL zs = [] := by simp [recL, h]
theorem recL_length (zs : List Int) : (recL zs).length ≤ 400 := by
  unfold recL; split
  · rename_i h; exact (hashB_true.1 h).1
  · simp

/-- A list in a row of one's own from block B on. -/
def PutOut (B : Nat) (w : World) (zs : List Int) (e : Ending) (w' : World) : Prop :=
  ∃ (va : Option Addr) (k vc : Nat), e = .returned (.slice va k vc) ∧ w'.ownsRow B 3 1 (.slice va k vc) k (zs.map (Value.int .i64)) ∧ Below B w w'
/-- The same, with a bool beside it. -/
def RecOut (B : Nat) (w : World) (zs : List Int) (ok : Bool) (e : Ending) (w' : World) : Prop :=
  ∃ (va : Option Addr) (k vc : Nat), e = .returned (.tuple #[.slice va k vc, .bool ok]) ∧ w'.ownsRow B 3 1 (.slice va k vc) k (zs.map (Value.int .i64)) ∧ Below B w w'
theorem recOut_nil (B : Nat) (w w' : World) (h : Below B w w') : RecOut B w [] false (.returned (.tuple #[.slice none 0 0, .bool false])) w' :=
  ⟨none, 0, 0, rfl, World.ownsRow_nil _ _ _ _, h⟩

set_option maxRecDepth 100000 in
set_option maxHeartbeats 1600000 in
theorem l4Put_any (B : Nat) (va : Option Addr) (k vc : Nat) (xs : List Int) (hk : k ≤ 1000000000) (ad : Option Addr) (n cap : Nat) (zs : List Int) (hn : zs.length = n) (hl : n ≤ 1000000000) (hnil : ad = none → cap = 0) (w : World) (hB : B ≤ w.heap.size)
    (hown : w.ownsRow B 3 1 (.slice va k vc) k (xs.map (Value.int .i64))) (hz : InB B w ad zs) :
    Calls Tryd.prog 95 #[.slice va k vc, .slice ad n cap] w (PutOut B w (xs ++ (n : Int) :: zs)) := by
  obtain ⟨i0, hi, hz0, hz1, hz2⟩ := info_parts Tryd.info3
  have HN := Lib.hid hn
  have HNIL := Lib.hid hnil
  have HO := Lib.hid hown
  have HZ := Lib.hid hz
  have hn0 : 0 ≤ (n : Int) := by omega
  clear hn hnil hown hz
  go_enter Tryd.func95, Tryd.ntmps95
  go_wp2_with (first
    | (at_builtin; refine wpList_append_ints rfl _ _ 24 rfl B 3 i0 Tryd.underlying24 hi hz0 hz1 hz2 _ (k + 1) (xs ++ [(n : Int)]) rfl HO1.out ad n cap zs rfl HN.out (HZ.out.below HB1.out).ints HNIL.out (by omega) (Nat.le_trans hB HB1.out.size) ?_; intro v'' w2 hown'' hgrow2; obtain ⟨va'', vc'', rfl⟩ := own_shape hown''; have HO2 := Lib.hid hown''; have HB2 := Lib.hid (HB1.out.grown hgrow2 (Nat.le_trans hB HB1.out.size) (fun q hq => (HO1.out.lt q hq).1)); clear hown'' hgrow2)
    | (at_builtin; refine wpList_append_ints rfl _ _ 24 rfl B 3 i0 Tryd.underlying24 hi hz0 hz1 hz2 _ k xs rfl (HO.out.alloc _) (some ⟨w.heap.size, 0, none⟩) 1 1 [(n : Int)] rfl rfl (ints_spot w _ rfl [(n : Int)] 3) (fun h => by cases h) (by omega) (Nat.le_trans hB (ba w _).size) ?_; intro v' w1 hown' hgrow; obtain ⟨va', vc', rfl⟩ := own_shape hown'; have HO1 := Lib.hid hown'; have HB1 := Lib.hid (((Below.refl B w).alloc hB _).grown hgrow (Nat.le_trans hB (ba w _).size) (fun q hq => (HO.out.lt q hq).1)); clear hown' hgrow))
  go_ret
  refine ⟨va'', _, vc'', rfl, ?_, HB2.out⟩
  simpa using HO2.out

end Go.Proofs.YtmiohdibbpckaaaDoor

