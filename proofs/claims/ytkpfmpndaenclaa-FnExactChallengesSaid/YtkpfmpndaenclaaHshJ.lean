/- Challenges of the program and of the reference. -/
import Derived.Test.YtkpfmpndaenclaaHshI
namespace Go.Proofs.Ytkpfmpndaenclaa
open Go.RowKit

/-! ### The plain facts -/
def chL (P Q G : Int) (s : ByteArray) (zs : List Int) (m : Nat) : List Int := (List.range m).map fun (k : Nat) => chX P Q G s (zs ++ [(k : Int)])
theorem chL_length (P Q G : Int) (s : ByteArray) (zs : List Int) (m : Nat) : (chL P Q G s zs m).length = m := by simp [chL]
theorem chL_drop {P Q G : Int} {s : ByteArray} {zs : List Int} {m k : Nat} (h : k < m) : (chL P Q G s zs m).drop k = chX P Q G s (zs ++ [(k : Int)]) :: (chL P Q G s zs m).drop (k + 1) := by
  rw [List.drop_eq_getElem_cons (by rw [chL_length]; exact h)]
  congr 1
  simp [chL]
theorem chL_take {P Q G : Int} {s : ByteArray} {zs : List Int} {m k : Nat} (h : k < m) : (chL P Q G s zs m).take (k + 1) = (chL P Q G s zs m).take k ++ [chX P Q G s (zs ++ [(k : Int)])] := by
  rw [List.take_succ_eq_append_getElem (by rw [chL_length]; exact h)]
  congr 2
  simp [chL]
def csOk (P Q G : Int) (s : ByteArray) (zs : List Int) (n : Int) : Bool := chB P Q G s zs 4 && inB n 0 100
def csV (P Q G : Int) (s : ByteArray) (zs : List Int) (n : Int) : List Int := if csOk P Q G s zs n then chL P Q G s zs n.toNat else []
theorem cs_off {P Q G : Int} {s : ByteArray} {zs : List Int} {n : Int} (h : csOk P Q G s zs n = false) : csV P Q G s zs n = [] := by simp [csV, h]
theorem csV_length {P Q G : Int} {s : ByteArray} {zs : List Int} {n : Int} : (csV P Q G s zs n).length ≤ 100 := by
  unfold csV
  split
  · rename_i h
    unfold csOk at h
    rw [Bool.and_eq_true, inB_true] at h
    rw [chL_length]; omega
  · simp
theorem chX_state (P Q G : Int) (s : ByteArray) (zs : List Int) (c : Int) : chX P Q G s (zs ++ [c]) =
    (2147483648 * hab 48271 (hfold 48271 (gst 48271 1 P Q G s (zs.length + 1)) zs) c + hab 69621 (hfold 69621 (gst 69621 2 P Q G s (zs.length + 1)) zs) c) % Q := by
  unfold chX
  have h := hlab_gst P Q G s (zs ++ [c])
  rw [show ((zs ++ [c]).length : Int) = zs.length + 1 by simp, hfold_append, hfold_append] at h
  rw [h]; rfl

/-! ### The reference -/
theorem l1Own_any (ad : Option Addr) (n cap : Nat) (zs : List Int) (hn : zs.length = n) (hl : n ≤ 1000000000) (hnil : ad = none → cap = 0) (w : World) (hz : IsInts w ad zs) :
    Calls Try.prog 119 #[.slice ad n cap] w (OwnOut w zs) := by
  obtain ⟨i0, hi, hz0, hz1, hz2⟩ := info_parts Try.info3
  have HN := Lib.hid hn
  have HNIL := Lib.hid hnil
  have hal := ba w (.cells #[] 3)
  have HZ := Lib.hid (hz.below hal (Nat.le_refl _))
  have HB := Lib.hid hal
  have HO := Lib.hid (own_lit w [] (by simp) 3)
  clear hn hnil hz hal
  go_enter Try.func119, Try.ntmps119
  go_wp2_with (at_builtin; refine wpList_append_ints rfl _ _ 36 rfl w.heap.size 3 i0 Try.underlying36 hi hz0 hz1 hz2 _ 0 [] rfl HO.out ad n cap zs rfl HN.out HZ.out HNIL.out (by omega) HB.out.size ?_)
  intro v' w1 hown' hgrow
  obtain ⟨va', vc', rfl⟩ := own_shape hown'
  have HO1 := Lib.hid hown'
  have HB1 := Lib.hid (HB.out.grown hgrow HB.out.size (fun q hq => (HO.out.lt q hq).1))
  clear hown' hgrow
  go_wp2
  go_ret
  have h := HO1.out
  refine ⟨va', vc', ?_, ?_, HB1.out⟩
  · rw [HN.out]; simp
  · rw [HN.out]; simpa using h

set_option maxRecDepth 100000 in
set_option maxHeartbeats 6400000 in
theorem hChallenges_any (P Q G : Int) (hP : 0 ≤ P ∧ P ≤ 2000000000) (hQ : 2 ≤ Q ∧ Q ≤ 2000000000) (hG : 0 ≤ G ∧ G ≤ 2000000000) (s : ByteArray) (hs : s.size ≤ 1000000) (ad : Option Addr) (n cap : Nat) (zs : List Int) (hn : zs.length = n) (hl : n ≤ 1000000) (hnil : ad = none → cap = 0) (hd : ∀ z ∈ zs, 0 ≤ z ∧ z ≤ 4611686018427387903) (m : Nat) (hm : m ≤ 100) (w : World) (hz : IsInts w ad zs) :
    Calls Try.prog 97 #[gv P Q G, .string s, .slice ad n cap, .int .i64 m] w (OwnOut w (chL P Q G s zs m)) := by
  obtain ⟨i0, hi, hz0, hz1, hz2⟩ := info_parts Try.info3
  have hal := ba w (.cells #[.int .i64 P, .int .i64 Q, .int .i64 G] 24)
  have HN := Lib.hid hn
  have HNIL := Lib.hid hnil
  have HD := Lib.hid hd
  have HV := Lib.hid (gr_new w P Q G 24)
  have HZ := Lib.hid (hz.below hal (Nat.le_refl _))
  have HB := Lib.hid hal
  have hzl : ∀ a, ad = some a → zs ≠ [] → a.block < w.heap.size := fun a ha h0 => by
    rcases hz with h | ⟨b, off, rfl, hb, _⟩
    · exact absurd h h0
    · cases ha; exact hb
  have HS1 := Lib.hid (show (w.alloc (.cells #[.int .i64 P, .int .i64 Q, .int .i64 G] 24)).heap.size = w.heap.size + 1 by simp)
  clear hn hnil hd hal hzl
  go_enter Try.func97, Try.ntmps97
  go_wp2
  go_loopw [9, 10] (fun V K wr => ∃ (k : Nat) (va : Option Addr) (vc : Nat), k ≤ m ∧ K = .int .i64 k ∧ V = .slice va k vc ∧ GR wr w.heap.size P Q G ∧ wr.ownsRow (w.heap.size + 1) 3 1 (.slice va k vc) k (((chL P Q G s zs m).take k).map (Value.int .i64)) ∧ Below w.heap.size w wr) (fun _ K _ => m - (intOf K).toNat)
  case atStart => exact ⟨0, none, 0, Nat.zero_le _, rfl, rfl, HV.out, World.ownsRow_nil _ _ _ _, HB.out⟩
  case round =>
    obtain ⟨k, va, vc, hk, rfl, rfl, hgr, hown, hbel⟩ := hrel
    have HGr := Lib.hid hgr
    have HO := Lib.hid hown
    have HBr := Lib.hid hbel
    have HZr := Lib.hid (hz.below hbel (Nat.le_refl _))
    have hwr : w.heap.size < wr.heap.size := hgr.lt
    clear hown hbel
    by_cases hkm : k < m
    · have hki : (k : Int) < (m : Int) := by omega
      have HDK := Lib.hid (show ∀ z ∈ zs ++ [(k : Int)], 0 ≤ z ∧ z ≤ 4611686018427387903 from by
        intro z hzm
        rcases List.mem_append.1 hzm with h | h
        · exact HD.out z h
        · simp only [List.mem_cons, List.not_mem_nil, or_false] at h
          omega)
      have HT := Lib.hid (chL_take (P := P) (Q := Q) (G := G) (s := s) (zs := zs) hkm)
      have hnl : zs.length ≤ 1000000 := by have := HN.out; omega
      obtain ⟨c0, c1, c2⟩ := hgr
      go_wp2_with fail
      go_region_held3 (fun w' => w'.cell? ⟨w.heap.size, 0, none⟩ = some (.int .i64 P) ∧ w'.cell? ⟨w.heap.size, 1, none⟩ = some (.int .i64 Q) ∧ w'.cell? ⟨w.heap.size, 2, none⟩ = some (.int .i64 G)) (first | with_reducible exact ⟨x0, x1, x2⟩ | with_reducible exact gr_alc HGa.out _ | with_reducible exact ⟨y0, y1, y2⟩ | with_reducible exact gr_alc HGc.out _ | with_reducible exact ⟨z0, z1, z2⟩ | with_reducible exact ⟨u0, u1, u2⟩ | with_reducible exact gr_alcd HGr.out _ | exact ⟨c0, c1, c2⟩) ((first
        | (go_at_call 119; refine (l1Own_any ad n cap zs HN.out (by omega) HNIL.out _ (by first | (with_reducible exact ints_drew HZr.out) | exact ints_drew (HZr.out.below (ba _ _) (Nat.le_refl _)))).mono ?_; rintro e wa ⟨ga, gc, rfl, howa, hba⟩; first | (have hbr : Below wr.drew.heap.size wr.drew wa := (by with_reducible exact hba); have HBa := Lib.hid (show Below wr.heap.size wr wa from bt ((Below.refl _ _).drew) hba); have HOa := Lib.hid (own_base (base' := wr.heap.size) howa (Nat.le_refl _)); have HGa := Lib.hid (HGr.out.below HBa.out); obtain ⟨x0, x1, x2⟩ := HGa.out; clear hbr hba howa) | (have hala := ba wr (.cells #[.int .i64 (k : Int)] 3); have HBa := Lib.hid (show Below wr.heap.size wr wa from bt hala.drew hba); have HOa := Lib.hid (own_base (base' := wr.heap.size) howa hala.drew.size); have HGa := Lib.hid (HGr.out.below HBa.out); have HLa := Lib.hid (IsInts.below (ints_drew (ints_spot wr _ rfl [(k : Int)] 3)) hba (Nat.le_refl _)); obtain ⟨x0, x1, x2⟩ := HGa.out; clear hala hba howa))
        | (have HLx := HLa; refine step_append_ints (by rfl) (.tmp 20) (.tmp 22) _ (by rfl) wr.heap.size 3 i0 Try.underlying36 hi hz0 hz1 hz2 _ zs.length zs (by rfl) HOa.out (some ⟨wr.heap.size, 0, none⟩) 1 1 [(k : Int)] (by rfl) rfl HLa.out (fun h => by cases h) (by omega) HBa.out.size ?_; intro v' wb hownb hgrowb; obtain ⟨vb, cb, rfl⟩ := own_shape hownb; have HOb := Lib.hid hownb; have HBb := Lib.hid (HBa.out.grown hgrowb HBa.out.size (fun q hq => (HOa.out.lt q hq).1)); have HGb := Lib.hid (HGr.out.below HBb.out); obtain ⟨y0, y1, y2⟩ := HGb.out; clear hownb hgrowb)
        | (refine step_append_ints (by rfl) (.tmp 20) (.tmp 22) _ (by rfl) wr.heap.size 3 i0 Try.underlying36 hi hz0 hz1 hz2 _ zs.length zs (by rfl) (HOa.out.alloc _) (some ⟨wa.heap.size, 0, none⟩) 1 1 [(k : Int)] (by rfl) rfl (ints_spot wa _ rfl [(k : Int)] 3) (fun h => by cases h) (by omega) (Nat.le_trans HBa.out.size (ba _ _).size) ?_; intro v' wb hownb hgrowb; obtain ⟨vb, cb, rfl⟩ := own_shape hownb; have HOb := Lib.hid hownb; have halb := ba wa (.cells #[.int .i64 (k : Int)] 3); have HBb := Lib.hid ((bt HBa.out (halb.mono (Nat.le_refl _))).grown hgrowb (bt HBa.out halb).size (fun q hq => (HOa.out.lt q hq).1)); have HGb := Lib.hid (HGr.out.below HBb.out); obtain ⟨y0, y1, y2⟩ := HGb.out; clear hownb hgrowb halb)
        | (go_at_call 94; refine (hChallenge_any P Q G hP hQ hG s hs vb (zs.length + 1) cb (zs ++ [(k : Int)]) (by simp) (by omega) (own_ints HOb.out).2.2 HDK.out _ (own_ints HOb.out).1).mono ?_; rintro e wc ⟨rfl, hbc⟩; have HBc := Lib.hid (show Below wr.heap.size wr wc from bt HBb.out hbc); have HGc := Lib.hid (HGr.out.below HBc.out); have HOc := Lib.hid (own_below HO.out HBc.out); obtain ⟨z0, z1, z2⟩ := HGc.out; clear hbc)
        | (refine step_append_ints (by rfl) (.tmp 16) (.tmp 25) _ (by rfl) (w.heap.size + 1) 3 i0 Try.underlying36 hi hz0 hz1 hz2 _ k ((chL P Q G s zs m).take k) (by rfl) (HOc.out.alloc _) (some ⟨wc.heap.size, 0, none⟩) 1 1 [chX P Q G s (zs ++ [(k : Int)])] (by rfl) rfl (ints_spot wc _ rfl [chX P Q G s (zs ++ [(k : Int)])] 3) (fun h => by cases h) (by omega) (Nat.le_trans (Nat.succ_le_of_lt hwr) (bt HBc.out (ba _ _)).size) ?_; intro v'' wd hownd hgrowd; obtain ⟨vd, cd, rfl⟩ := own_shape hownd; have HOd := Lib.hid hownd; have hald := ba wc (.cells #[.int .i64 (chX P Q G s (zs ++ [(k : Int)]))] 3); have HGd := Lib.hid (gr_grown (HGc.out.below hald) hgrowd (fun e => by have h := (HOc.out.lt _ e.symm).1; omega)); have HBd := Lib.hid ((HBr.out.trans ((bt HBc.out hald).mono HBr.out.size)).grown hgrowd (Nat.le_trans HBr.out.size (bt HBc.out hald).size) (fun q hq => Nat.le_trans (Nat.le_succ _) (HOc.out.lt q hq).1)); obtain ⟨u0, u1, u2⟩ := HGd.out; clear hownd hgrowd hald)))
      all_goals (
        clear c0 c1 c2
        go_wp2
        go_roundw
        case rel => exact ⟨k + 1, vd, cd, by omega, by go_num, rfl, HGd.out, by rw [HT.out]; simpa using HOd.out, HBd.out⟩
        case measure => simp only [intOf]; omega)
    · have hki : (m : Int) ≤ (k : Int) := by omega
      obtain rfl : k = m := by omega
      clear hgr
      go_wp2
      go_ret
      have h3 := HO.out
      have hfl : (chL P Q G s zs k).length = k := chL_length _ _ _ _ _ _
      rw [List.take_of_length_le (by rw [hfl]; exact Nat.le_refl _)] at h3
      refine ⟨va, vc, ?_, ?_, HBr.out⟩
      · rw [hfl]; rfl
      · rw [hfl]; exact own_base h3 (Nat.le_succ _)

end Go.Proofs.Ytkpfmpndaenclaa
