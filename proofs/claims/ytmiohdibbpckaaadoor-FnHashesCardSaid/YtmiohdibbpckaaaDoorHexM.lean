/- The law FnHashes. -/
import Derived.Test.YtmiohdibbpckaaaDoorHexL
import Derived.Test.YtmiohdibbpckaaaDoorHexE
import Derived.Test.YtmiohdibbpckaaaDoorHshG
namespace Go.Proofs.YtmiohdibbpckaaaDoor
open Go.RowKit

theorem sameInts_same (ad ad' : Option Addr) (n n' cap cap' : Nat) (zs : List Int) (hn : zs.length = n) (hn' : zs.length = n') (hl : n ≤ 1152921504606846976) (w : World) (hz : IsInts w ad zs) (hz' : IsInts w ad' zs) :
    Calls Tryd.prog 15 #[.slice ad n cap, .slice ad' n' cap'] w fun e w' => e = .returned (.bool true) ∧ Below w.heap.size w w' := by
  obtain rfl : n = n' := by omega
  have HN := Lib.hid hn
  clear hn hn'
  go_enter Tryd.func15, Tryd.ntmps15
  go_wp2
  go_loopw [13] (fun K wr => ∃ k : Nat, k ≤ n ∧ K = .int .i64 k ∧ Below w.heap.size w wr) (fun K _ => n - (intOf K).toNat)
  case atStart => exact ⟨0, Nat.zero_le _, rfl, Below.refl _ _⟩
  case round =>
    obtain ⟨k, hk, rfl, hbel⟩ := hrel
    by_cases hkn : k < n
    · obtain ⟨b, off, z, rfl, hb, hc, hd⟩ := (below_ints hz hbel).at (k := k) (by have := HN.out; omega)
      obtain ⟨b', off', z', rfl, hb', hc', hd'⟩ := (below_ints hz' hbel).at (k := k) (by have := HN.out; omega)
      obtain rfl : z = z' := by rw [hd] at hd'; exact (List.cons.inj hd').1
      have HB := Lib.hid hbel
      clear hbel hd hd'
      go_wp2
      go_quiet (fail)
      go_wp2
      go_roundw
      case rel => exact ⟨k + 1, by omega, by go_num, (by first | exact below_drewN HB.out _ | exact bt HB.out (below_drewN _ _))⟩
      case measure => simp only [intOf]; omega
    · have HB := Lib.hid hbel
      clear hbel
      go_wp2
      go_ret
      exact ⟨rfl, HB.out⟩

theorem big_yes (a0 a1 : Option Addr) (len0 len1 cap0 cap1 : Nat) (w : World) (s0 : len0 ≤ 140737488351232) (h : 1048576 < (len0 : Int) + len1) :
    Calls Tryd.prog 6 #[.slice a0 len0 cap0, .slice a1 len1 cap1] w fun e w' => e = .returned (.bool true) ∧ w = w' := by
  by_cases h0 : 1048576 < (len0 : Int)
  · go_enter Tryd.func6, Tryd.ntmps6
    go_wp2
    go_ret
    exact ⟨rfl, rfl⟩
  · have h1 : (1048576 : Int) - len0 < len1 := by omega
    go_enter Tryd.func6, Tryd.ntmps6
    go_wp2
    go_ret
    exact ⟨rfl, rfl⟩
theorem big_no (a0 a1 : Option Addr) (len0 len1 cap0 cap1 : Nat) (w : World) (h : (len0 : Int) + len1 ≤ 1048576) :
    Calls Tryd.prog 6 #[.slice a0 len0 cap0, .slice a1 len1 cap1] w fun e w' => e = .returned (.bool false) ∧ w = w' := by
  have h0 : ¬ 1048576 < (len0 : Int) := by omega
  have h1 : ¬ (1048576 : Int) - len0 < len1 := by omega
  go_enter Tryd.func6, Tryd.ntmps6
  go_wp2
  go_ret
  exact ⟨rfl, rfl⟩

/-- A digest's text is read back. -/
theorem back_facts {zs : List Int} (h : hashB zs = true) : digB (hashV zs) = true ∧ (hexS 16 (hashV zs).toNat).size = 16 ∧ pdB (hexS 16 (hashV zs).toNat) = true ∧ pdV (hexS 16 (hashV zs).toNat) = hashV zs := by
  have hv : hashV zs = hlist zs := by simp [hashV, h]
  obtain ⟨h0, h1⟩ := hlist_nn zs
  rw [← hv] at h0 h1
  obtain ⟨p1, _, p3⟩ := pd_yes (s := hexS 16 (hashV zs).toNat) (n := (hashV zs).toNat) (by omega) rfl
  exact ⟨digB_true.2 ⟨h0, h1⟩, hexS_size _ _, p1, by rw [p3]; omega⟩

theorem own_lit_at (w : World) (b : Nat) (hb : w.heap.size = b) (zs : List Int) (hl : zs.length ≤ 1000000) (t : TypeId) : (w.alloc (.cells (zs.map (Value.int .i64)).toArray t)).ownsRow b t 1 (.slice (some ⟨b, 0, none⟩) zs.length zs.length) zs.length (zs.map (Value.int .i64)) := by
  subst hb; exact own_lit w zs hl t

/-- The challenges of a list. -/
theorem cs_facts {P Q G x : Int} {s : ByteArray} {zs : List Int} (h : csOk P Q G s zs x = true) : ∃ m : Nat, m ≤ 100 ∧ csV P Q G s zs x = chL P Q G s zs m ∧ (2 ≤ Q ∧ Q ≤ 2000000000) ∧ ∀ k, k < m → chB P Q G s (zs ++ [(k : Int)]) 3 = true ∧ chV P Q G s (zs ++ [(k : Int)]) = chX P Q G s (zs ++ [(k : Int)]) ∧ 0 ≤ chX P Q G s (zs ++ [(k : Int)]) ∧ chX P Q G s (zs ++ [(k : Int)]) < Q := by
  have h0 := h
  unfold csOk at h
  rw [Bool.and_eq_true, inB_true, chB_true] at h
  obtain ⟨⟨hg, hl, hd⟩, x0, x1⟩ := h
  obtain ⟨_, hQ, _⟩ := good_rng hg
  refine ⟨x.toNat, by omega, by simp [csV, h0], hQ, fun k hk => ?_⟩
  have hb : chB P Q G s (zs ++ [(k : Int)]) 3 = true := by
    rw [chB_true]
    refine ⟨hg, ?_, digsB_true.2 fun z hz => ?_⟩
    · rw [labB_true] at hl ⊢
      rw [List.length_append]
      simp
      omega
    · rcases List.mem_append.1 hz with h | h
      · exact digsB_true.1 hd z h
      · simp at h; omega
  refine ⟨hb, by simp [chV, hb], ?_, ?_⟩
  · unfold chX; exact Int.emod_nonneg _ (by omega)
  · unfold chX; exact Int.emod_lt_of_pos _ (by omega)

set_option maxRecDepth 100000 in
set_option maxHeartbeats 3200000 in
theorem FnHashes_true (a0 a1 : Option Addr) (len0 len1 cap0 cap1 : Nat) (w : World) (s0 : len0 ≤ 140737488351232) (hb0 : IsB w a0 len0) (hb1 : IsB w a1 len1) (hE : ErrAt w) (hT : TzAt w) :
    Calls Tryd.prog 3 #[.slice a0 len0 cap0, .slice a1 len1 cap1] w fun e w' => e = .returned (.bool true) ∧ Below w.heap.size w w' := by
  by_cases hbig : 1048576 < (len0 : Int) + len1
  · go_enter Tryd.func3, Tryd.ntmps3
    go_wp2_with fail
    refine (big_yes _ _ _ _ _ _ _ s0 hbig).mono ?_
    rintro e w' ⟨rfl, rfl⟩
    go_wp2
    go_ret
    exact ⟨rfl, Below.refl _ _⟩
  have HBIG := Lib.hid (show (len0 : Int) + len1 ≤ 1048576 from by omega)
  clear hbig
  have HB0 := Lib.hid hb0
  have HB1 := Lib.hid hb1
  have HE := Lib.hid hE
  have HT := Lib.hid hT
  clear hb0 hb1 hE hT
  obtain ⟨i0, hi, hz0, hz1, hz2⟩ := info_parts Tryd.info3
  go_enter Tryd.func3, Tryd.ntmps3
  go_wp2_with fail
  refine (big_no _ _ _ _ _ _ _ HBIG.out).mono ?_
  rintro e w' ⟨rfl, rfl⟩
  go_wp2_with fail
  refine (drawHashInts_any _ _ _ _ HB0.out).mono ?_
  rintro e v1 ⟨al, nl, cl, zs, rfl, hzl, hz, hn401, hv1⟩
  have HLz := Lib.hid hzl
  have HZ1 := Lib.hid hz
  have HV1 := Lib.hid hv1
  clear hv1 hz hzl
  go_wp2_with fail
  refine (hashInts_any _ _ _ zs HLz.out (by omega) _ HZ1.out).mono ?_
  rintro e v2 ⟨rfl, hv2⟩
  have HV2 := Lib.hid (bt HV1.out hv2)
  have HZ2 := Lib.hid (HZ1.out.below hv2 (Nat.le_refl _))
  clear hv2
  go_wp2_with fail
  refine (sHashInts_any _ _ _ zs HLz.out (by omega) _ HZ2.out).mono ?_
  rintro e v3 ⟨rfl, hv3⟩
  have HV3 := Lib.hid (bt HV2.out hv3)
  clear hv3
  cases hh : hashB zs
  case' true =>
    obtain ⟨f1, f2, f3, f4⟩ := back_facts hh
    have HF1 := Lib.hid f1
    have HF3 := Lib.hid f3
    have HF4 := Lib.hid f4
    have f2i : ((hexS 16 (hashV zs).toNat).size : Int) = 16 := by omega
    clear f1 f3 f4
    have c1 := digestText_any (hashV zs) v3 (HT.out.below HV3.out)
    have c2 := fun v h1 h2 => parseDigest_any (hexS 16 (hashV zs).toNat) (by omega) v h1 h2
    rw [HF1.out, if_pos rfl] at c1
    rw [HF3.out, HF4.out] at c2
    generalize hexS 16 (hashV zs).toNat = q at c1 c2 f2 f2i
    go_wp2_with fail
    refine c1.mono ?_
    rintro e v4 ⟨rfl, hv4⟩
    have HV4 := Lib.hid (bt HV3.out hv4)
    clear hv4 c1 HV3
    go_wp2_with fail
    refine (c2 _ (HE.out.below HV4.out) (HT.out.below HV4.out)).mono ?_
    rintro e v3 ⟨rfl, hv3⟩
    have HV3 := Lib.hid (bt HV4.out hv3)
    clear hv3 c2 HV4
  all_goals (
    go_wp2_with fail
    refine (drawChallenges_any _ _ _ _ (HB1.out.below HV3.out)).mono ?_
    rintro e v5 ⟨P, Q, G, x, s, al', nl', cl', zs', rfl, hd, hx, hs, hzl', hz', hnil', hn401', hv5⟩
    have hal5 := ba v5 (.cells #[.int .i64 P, .int .i64 Q, .int .i64 G] 32)
    have HV5 := Lib.hid (bt (bt HV3.out hv5) hal5)
    have HZ5 := Lib.hid (hz'.below hal5 (Nat.le_refl _))
    have HL5 := Lib.hid hzl'
    have HNIL := Lib.hid hnil'
    have HR5 := Lib.hid (gr_new v5 P Q G 32)
    clear hd hx hz' hzl' hnil' hv5 hal5
    have C6 := Lib.hid (fun v hz => challenges_any P Q G s (by omega) al' nl' cl' zs' HL5.out (by omega) x v hz)
    have C7 := Lib.hid (fun v hz => sChallenges_any P Q G s (by omega) al' nl' cl' zs' HL5.out (by omega) HNIL.out x v hz)
    have HF := Lib.hid (fun h => cs_facts (P := P) (Q := Q) (G := G) (s := s) (zs := zs') (x := x) h)
    have HF0 := Lib.hid (fun h => cs_off (P := P) (Q := Q) (G := G) (s := s) (zs := zs') (n := x) h)
    have HLE := Lib.hid (csV_length (P := P) (Q := Q) (G := G) (s := s) (zs := zs') (n := x))
    generalize csOk P Q G s zs' x = ok at C6 C7 HF HF0
    generalize csV P Q G s zs' x = L at C6 C7 HF HF0 HLE
    obtain ⟨c0, c1, c2⟩ := HR5.out
    go_wp2_with fail
    refine (C6.out _ HZ5.out).mono ?_
    rintro e v6 ⟨va, vn, vc, rfl, hown6, hv6⟩
    have HV6 := Lib.hid (bt HV5.out hv6)
    have HZ6 := Lib.hid (HZ5.out.below hv6 (Nat.le_refl _))
    have HR6 := Lib.hid (HR5.out.below hv6)
    have HO6 := Lib.hid hown6
    clear hv6 hown6 c0 c1 c2
    obtain ⟨c0, c1, c2⟩ := HR6.out
    go_wp2_with fail
    refine (C7.out _ HZ6.out).mono ?_
    rintro e v7 ⟨ua, un, uc, rfl, hown7, hv7⟩
    have HV7 := Lib.hid (bt HV6.out hv7)
    have HZ7 := Lib.hid (HZ6.out.below hv7 (Nat.le_refl _))
    have HR7 := Lib.hid (HR6.out.below hv7)
    obtain ⟨hi7, hl7, _⟩ := own_ints hown7
    obtain ⟨hi6, hl6, _⟩ := own_ints HO6.out
    have HI7 := Lib.hid hi7
    have HI6 := Lib.hid (hi6.below hv7 (Nat.le_refl _))
    have HL6 := Lib.hid hl6
    have HL7 := Lib.hid hl7
    have hle := HLE.out
    have hun : un ≤ 100 := by omega
    obtain rfl : un = vn := by omega
    clear hv7 hown7 hi7 hi6 hl6 hl7 hle c0 c1 c2 HO6 C6 C7
    have hvn100 : un ≤ 1152921504606846976 := by omega
    have hS := sameInts_same va ua un un vc uc L HL6.out HL7.out hvn100 v7 HI6.out HI7.out
    clear hvn100
    go_wp2_with fail
    refine hS.mono ?_
    clear hS
    rintro e v8 ⟨rfl, hv8⟩
    have HV8 := Lib.hid (bt HV7.out hv8)
    have HZ8 := Lib.hid (HZ7.out.below hv8 (Nat.le_refl _))
    have HR8 := Lib.hid (HR7.out.below hv8)
    have HI8 := Lib.hid (HI7.out.below hv8 (Nat.le_refl _))
    clear hv8
    go_wp2
    go_loopw [110] (fun K wr => ∃ k : Nat, k ≤ un ∧ K = .int .i64 k ∧ Below v8.heap.size v8 wr) (fun K _ => un - (intOf K).toNat)
    case atStart => exact ⟨0, Nat.zero_le _, rfl, Below.refl _ _⟩
    case round =>
      obtain ⟨k, hk, rfl, hbel⟩ := hrel
      have HBr := Lib.hid hbel
      have HRr := Lib.hid (HR8.out.below hbel)
      have HZr := Lib.hid (HZ8.out.below hbel (Nat.le_refl _))
      by_cases hkn : k < un
      · have hki : (k : Int) < (un : Int) := by omega
        obtain ⟨b, off, z, rfl, hb, hc, hd⟩ := (HI8.out.below hbel (Nat.le_refl _)).at (k := k) (by have := HL7.out; omega)
        have hok : ok = true := by
          cases ok with
          | true => rfl
          | false => have := HF0.out rfl; have := HL7.out; subst L; simp at this; omega
        obtain ⟨m, hm100, hLm, ⟨hQ0, hQ1⟩, hall⟩ := HF.out hok
        have hmu : m = un := by have := HL7.out; rw [hLm, chL_length] at this; exact this
        obtain ⟨k1, k2, k3, k4⟩ := hall k (by omega)
        have hz : chX P Q G s (zs' ++ [(k : Int)]) = z := by
          rw [hLm, chL_drop (by omega)] at hd
          exact (List.cons.inj hd).1
        rw [hz] at k2 k3 k4
        have CH := Lib.hid (fun (ad : Option Addr) (n cap : Nat) (hn : (zs' ++ [(k : Int)]).length = n) v h => challenge_any P Q G s (by omega) ad n cap (zs' ++ [(k : Int)]) hn (by have := HL5.out; rw [← hn]; simp; omega) v h)
        rw [k1, k2] at CH
        obtain ⟨c0, c1, c2⟩ := HRr.out
        clear hbel hd hLm hall hz k1 k2 hmu hok
        have HKN := Lib.hid hkn
        have q1 : ¬ z < 0 := by omega
        have q2 : ¬ Q ≤ z := by omega
        have HNL4 := Lib.hid hn401'
        have HUN := Lib.hid hun
        clear hn401 hs hn401' hm100 hQ0 hQ1 s0 hk k3 k4 hun hkn
        have HLn := Lib.hid (show zs'.length = nl' from HL5.out)
        have OA := Lib.hid (own_lit wr [] (by simp) 3)
        have OB := Lib.hid (OA.out.alloc (.cells #[.int .i64 (k : Int)] 3))
        have OC := Lib.hid (own_base (base' := wr.heap.size) (own_lit_at (wr.alloc (.cells #[.int .i64 (k : Int)] 3)) (wr.heap.size + 1) (by simp) [] (by simp) 3) (Nat.le_succ _))
        have YB := Lib.hid (ints_spot (wr.alloc (.cells #[] 3)) (wr.heap.size + 1) (by simp) [(k : Int)] 3)
        have hy := ints_spot wr wr.heap.size rfl [(k : Int)] 3
        have hl0 := ba wr (.cells #[] 3)
        have hl1 := ba wr (.cells #[.int .i64 (k : Int)] 3)
        have hl01 := bt hl0 (ba (wr.alloc (.cells #[] 3)) (.cells #[.int .i64 (k : Int)] 3))
        have hl10 := bt hl1 (ba (wr.alloc (.cells #[.int .i64 (k : Int)] 3)) (.cells #[] 3))
        have YC := Lib.hid (hy.below (ba (wr.alloc (.cells #[.int .i64 (k : Int)] 3)) (.cells #[] 3)) (Nat.le_refl _))
        have ZA := Lib.hid (HZr.out.below hl0 (Nat.le_refl _))
        have ZB := Lib.hid (HZr.out.below hl01 (Nat.le_refl _))
        have ZC := Lib.hid (HZr.out.below hl10 (Nat.le_refl _))
        have BA := Lib.hid hl0
        have BB := Lib.hid hl01
        have BC := Lib.hid hl10
        have HRA := Lib.hid (HRr.out.below hl0)
        have HRB := Lib.hid (HRr.out.below hl1)
        have YBd := Lib.hid (show IsInts ((wr.alloc (.cells #[] 3)).alloc (.cells #[.int .i64 (k : Int)] 3)).drew (some ⟨wr.heap.size + 1, 0, none⟩) [(k : Int)] from ints_drew YB.out)
        have YCd := Lib.hid (show IsInts ((wr.alloc (.cells #[.int .i64 (k : Int)] 3)).alloc (.cells #[] 3)).drew (some ⟨wr.heap.size, 0, none⟩) [(k : Int)] from ints_drew YC.out)
        clear hy hl0 hl1 hl01 hl10
        go_wp2_with fail
        go_region_held3 (fun w' => w'.cell? ⟨v5.heap.size, 0, none⟩ = some (.int .i64 P) ∧ w'.cell? ⟨v5.heap.size, 1, none⟩ = some (.int .i64 Q) ∧ w'.cell? ⟨v5.heap.size, 2, none⟩ = some (.int .i64 G)) (first | with_reducible exact ⟨x0, x1, x2⟩ | with_reducible exact ⟨y0, y1, y2⟩ | with_reducible exact ⟨z0, z1, z2⟩ | with_reducible exact gr_alc HRa.out _ | with_reducible exact gr_alc HRb.out _ | with_reducible exact gr_alcd HRr.out _ | with_reducible exact gr_alcd HRA.out _ | with_reducible exact gr_alcd HRB.out _ | exact ⟨c0, c1, c2⟩) ((first
          | ((go_at_call 16; refine (CH.out vb _ cb (by have := HLn.out; simp; omega) _ (own_ints HOb.out).1).mono ?_; rintro e wc ⟨rfl, hbc⟩; have HBc := Lib.hid (show Below wr.heap.size wr wc from bt HBb.out hbc); have HRc := Lib.hid (HRr.out.below HBc.out); obtain ⟨z0, z1, z2⟩ := HRc.out; clear hbc))
          | ((refine step_append_ints (by rfl) (.tmp 126) (.tmp 127) _ (by rfl) wr.heap.size 3 i0 Tryd.underlying24 hi hz0 hz1 hz2 _ 0 [] (by rfl) OA.out al' nl' cl' zs' (by rfl) HLn.out ZA.out HNIL.out (by have := HNL4.out; omega) BA.out.size ?_; intro v' wa howa hgra; rw [Nat.zero_add] at howa; obtain ⟨ga, gc, rfl⟩ := own_shape howa; have HOa := Lib.hid (show wa.ownsRow wr.heap.size 3 1 (.slice ga nl' gc) nl' (zs'.map (Value.int .i64)) from howa); have HBa := Lib.hid (show Below wr.heap.size wr wa from (BA.out.drew).grown hgra BA.out.drew.size (fun q hq => (OA.out.lt q hq).1)); have HRa := Lib.hid (HRr.out.below HBa.out); obtain ⟨x0, x1, x2⟩ := HRa.out; clear howa hgra))
          | ((refine step_append_ints (by rfl) (.tmp 126) (.tmp 127) _ (by rfl) wr.heap.size 3 i0 Tryd.underlying24 hi hz0 hz1 hz2 _ 0 [] (by rfl) OB.out al' nl' cl' zs' (by rfl) HLn.out ZB.out HNIL.out (by have := HNL4.out; omega) BB.out.size ?_; intro v' wa howa hgra; rw [Nat.zero_add] at howa; obtain ⟨ga, gc, rfl⟩ := own_shape howa; have HOa := Lib.hid (show wa.ownsRow wr.heap.size 3 1 (.slice ga nl' gc) nl' (zs'.map (Value.int .i64)) from howa); have HBa := Lib.hid (show Below wr.heap.size wr wa from (BB.out.drew).grown hgra BB.out.drew.size (fun q hq => (OB.out.lt q hq).1)); have HRa := Lib.hid (HRr.out.below HBa.out); obtain ⟨x0, x1, x2⟩ := HRa.out; have HLa := Lib.hid (YBd.out.grown hgra (fun a ha => by cases ha; simp [Value.ownBlock])); clear howa hgra))
          | ((refine step_append_ints (by rfl) (.tmp 126) (.tmp 127) _ (by rfl) wr.heap.size 3 i0 Tryd.underlying24 hi hz0 hz1 hz2 _ 0 [] (by rfl) OC.out al' nl' cl' zs' (by rfl) HLn.out ZC.out HNIL.out (by have := HNL4.out; omega) BC.out.size ?_; intro v' wa howa hgra; rw [Nat.zero_add] at howa; obtain ⟨ga, gc, rfl⟩ := own_shape howa; have HOa := Lib.hid (show wa.ownsRow wr.heap.size 3 1 (.slice ga nl' gc) nl' (zs'.map (Value.int .i64)) from howa); have HBa := Lib.hid (show Below wr.heap.size wr wa from (BC.out.drew).grown hgra BC.out.drew.size (fun q hq => (OC.out.lt q hq).1)); have HRa := Lib.hid (HRr.out.below HBa.out); obtain ⟨x0, x1, x2⟩ := HRa.out; have HLa := Lib.hid (YCd.out.grown hgra (fun a ha => by cases ha; simp [Value.ownBlock])); clear howa hgra))
          | ((have HLx := HLa; refine step_append_ints (by rfl) (.tmp 128) (.tmp 130) _ (by rfl) wr.heap.size 3 i0 Tryd.underlying24 hi hz0 hz1 hz2 _ nl' zs' (by rfl) HOa.out _ 1 1 [(k : Int)] (by rfl) rfl HLa.out (fun h => by cases h) (by have := HNL4.out; omega) HBa.out.size ?_; intro v' wb howb hgrb; obtain ⟨vb, cb, rfl⟩ := own_shape howb; have HOb := Lib.hid howb; have HBb := Lib.hid (show Below wr.heap.size wr wb from HBa.out.grown hgrb HBa.out.size (fun q hq => (HOa.out.lt q hq).1)); have HRb := Lib.hid (HRr.out.below HBb.out); obtain ⟨y0, y1, y2⟩ := HRb.out; clear howb hgrb))
          | ((refine step_append_ints (by rfl) (.tmp 128) (.tmp 130) _ (by rfl) wr.heap.size 3 i0 Tryd.underlying24 hi hz0 hz1 hz2 _ nl' zs' (by rfl) (HOa.out.alloc _) (some ⟨wa.heap.size, 0, none⟩) 1 1 [(k : Int)] (by rfl) rfl (ints_spot wa _ rfl [(k : Int)] 3) (fun h => by cases h) (by have := HNL4.out; omega) (Nat.le_trans HBa.out.size (ba wa (.cells #[.int .i64 (k : Int)] 3)).size) ?_; intro v' wb howb hgrb; obtain ⟨vb, cb, rfl⟩ := own_shape howb; have HOb := Lib.hid howb; have HBb := Lib.hid (show Below wr.heap.size wr wb from (bt HBa.out (ba wa (.cells #[.int .i64 (k : Int)] 3))).grown hgrb (bt HBa.out (ba wa (.cells #[.int .i64 (k : Int)] 3))).size (fun q hq => (HOa.out.lt q hq).1)); have HRb := Lib.hid (HRr.out.below HBb.out); obtain ⟨y0, y1, y2⟩ := HRb.out; clear howb hgrb))
          | fail))
        all_goals (
          clear c0 c1 c2
          have hwk : wrap64 ((k : Int) + 1) = (k : Int) + 1 := (by have := HKN.out; have := HUN.out; unfold wrap64; omega)
          go_wp2
          go_roundw
          case rel =>
            have hkn2 := HKN.out
            have hun2 := HUN.out
            exact ⟨k + 1, by omega, by first | (rw [hwk]; rfl) | rfl | go_num, (by first | exact bt HBr.out HBc.out | exact (bt HBr.out HBc.out).drew)⟩
          case measure =>
            have hkn2 := HKN.out
            have hun2 := HUN.out
            first | (rw [hwk]; simp only [intOf]; omega) | (simp only [intOf]; omega))
      · have hki : (un : Int) ≤ (k : Int) := by omega
        clear hbel
        go_wp2
        go_ret
        exact ⟨rfl, bt HV8.out HBr.out⟩)
end Go.Proofs.YtmiohdibbpckaaaDoor

