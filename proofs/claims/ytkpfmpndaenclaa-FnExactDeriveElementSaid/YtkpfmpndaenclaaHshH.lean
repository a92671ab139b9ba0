/- DeriveElement: the reference's search, and both functions. -/
import Derived.Test.YtkpfmpndaenclaaHshG
namespace Go.Proofs.Ytkpfmpndaenclaa
open Go.RowKit

def IntPost (w : World) (t : Int) (e : Ending) (w' : World) : Prop := e = .returned (.int .i64 t) ∧ Below w.heap.size w w'

set_option maxRecDepth 100000 in
set_option maxHeartbeats 6400000 in
theorem hDerived_any (P Q G : Int) (hg : goodB P Q G = true) (s : ByteArray) (hs : s.size ≤ 1000) (k : Int) (k0 : 0 ≤ k) (k1 : k ≤ 4611686018427387903) (w : World) :
    Calls Try.prog 99 #[gv P Q G, .string s, .int .i64 k] w (IntPost w (derV P Q G s k)) := by
  obtain ⟨hP, hQ, hG⟩ := good_rng hg
  have hP3 : 3 ≤ P := (goodB_true.1 hg).1.1
  have HV := Lib.hid (gr_new w P Q G 24)
  have HB := Lib.hid (ba w (.cells #[.int .i64 P, .int .i64 Q, .int .i64 G] 24))
  have hpn : P - 1 ≠ 0 := by omega
  have hwp : IntKind.i64.wrap (P - 1) = P - 1 := by rw [IntKind.wrap_i64]; omega
  obtain ⟨q0, q1⟩ := quo_bd (P := P) (Q := Q) (by omega) hP.2 (by omega)
  clear hg
  go_enter Try.func99, Try.ntmps99
  go_wp2
  go_loopw [7, 8, 9] (fun K _ _ wr => ∃ c : Nat, c ≤ 1000 ∧ K = .int .i64 c ∧ GR wr w.heap.size P Q G ∧ Below w.heap.size w wr ∧ derV P Q G s k = derS P Q G s k (1000 - c) c) (fun K _ _ _ => 1000 - (intOf K).toNat)
  case atStart => exact ⟨0, Nat.zero_le _, rfl, HV.out, HB.out, rfl⟩
  case round =>
    obtain ⟨c, hc, rfl, hgh, hbel, he⟩ := hrel
    have HGr := Lib.hid hgh
    have HBr := Lib.hid hbel
    have HE := Lib.hid he
    clear hbel he
    by_cases hcl : c < 1000
    · have hci : (c : Int) < 1000 := by omega
      have hDD := hlab_nn s [P, Q, G, k, c]
      have hD0 : 0 ≤ hlab s [P, Q, G, k, (c : Int)] := hDD.1
      have hDm0 : 0 ≤ hlab s [P, Q, G, k, (c : Int)] % (P - 1) := Int.emod_nonneg _ hpn
      have hDm1 : hlab s [P, Q, G, k, (c : Int)] % (P - 1) < P - 1 := Int.emod_lt_of_pos _ (by omega)
      have hws : IntKind.i64.wrap (1 + hlab s [P, Q, G, k, (c : Int)] % (P - 1)) = 1 + hlab s [P, Q, G, k, (c : Int)] % (P - 1) := by rw [IntKind.wrap_i64]; omega
      have HDR := Lib.hid (show ∀ z ∈ [P, Q, G, k, (c : Int)], 0 ≤ z ∧ z ≤ 4611686018427387903 from by
        intro z hz
        simp only [List.mem_cons, List.not_mem_nil, or_false] at hz
        omega)
      have HSTEP := Lib.hid (derS_go hcl HE.out)
      have HNP := Lib.hid (show ∀ v : World, Calls Try.prog 66 #[.int .i64 (1 + hlab s [P, Q, G, k, (c : Int)] % (P - 1)), .int .i64 ((P - 1) / Q), .int .i64 P] v fun e' v' => e' = .returned (.int .i64 (dY P Q G s k c)) ∧ v = v' from
        fun v => nPower_any _ _ _ (by omega) (by omega) q0 (by omega) (by omega) hP.2 v)
      clear hDD
      obtain ⟨c0, c1, c2⟩ := hgh
      go_wp2_with fail
      go_region_held3 (fun w' => w'.cell? ⟨w.heap.size, 0, none⟩ = some (.int .i64 P) ∧ w'.cell? ⟨w.heap.size, 1, none⟩ = some (.int .i64 Q) ∧ w'.cell? ⟨w.heap.size, 2, none⟩ = some (.int .i64 G)) (first | with_reducible exact ⟨x0, x1, x2⟩ | with_reducible exact gr_alcd HGr.out _ | exact ⟨c0, c1, c2⟩) ((first
        | (go_at_call 91; refine (shLabelled_any s (by omega) _ 5 5 [P, Q, G, k, (c : Int)] rfl (by decide) (fun h => by cases h) HDR.out _ (ints_drew (ints_spot wr _ rfl [P, Q, G, k, (c : Int)] 3))).mono ?_; rintro e w3 ⟨rfl, hb3⟩; have hal3 := (ba wr (.cells #[.int .i64 P, .int .i64 Q, .int .i64 G, .int .i64 k, .int .i64 (c : Int)] 3)); have HB3 := Lib.hid (HBr.out.trans ((bt hal3.drew hb3).mono HBr.out.size)); have HG3 := Lib.hid (GR.below (GR.drew (HGr.out.below hal3)) hb3); obtain ⟨x0, x1, x2⟩ := HG3.out; clear hb3 hal3)))
      all_goals (
        clear c0 c1 c2
        go_wp2_with fail
        go_quiet (first | (go_at_call 66; refine quietly (HNP.out _)))
        by_cases h1 : dY P Q G s k c = 1
        · have h1b : (dY P Q G s k c != 1) = false := by simp [h1]
          have HN := Lib.hid (HSTEP.out.1 h1)
          clear h1
          go_wp2
          go_roundw
          case rel => exact ⟨c + 1, by omega, by go_num, HG3.out, below_drewN HB3.out _, HN.out⟩
          case measure => simp only [intOf]; omega
        · have h1b : (dY P Q G s k c != 1) = true := by simp [h1]
          have HN := Lib.hid (HSTEP.out.2 h1)
          clear h1
          go_wp2
          go_ret
          refine ⟨?_, below_drewN HB3.out _⟩
          rw [HN.out]; rfl)
    · have hci : (1000 : Int) ≤ (c : Int) := by omega
      obtain rfl : c = 1000 := by omega
      clear hgh
      go_wp2
      go_ret
      refine ⟨?_, HBr.out⟩
      rw [HE.out]; rfl

theorem deB_true {P Q G : Int} {s : ByteArray} : deB P Q G s = true ↔ goodB P Q G = true ∧ (s.size : Int) ≤ 40 := by simp [deB]

set_option maxHeartbeats 1600000 in
theorem deriveElement_any (P Q G : Int) (s : ByteArray) (hs : s.size ≤ 1048576) (k : Int) (w : World) :
    Calls Try.prog 50 #[gv P Q G, .string s, .int .i64 k] w fun e w' => e = .returned (.tuple #[.int .i64 (deV P Q G s k), .bool (deOk P Q G s k)]) ∧ Below w.heap.size w w' := by
  have HV := Lib.hid (gr_new w P Q G 24)
  have HB := Lib.hid (ba w (.cells #[.int .i64 P, .int .i64 Q, .int .i64 G] 24))
  obtain ⟨c0, c1, c2⟩ := HV.out
  cases hk : digB k
  · have e1 : deOk P Q G s k = false := by simp [deOk, hk]
    have e2 : deV P Q G s k = 0 := by simp [deV, hk]
    rw [e1, e2]
    have HK := Lib.hid hk
    clear e1 e2 hk
    go_enter Try.func50, Try.ntmps50
    go_wp2_with fail
    refine (isDigest_any _ _).mono ?_
    rw [HK.out]
    rintro e w' ⟨rfl, rfl⟩
    go_wp2
    go_ret2
    exact ⟨rfl, HB.out⟩
  obtain ⟨k0, k1⟩ := digB_true.1 hk
  cases hd : deB P Q G s
  · have e1 : deOk P Q G s k = false := by simp [deOk, hd]
    have e2 : deV P Q G s k = 0 := by simp [deV, hd]
    rw [e1, e2]
    have HK := Lib.hid hk
    have HD := Lib.hid ((deB_ch P Q G s).trans hd)
    clear e1 e2 hk hd
    go_enter Try.func50, Try.ntmps50
    go_wp2_with fail
    refine (isDigest_any _ _).mono ?_
    rw [HK.out]
    rintro e w' ⟨rfl, rfl⟩
    go_wp2_with fail
    refine (canChallenge_any P Q G s hs none 0 0 [] rfl (by decide) 2 (by decide) (by decide) _ (.inl rfl)).mono ?_
    rw [HD.out]
    rintro e w1 ⟨rfl, hb1⟩
    have HB1 := Lib.hid (bt HB.out hb1)
    clear hb1
    go_wp2
    go_ret2
    exact ⟨rfl, HB1.out⟩
  · have e1 : deOk P Q G s k = decide (0 < derV P Q G s k) := by simp [deOk, hd, hk]
    have e2 : deV P Q G s k = derV P Q G s k := by simp [deV, hd, hk]
    rw [e1, e2]
    obtain ⟨hg, h40⟩ := deB_true.1 hd
    have HG := Lib.hid hg
    have HK := Lib.hid hk
    have HD := Lib.hid ((deB_ch P Q G s).trans hd)
    clear e1 e2 hk hd hg
    go_enter Try.func50, Try.ntmps50
    go_wp2_with fail
    refine (isDigest_any _ _).mono ?_
    rw [HK.out]
    rintro e w' ⟨rfl, rfl⟩
    go_wp2_with fail
    refine (canChallenge_any P Q G s hs none 0 0 [] rfl (by decide) 2 (by decide) (by decide) _ (.inl rfl)).mono ?_
    rw [HD.out]
    rintro e w1 ⟨rfl, hb1⟩
    have HB1 := Lib.hid (bt HB.out hb1)
    have HV1 := Lib.hid (HV.out.below hb1)
    clear hb1 c0 c1 c2
    obtain ⟨c0, c1, c2⟩ := HV1.out
    go_wp2_with fail
    refine (derive_any P Q G HG.out s (by omega) k k0 k1 _).mono ?_
    rintro e w2 ⟨rfl, hb2⟩
    have HB2 := Lib.hid (bt HB1.out hb2)
    clear hb2
    go_wp2
    go_ret2
    exact ⟨rfl, HB2.out⟩

set_option maxHeartbeats 1600000 in
theorem sDeriveElement_any (P Q G : Int) (s : ByteArray) (hs : s.size ≤ 1048576) (k : Int) (w : World) :
    Calls Try.prog 49 #[gv P Q G, .string s, .int .i64 k] w fun e w' => e = .returned (.tuple #[.int .i64 (deV P Q G s k), .bool (deOk P Q G s k)]) ∧ Below w.heap.size w w' := by
  have HV := Lib.hid (gr_new w P Q G 24)
  have HB := Lib.hid (ba w (.cells #[.int .i64 P, .int .i64 Q, .int .i64 G] 24))
  have hsi : 0 ≤ (s.size : Int) ∧ (s.size : Int) ≤ 1048576 := by omega
  obtain ⟨s0, s1⟩ := hsi
  obtain ⟨c0, c1, c2⟩ := HV.out
  cases hg : goodB P Q G
  · have e1 : deOk P Q G s k = false := by simp [deOk, deB, hg]
    have e2 : deV P Q G s k = 0 := by simp [deV, deB, hg]
    rw [e1, e2]
    have HG := Lib.hid hg
    clear e1 e2 hg
    go_enter Try.func49, Try.ntmps49
    go_wp2_with fail
    refine (l2Good_any P Q G _).mono ?_
    rw [HG.out]
    rintro e w1 ⟨rfl, hb1⟩
    have HB1 := Lib.hid (bt HB.out hb1)
    clear hb1
    go_wp2
    go_ret2
    exact ⟨rfl, HB1.out⟩
  by_cases h40 : ¬ (s.size : Int) ≤ 40
  · have hd0 : deB P Q G s = false := by rw [← Bool.not_eq_true, deB_true]; exact fun h => h40 h.2
    have e1 : deOk P Q G s k = false := by simp [deOk, hd0]
    have e2 : deV P Q G s k = 0 := by simp [deV, hd0]
    rw [e1, e2]
    have HG := Lib.hid hg
    have h40i : (40 : Int) < (s.size : Int) := by omega
    clear e1 e2 hg hs hd0 h40
    go_enter Try.func49, Try.ntmps49
    go_wp2_with fail
    refine (l2Good_any P Q G _).mono ?_
    rw [HG.out]
    rintro e w1 ⟨rfl, hb1⟩
    have HB1 := Lib.hid (bt HB.out hb1)
    clear hb1
    go_wp2
    go_ret2
    exact ⟨rfl, HB1.out⟩
  have h40 := Decidable.not_not.1 h40
  have hd : deB P Q G s = true := deB_true.2 ⟨hg, h40⟩
  cases hk : digB k
  · have e1 : deOk P Q G s k = false := by simp [deOk, hk]
    have e2 : deV P Q G s k = 0 := by simp [deV, hk]
    rw [e1, e2]
    have HG := Lib.hid hg
    have HK := Lib.hid hk
    clear e1 e2 hg hs hk hd
    go_enter Try.func49, Try.ntmps49
    go_wp2_with fail
    refine (l2Good_any P Q G _).mono ?_
    rw [HG.out]
    rintro e w1 ⟨rfl, hb1⟩
    have HB1 := Lib.hid (bt HB.out hb1)
    clear hb1
    go_wp2_with fail
    refine (l3Digest_any _ _).mono ?_
    rw [HK.out]
    rintro e w' ⟨rfl, rfl⟩
    go_wp2
    go_ret2
    exact ⟨rfl, HB1.out⟩
  · obtain ⟨k0, k1⟩ := digB_true.1 hk
    have e1 : deOk P Q G s k = decide (0 < derV P Q G s k) := by simp [deOk, hd, hk]
    have e2 : deV P Q G s k = derV P Q G s k := by simp [deV, hd, hk]
    rw [e1, e2]
    have HG := Lib.hid hg
    have HK := Lib.hid hk
    clear e1 e2 hg hs hk hd
    go_enter Try.func49, Try.ntmps49
    go_wp2_with fail
    refine (l2Good_any P Q G _).mono ?_
    rw [HG.out]
    rintro e w1 ⟨rfl, hb1⟩
    have HB1 := Lib.hid (bt HB.out hb1)
    have HV1 := Lib.hid (HV.out.below hb1)
    clear hb1 c0 c1 c2
    obtain ⟨c0, c1, c2⟩ := HV1.out
    go_wp2_with fail
    refine (l3Digest_any _ _).mono ?_
    rw [HK.out]
    rintro e w' ⟨rfl, rfl⟩
    go_wp2_with fail
    refine (hDerived_any P Q G HG.out s (by omega) k k0 k1 _).mono ?_
    rintro e w2 ⟨rfl, hb2⟩
    have HB2 := Lib.hid (bt HB1.out hb2)
    clear hb2
    go_wp2
    go_ret2
    exact ⟨rfl, HB2.out⟩

end Go.Proofs.Ytkpfmpndaenclaa
