/- DeriveElement of the program and of the reference. -/
import Derived.Test.YtdnofcpobpoehaaHshD
import Derived.Test.YtdnofcpobpoehaaG3
namespace Go.Proofs.Ytdnofcpobpoehaa
open Go.RowKit

/-! ### The plain facts -/
def dX (P Q G : Int) (s : ByteArray) (k c : Int) : Int := 1 + hlab s [P, Q, G, k, c] % (P - 1)
def dY (P Q G : Int) (s : ByteArray) (k c : Int) : Int := Num.pow (dX P Q G s k c) ((P - 1) / Q) P
/-- The search from c on. -/
def derS (P Q G : Int) (s : ByteArray) (k : Int) : Nat → Nat → Int
  | 0, _ => 0
  | f + 1, c => if dY P Q G s k c = 1 then derS P Q G s k f (c + 1) else dY P Q G s k c
def derV (P Q G : Int) (s : ByteArray) (k : Int) : Int := derS P Q G s k 1000 0
theorem derS_go {P Q G : Int} {s : ByteArray} {k t : Int} {c : Nat} (hc : c < 1000) (h : t = derS P Q G s k (1000 - c) c) :
    (dY P Q G s k c = 1 → t = derS P Q G s k (1000 - (c + 1)) (c + 1)) ∧ (dY P Q G s k c ≠ 1 → t = dY P Q G s k c) := by
  rw [show 1000 - c = (1000 - (c + 1)) + 1 by omega] at h
  unfold derS at h
  refine ⟨fun h1 => ?_, fun h1 => ?_⟩
  · rw [h, if_pos h1]
  · rw [h, if_neg h1]
theorem hlab_nn (s : ByteArray) (zs : List Int) : 0 ≤ hlab s zs ∧ hlab s zs ≤ 4611686018427387903 := hdig_bd _
theorem dX_bd {P Q G : Int} {s : ByteArray} {k c : Int} (h1 : 2 ≤ P) : 1 ≤ dX P Q G s k c ∧ dX P Q G s k c ≤ P - 1 := by
  unfold dX
  have h2 := Int.emod_nonneg (hlab s [P, Q, G, k, c]) (show P - 1 ≠ 0 by omega)
  have h3 := Int.emod_lt_of_pos (hlab s [P, Q, G, k, c]) (show 0 < P - 1 by omega)
  omega
theorem dY_pos {P Q G : Int} (hg : goodB P Q G = true) (s : ByteArray) (k c : Int) : 0 < dY P Q G s k c := by
  have hb := dX_bd (P := P) (Q := Q) (G := G) (s := s) (k := k) (c := c) (by have := goodB_true.1 hg; omega)
  unfold dY
  generalize dX P Q G s k c = x at hb
  obtain ⟨p, q, g, rfl, rfl, rfl, hp, hq, hd, _, _, _, _, _, _⟩ := good_nat hg
  have hp1 : 1 < p := hp.1
  have hq1 : 1 < q := hq.1
  obtain ⟨n, rfl⟩ := Int.eq_ofNat_of_zero_le (show 0 ≤ x by omega)
  rw [show ((p : Int) - 1) / (q : Int) = (((p - 1) / q : Nat) : Int) by rw [show (p : Int) - 1 = ((p - 1 : Nat) : Int) by omega]; exact (Int.natCast_ediv _ _).symm, Num.pow_eq hp1]
  have h1 := Num.proj_el hp hd (show 1 ≤ n by omega) (show n < p by omega)
  have h2 := Num.el_pos (x := n ^ ((p - 1) / q) % p) hp1 (by omega) h1
  rw [Nat.mod_mod] at h2
  omega
theorem derS_nn {P Q G : Int} (hg : goodB P Q G = true) (s : ByteArray) (k : Int) : ∀ f c, 0 ≤ derS P Q G s k f c
  | 0, _ => Int.le_refl _
  | f + 1, c => by
    unfold derS
    split
    · exact derS_nn hg s k f (c + 1)
    · exact Int.le_of_lt (dY_pos hg s k c)
/-- What DeriveElement asks, and what it answers. -/
def deB (P Q G : Int) (s : ByteArray) : Bool := goodB P Q G && decide ((s.size : Int) ≤ 40)
def deOk (P Q G : Int) (s : ByteArray) (k : Int) : Bool := deB P Q G s && digB k && decide (0 < derV P Q G s k)
def deV (P Q G : Int) (s : ByteArray) (k : Int) : Int := if deB P Q G s && digB k then derV P Q G s k else 0
theorem deB_ch (P Q G : Int) (s : ByteArray) : chB P Q G s [] (3 + 2) = deB P Q G s := by
  rw [Bool.eq_iff_iff, chB_true]
  unfold deB
  rw [Bool.and_eq_true, decide_eq_true_eq, labB_true]
  simp [digsB]
  omega

/-! ### The program -/
def DerPost (w : World) (t : Int) (e : Ending) (w' : World) : Prop := e = .returned (.tuple #[.int .i64 t, .bool (decide (0 < t))]) ∧ Below w.heap.size w w'

/-- A group and a state, each in its block. -/
def GH (w : World) (b : Nat) (P Q G : Int) (d : Nat) (X Y : Int) : Prop := w.cell? ⟨b, 0, none⟩ = some (.int .i64 P) ∧ w.cell? ⟨b, 1, none⟩ = some (.int .i64 Q) ∧ w.cell? ⟨b, 2, none⟩ = some (.int .i64 G) ∧ w.cell? ⟨d, 0, none⟩ = some (.int .i64 X) ∧ w.cell? ⟨d, 1, none⟩ = some (.int .i64 Y)
theorem gh_mk {w : World} {b d : Nat} {P Q G X Y : Int} (h : GR w b P Q G) (k : HS w d X Y) : GH w b P Q G d X Y := ⟨h.1, h.2.1, h.2.2, k.1, k.2.1⟩
theorem gh_in {w : World} {b d : Nat} {P Q G X Y : Int} (h : GH w b P Q G d X Y) : w.cell? ⟨b, 0, none⟩ = some (.int .i64 P) ∧ w.cell? ⟨b, 1, none⟩ = some (.int .i64 Q) ∧ w.cell? ⟨b, 2, none⟩ = some (.int .i64 G) ∧ w.cell? ⟨d, 0, none⟩ = some (.int .i64 X) ∧ w.cell? ⟨d, 1, none⟩ = some (.int .i64 Y) := h
theorem GH.below {w w' : World} {b d : Nat} {P Q G X Y : Int} (h : GH w b P Q G d X Y) (hb : Below w.heap.size w w') : GH w' b P Q G d X Y := by
  obtain ⟨c0, c1, c2, d0, d1⟩ := h
  have hl : b < w.heap.size := World.block_lt_of_cell? w _ c0
  have hm : d < w.heap.size := World.block_lt_of_cell? w _ d0
  exact ⟨(hb.cell (p := ⟨b, 0, none⟩) hl).trans c0, (hb.cell (p := ⟨b, 1, none⟩) hl).trans c1, (hb.cell (p := ⟨b, 2, none⟩) hl).trans c2, (hb.cell (p := ⟨d, 0, none⟩) hm).trans d0, (hb.cell (p := ⟨d, 1, none⟩) hm).trans d1⟩
theorem GH.drew {w : World} {b d : Nat} {P Q G X Y : Int} (h : GH w b P Q G d X Y) : GH w.drew b P Q G d X Y := h
theorem gh_alcd {w : World} {b d : Nat} {P Q G X Y : Int} (h : GH w b P Q G d X Y) (o : Obj) : (w.alloc o).drew.cell? ⟨b, 0, none⟩ = some (.int .i64 P) ∧ (w.alloc o).drew.cell? ⟨b, 1, none⟩ = some (.int .i64 Q) ∧ (w.alloc o).drew.cell? ⟨b, 2, none⟩ = some (.int .i64 G) ∧ (w.alloc o).drew.cell? ⟨d, 0, none⟩ = some (.int .i64 X) ∧ (w.alloc o).drew.cell? ⟨d, 1, none⟩ = some (.int .i64 Y) := GH.drew (h.below (ba w o))

set_option maxRecDepth 100000 in
set_option maxHeartbeats 6400000 in
theorem derive_any (P Q G : Int) (hg : goodB P Q G = true) (s : ByteArray) (hs : s.size ≤ 1000) (k : Int) (k0 : 0 ≤ k) (k1 : k ≤ 4611686018427387903) (w : World) :
    Calls Try.prog 96 #[gv P Q G, .string s, .int .i64 k] w (DerPost w (derV P Q G s k)) := by
  obtain ⟨hP, hQ, hG⟩ := good_rng hg
  have hP3 : 3 ≤ P := (goodB_true.1 hg).1.1
  have HPOS := Lib.hid (fun c => dY_pos hg s k c)
  have HV := Lib.hid (gr_new w P Q G 29)
  have HB := Lib.hid (ba w (.cells #[.int .i64 P, .int .i64 Q, .int .i64 G] 29))
  have hpn : P - 1 ≠ 0 := by omega
  have hwp : IntKind.i64.wrap (P - 1) = P - 1 := by rw [IntKind.wrap_i64]; omega
  obtain ⟨c0, c1, c2⟩ := HV.out
  clear hg
  go_enter Try.func96, Try.ntmps96
  go_wp2_with fail
  refine (gStart_any P Q G hP hQ hG s (by omega) 2 (by decide) (by decide) _).mono ?_
  rintro e w1 ⟨rfl, hb1⟩
  have HB1 := Lib.hid (bt HB.out hb1)
  have HV1 := Lib.hid (HV.out.below hb1)
  clear hb1 c0 c1 c2
  go_wp2_with fail
  refine (absorb_any _ _ (hb_gst _ _ _ _ _) _ 1 1 [k] rfl (by decide) (by simp; omega) _ (ints_spot w1 _ rfl [k] 3)).mono ?_
  rintro e w2 ⟨rfl, hb2⟩
  have e1 : ∀ c i : Int, hfold c i [k] = hab c i k := fun _ _ => rfl
  rw [e1, e1]
  have hal1 := ba w1 (.cells #[.int .i64 k] 3)
  have hal2 := ba w2 (.cells #[.int .i64 (hab 48271 (gst 48271 1 P Q G s 2) k), .int .i64 (hab 69621 (gst 69621 2 P Q G s 2) k)] 164)
  have HB2 := Lib.hid (bt (bt (bt HB1.out hal1) hb2) hal2)
  have HV2 := Lib.hid (((HV1.out.below hal1).below hb2).below hal2)
  have HS2 := Lib.hid (hs_new w2 (hab 48271 (gst 48271 1 P Q G s 2) k) (hab 69621 (gst 69621 2 P Q G s 2) k) 164)
  have HXY := Lib.hid (hb_ab 48271 69621 (gst 48271 1 P Q G s 2) (gst 69621 2 P Q G s 2) k k)
  have HD := Lib.hid (show ∀ c : Int, 2147483648 * hab 48271 (hab 48271 (gst 48271 1 P Q G s 2) k) c + hab 69621 (hab 69621 (gst 69621 2 P Q G s 2) k) c = hlab s [P, Q, G, k, c] from fun c => (hlab_gst P Q G s [k, c]).symm)
  clear e1 hal1 hb2 hal2
  generalize hab 48271 (gst 48271 1 P Q G s 2) k = X at *
  generalize hab 69621 (gst 69621 2 P Q G s 2) k = Y at *
  have HG2 := Lib.hid (gh_mk HV2.out HS2.out)
  clear HV2 HS2 HV1 HB1 HV HB
  go_wp2
  go_loopw [9, 10, 11, 18] (fun _ _ _ K wr => ∃ c : Nat, c ≤ 1000 ∧ K = .int .i64 c ∧ GH wr w.heap.size P Q G w2.heap.size X Y ∧ Below w.heap.size w wr ∧ derV P Q G s k = derS P Q G s k (1000 - c) c) (fun _ _ _ K _ => 1000 - (intOf K).toNat)
  case atStart => exact ⟨0, Nat.zero_le _, rfl, HG2.out, HB2.out, rfl⟩
  case round =>
    obtain ⟨c, hc, rfl, hgh, hbel, he⟩ := hrel
    have HGr := Lib.hid hgh
    have HBr := Lib.hid hbel
    have HE := Lib.hid he
    clear hbel he
    by_cases hcl : c < 1000
    · have hci : (c : Int) < 1000 := by omega
      have hDD := hlab_nn s [P, Q, G, k, c]
      have hD0 : 0 ≤ hlab s [P, Q, G, k, (c : Int)] := hDD.1
      have hDm0 : 0 ≤ hlab s [P, Q, G, k, (c : Int)] % (P - 1) := Int.emod_nonneg _ hpn
      have hDm1 : hlab s [P, Q, G, k, (c : Int)] % (P - 1) < P - 1 := Int.emod_lt_of_pos _ (by omega)
      have hws : IntKind.i64.wrap (1 + hlab s [P, Q, G, k, (c : Int)] % (P - 1)) = 1 + hlab s [P, Q, G, k, (c : Int)] % (P - 1) := by rw [IntKind.wrap_i64]; omega
      have HC := Lib.hid (HD.out c)
      have HPC := Lib.hid (HPOS.out c)
      have HSTEP := Lib.hid (derS_go hcl HE.out)
      have HDB := Lib.hid hDD.2
      clear hDD
      obtain ⟨c0, c1, c2, x0, x1⟩ := hgh
      go_wp2_with fail
      go_region_held3 (fun w' => w'.cell? ⟨w.heap.size, 0, none⟩ = some (.int .i64 P) ∧ w'.cell? ⟨w.heap.size, 1, none⟩ = some (.int .i64 Q) ∧ w'.cell? ⟨w.heap.size, 2, none⟩ = some (.int .i64 G) ∧ w'.cell? ⟨w2.heap.size, 0, none⟩ = some (.int .i64 X) ∧ w'.cell? ⟨w2.heap.size, 1, none⟩ = some (.int .i64 Y)) (first | with_reducible exact gh_in HG3.out | with_reducible exact gh_in HG4.out | with_reducible exact gh_alcd HGr.out _ | exact ⟨c0, c1, c2, x0, x1⟩) ((first
        | (go_at_call 142; refine (absorb_any X Y HXY.out _ 1 1 [(c : Int)] rfl (by decide) (by simp; omega) _ (ints_drew (ints_spot wr _ rfl [(c : Int)] 3))).mono ?_; rintro e w3 ⟨rfl, hb3⟩; have hal3 := (ba wr (.cells #[.int .i64 (c : Int)] 3)); have HB3 := Lib.hid (HBr.out.trans ((bt hal3.drew hb3).mono HBr.out.size)); have HG3 := Lib.hid (GH.below (GH.drew (HGr.out.below hal3)) hb3); clear hb3 hal3)
        | (go_at_call 143; refine (hdigest_any _ _ (hb_fold _ _ _ _ _ _ HXY.out) _).mono ?_; rw [show 2147483648 * hfold 48271 X [(c : Int)] + hfold 69621 Y [(c : Int)] = hlab s [P, Q, G, k, (c : Int)] from HC.out]; rintro e w4 ⟨rfl, hb4⟩; have HB4 := Lib.hid (HB3.out.trans (hb4.mono HB3.out.size)); have HG4 := Lib.hid (HG3.out.below hb4); clear hb4)))
      all_goals (
        obtain ⟨y0, y1, y2, _, _⟩ := HG4.out
        clear c0 c1 c2 x0 x1
        go_wp2_with fail
        refine (project_any P Q G (1 + hlab s [P, Q, G, k, (c : Int)] % (P - 1)) (by omega) (by omega) (by omega) (by omega) (by omega) _).mono ?_
        rw [show Num.pow (1 + hlab s [P, Q, G, k, (c : Int)] % (P - 1)) ((P - 1) / Q) P = dY P Q G s k c from rfl]
        rintro e w5 ⟨rfl, hb5⟩
        have HB5 := Lib.hid (HB4.out.trans (hb5.mono HB4.out.size))
        have HG5 := Lib.hid (HG4.out.below hb5)
        clear hb5 y0 y1 y2
        by_cases h1 : dY P Q G s k c = 1
        · have h1b : (dY P Q G s k c != 1) = false := by simp [h1]
          have HN := Lib.hid (HSTEP.out.1 h1)
          clear h1
          go_wp2
          go_roundw
          case rel => exact ⟨c + 1, by omega, by go_num, HG5.out, HB5.out, HN.out⟩
          case measure => simp only [intOf]; omega
        · have h1b : (dY P Q G s k c != 1) = true := by simp [h1]
          have HN := Lib.hid (HSTEP.out.2 h1)
          clear h1
          go_wp2
          go_ret2
          refine ⟨?_, HB5.out⟩
          rw [HN.out, decide_eq_true HPC.out]; rfl)
    · have hci : (1000 : Int) ≤ (c : Int) := by omega
      obtain rfl : c = 1000 := by omega
      clear hgh
      go_wp2
      go_ret2
      refine ⟨?_, HBr.out⟩
      rw [HE.out]; rfl

end Go.Proofs.Ytdnofcpobpoehaa

/- DeriveElement: the reference's search, and both functions. -/
namespace Go.Proofs.Ytdnofcpobpoehaa
open Go.RowKit

def IntPost (w : World) (t : Int) (e : Ending) (w' : World) : Prop := e = .returned (.int .i64 t) ∧ Below w.heap.size w w'

set_option maxRecDepth 100000 in
set_option maxHeartbeats 6400000 in
theorem hDerived_any (P Q G : Int) (hg : goodB P Q G = true) (s : ByteArray) (hs : s.size ≤ 1000) (k : Int) (k0 : 0 ≤ k) (k1 : k ≤ 4611686018427387903) (w : World) :
    Calls Try.prog 98 #[gv P Q G, .string s, .int .i64 k] w (IntPost w (derV P Q G s k)) := by
  obtain ⟨hP, hQ, hG⟩ := good_rng hg
  have hP3 : 3 ≤ P := (goodB_true.1 hg).1.1
  have HV := Lib.hid (gr_new w P Q G 29)
  have HB := Lib.hid (ba w (.cells #[.int .i64 P, .int .i64 Q, .int .i64 G] 29))
  have hpn : P - 1 ≠ 0 := by omega
  have hwp : IntKind.i64.wrap (P - 1) = P - 1 := by rw [IntKind.wrap_i64]; omega
  obtain ⟨q0, q1⟩ := quo_bd (P := P) (Q := Q) (by omega) hP.2 (by omega)
  clear hg
  go_enter Try.func98, Try.ntmps98
  go_wp2
  go_loopw [7, 8, 9] (fun K _ _ wr => ∃ c : Nat, c ≤ 1000 ∧ K = .int .i64 c ∧ GR wr w.heap.size P Q G ∧ Below w.heap.size w wr ∧ derV P Q G s k = derS P Q G s k (1000 - c) c) (fun K _ _ _ => 1000 - (intOf K).toNat)
  case atStart => exact ⟨0, Nat.zero_le _, rfl, HV.out, HB.out, rfl⟩
  case round =>
    obtain ⟨c, hc, rfl, hgh, hbel, he⟩ := hrel
    have HGr := Lib.hid hgh
    have HBr := Lib.hid hbel
    have HE := Lib.hid he
    clear hbel he
    by_cases hcl : c < 1000
    · have hci : (c : Int) < 1000 := by omega
      have hDD := hlab_nn s [P, Q, G, k, c]
      have hD0 : 0 ≤ hlab s [P, Q, G, k, (c : Int)] := hDD.1
      have hDm0 : 0 ≤ hlab s [P, Q, G, k, (c : Int)] % (P - 1) := Int.emod_nonneg _ hpn
      have hDm1 : hlab s [P, Q, G, k, (c : Int)] % (P - 1) < P - 1 := Int.emod_lt_of_pos _ (by omega)
      have hws : IntKind.i64.wrap (1 + hlab s [P, Q, G, k, (c : Int)] % (P - 1)) = 1 + hlab s [P, Q, G, k, (c : Int)] % (P - 1) := by rw [IntKind.wrap_i64]; omega
      have HDR := Lib.hid (show ∀ z ∈ [P, Q, G, k, (c : Int)], 0 ≤ z ∧ z ≤ 4611686018427387903 from by
        intro z hz
        simp only [List.mem_cons, List.not_mem_nil, or_false] at hz
        omega)
      have HSTEP := Lib.hid (derS_go hcl HE.out)
      have HNP := Lib.hid (show ∀ v : World, Calls Try.prog 121 #[.int .i64 (1 + hlab s [P, Q, G, k, (c : Int)] % (P - 1)), .int .i64 ((P - 1) / Q), .int .i64 P] v fun e' v' => e' = .returned (.int .i64 (dY P Q G s k c)) ∧ v = v' from
        fun v => nPower_any _ _ _ (by omega) (by omega) q0 (by omega) (by omega) hP.2 v)
      clear hDD
      obtain ⟨c0, c1, c2⟩ := hgh
      go_wp2_with fail
      go_region_held3 (fun w' => w'.cell? ⟨w.heap.size, 0, none⟩ = some (.int .i64 P) ∧ w'.cell? ⟨w.heap.size, 1, none⟩ = some (.int .i64 Q) ∧ w'.cell? ⟨w.heap.size, 2, none⟩ = some (.int .i64 G)) (first | with_reducible exact ⟨x0, x1, x2⟩ | with_reducible exact gr_alcd HGr.out _ | exact ⟨c0, c1, c2⟩) ((first
        | (go_at_call 145; refine (shLabelled_any s (by omega) _ 5 5 [P, Q, G, k, (c : Int)] rfl (by decide) (fun h => by cases h) HDR.out _ (ints_drew (ints_spot wr _ rfl [P, Q, G, k, (c : Int)] 3))).mono ?_; rintro e w3 ⟨rfl, hb3⟩; have hal3 := (ba wr (.cells #[.int .i64 P, .int .i64 Q, .int .i64 G, .int .i64 k, .int .i64 (c : Int)] 3)); have HB3 := Lib.hid (HBr.out.trans ((bt hal3.drew hb3).mono HBr.out.size)); have HG3 := Lib.hid (GR.below (GR.drew (HGr.out.below hal3)) hb3); obtain ⟨x0, x1, x2⟩ := HG3.out; clear hb3 hal3)))
      all_goals (
        clear c0 c1 c2
        go_wp2_with fail
        go_quiet (first | (go_at_call 121; refine quietly (HNP.out _)))
        by_cases h1 : dY P Q G s k c = 1
        · have h1b : (dY P Q G s k c != 1) = false := by simp [h1]
          have HN := Lib.hid (HSTEP.out.1 h1)
          clear h1
          go_wp2
          go_roundw
          case rel => exact ⟨c + 1, by omega, by go_num, HG3.out, below_drewN HB3.out _, HN.out⟩
          case measure => simp only [intOf]; omega
        · have h1b : (dY P Q G s k c != 1) = true := by simp [h1]
          have HN := Lib.hid (HSTEP.out.2 h1)
          clear h1
          go_wp2
          go_ret
          refine ⟨?_, below_drewN HB3.out _⟩
          rw [HN.out]; rfl)
    · have hci : (1000 : Int) ≤ (c : Int) := by omega
      obtain rfl : c = 1000 := by omega
      clear hgh
      go_wp2
      go_ret
      refine ⟨?_, HBr.out⟩
      rw [HE.out]; rfl

theorem deB_true {P Q G : Int} {s : ByteArray} : deB P Q G s = true ↔ goodB P Q G = true ∧ (s.size : Int) ≤ 40 := by simp [deB]

set_option maxHeartbeats 1600000 in
theorem deriveElement_any (P Q G : Int) (s : ByteArray) (hs : s.size ≤ 1048576) (k : Int) (w : World) :
    Calls Try.prog 50 #[gv P Q G, .string s, .int .i64 k] w fun e w' => e = .returned (.tuple #[.int .i64 (deV P Q G s k), .bool (deOk P Q G s k)]) ∧ Below w.heap.size w w' := by
  have HV := Lib.hid (gr_new w P Q G 29)
  have HB := Lib.hid (ba w (.cells #[.int .i64 P, .int .i64 Q, .int .i64 G] 29))
  obtain ⟨c0, c1, c2⟩ := HV.out
  cases hk : digB k
  · have e1 : deOk P Q G s k = false := by simp [deOk, hk]
    have e2 : deV P Q G s k = 0 := by simp [deV, hk]
    rw [e1, e2]
    have HK := Lib.hid hk
    clear e1 e2 hk
    go_enter Try.func50, Try.ntmps50
    go_wp2_with fail
    refine (isDigest_any _ _).mono ?_
    rw [HK.out]
    rintro e w' ⟨rfl, rfl⟩
    go_wp2
    go_ret2
    exact ⟨rfl, HB.out⟩
  obtain ⟨k0, k1⟩ := digB_true.1 hk
  cases hd : deB P Q G s
  · have e1 : deOk P Q G s k = false := by simp [deOk, hd]
    have e2 : deV P Q G s k = 0 := by simp [deV, hd]
    rw [e1, e2]
    have HK := Lib.hid hk
    have HD := Lib.hid ((deB_ch P Q G s).trans hd)
    clear e1 e2 hk hd
    go_enter Try.func50, Try.ntmps50
    go_wp2_with fail
    refine (isDigest_any _ _).mono ?_
    rw [HK.out]
    rintro e w' ⟨rfl, rfl⟩
    go_wp2_with fail
    refine (canChallenge_any P Q G s hs none 0 0 [] rfl (by decide) 2 (by decide) (by decide) _ (.inl rfl)).mono ?_
    rw [HD.out]
    rintro e w1 ⟨rfl, hb1⟩
    have HB1 := Lib.hid (bt HB.out hb1)
    clear hb1
    go_wp2
    go_ret2
    exact ⟨rfl, HB1.out⟩
  · have e1 : deOk P Q G s k = decide (0 < derV P Q G s k) := by simp [deOk, hd, hk]
    have e2 : deV P Q G s k = derV P Q G s k := by simp [deV, hd, hk]
    rw [e1, e2]
    obtain ⟨hg, h40⟩ := deB_true.1 hd
    have HG := Lib.hid hg
    have HK := Lib.hid hk
    have HD := Lib.hid ((deB_ch P Q G s).trans hd)
    clear e1 e2 hk hd hg
    go_enter Try.func50, Try.ntmps50
    go_wp2_with fail
    refine (isDigest_any _ _).mono ?_
    rw [HK.out]
    rintro e w' ⟨rfl, rfl⟩
    go_wp2_with fail
    refine (canChallenge_any P Q G s hs none 0 0 [] rfl (by decide) 2 (by decide) (by decide) _ (.inl rfl)).mono ?_
    rw [HD.out]
    rintro e w1 ⟨rfl, hb1⟩
    have HB1 := Lib.hid (bt HB.out hb1)
    have HV1 := Lib.hid (HV.out.below hb1)
    clear hb1 c0 c1 c2
    obtain ⟨c0, c1, c2⟩ := HV1.out
    go_wp2_with fail
    refine (derive_any P Q G HG.out s (by omega) k k0 k1 _).mono ?_
    rintro e w2 ⟨rfl, hb2⟩
    have HB2 := Lib.hid (bt HB1.out hb2)
    clear hb2
    go_wp2
    go_ret2
    exact ⟨rfl, HB2.out⟩

set_option maxHeartbeats 1600000 in
theorem sDeriveElement_any (P Q G : Int) (s : ByteArray) (hs : s.size ≤ 1048576) (k : Int) (w : World) :
    Calls Try.prog 100 #[gv P Q G, .string s, .int .i64 k] w fun e w' => e = .returned (.tuple #[.int .i64 (deV P Q G s k), .bool (deOk P Q G s k)]) ∧ Below w.heap.size w w' := by
  have HV := Lib.hid (gr_new w P Q G 29)
  have HB := Lib.hid (ba w (.cells #[.int .i64 P, .int .i64 Q, .int .i64 G] 29))
  have hsi : 0 ≤ (s.size : Int) ∧ (s.size : Int) ≤ 1048576 := by omega
  obtain ⟨s0, s1⟩ := hsi
  obtain ⟨c0, c1, c2⟩ := HV.out
  cases hg : goodB P Q G
  · have e1 : deOk P Q G s k = false := by simp [deOk, deB, hg]
    have e2 : deV P Q G s k = 0 := by simp [deV, deB, hg]
    rw [e1, e2]
    have HG := Lib.hid hg
    clear e1 e2 hg
    go_enter Try.func100, Try.ntmps100
    go_wp2_with fail
    refine (l2Good_any P Q G _).mono ?_
    rw [HG.out]
    rintro e w1 ⟨rfl, hb1⟩
    have HB1 := Lib.hid (bt HB.out hb1)
    clear hb1
    go_wp2
    go_ret2
    exact ⟨rfl, HB1.out⟩
  by_cases h40 : ¬ (s.size : Int) ≤ 40
  · have hd0 : deB P Q G s = false := by rw [← Bool.not_eq_true, deB_true]; exact fun h => h40 h.2
    have e1 : deOk P Q G s k = false := by simp [deOk, hd0]
    have e2 : deV P Q G s k = 0 := by simp [deV, hd0]
    rw [e1, e2]
    have HG := Lib.hid hg
    have h40i : (40 : Int) < (s.size : Int) := by omega
    clear e1 e2 hg hs hd0 h40
    go_enter Try.func100, Try.ntmps100
    go_wp2_with fail
    refine (l2Good_any P Q G _).mono ?_
    rw [HG.out]
    rintro e w1 ⟨rfl, hb1⟩
    have HB1 := Lib.hid (bt HB.out hb1)
    clear hb1
    go_wp2
    go_ret2
    exact ⟨rfl, HB1.out⟩
  have h40 := Decidable.not_not.1 h40
  have hd : deB P Q G s = true := deB_true.2 ⟨hg, h40⟩
  cases hk : digB k
  · have e1 : deOk P Q G s k = false := by simp [deOk, hk]
    have e2 : deV P Q G s k = 0 := by simp [deV, hk]
    rw [e1, e2]
    have HG := Lib.hid hg
    have HK := Lib.hid hk
    clear e1 e2 hg hs hk hd
    go_enter Try.func100, Try.ntmps100
    go_wp2_with fail
    refine (l2Good_any P Q G _).mono ?_
    rw [HG.out]
    rintro e w1 ⟨rfl, hb1⟩
    have HB1 := Lib.hid (bt HB.out hb1)
    clear hb1
    go_wp2_with fail
    refine (l3Digest_any _ _).mono ?_
    rw [HK.out]
    rintro e w' ⟨rfl, rfl⟩
    go_wp2
    go_ret2
    exact ⟨rfl, HB1.out⟩
  · obtain ⟨k0, k1⟩ := digB_true.1 hk
    have e1 : deOk P Q G s k = decide (0 < derV P Q G s k) := by simp [deOk, hd, hk]
    have e2 : deV P Q G s k = derV P Q G s k := by simp [deV, hd, hk]
    rw [e1, e2]
    have HG := Lib.hid hg
    have HK := Lib.hid hk
    clear e1 e2 hg hs hk hd
    go_enter Try.func100, Try.ntmps100
    go_wp2_with fail
    refine (l2Good_any P Q G _).mono ?_
    rw [HG.out]
    rintro e w1 ⟨rfl, hb1⟩
    have HB1 := Lib.hid (bt HB.out hb1)
    have HV1 := Lib.hid (HV.out.below hb1)
    clear hb1 c0 c1 c2
    obtain ⟨c0, c1, c2⟩ := HV1.out
    go_wp2_with fail
    refine (l3Digest_any _ _).mono ?_
    rw [HK.out]
    rintro e w' ⟨rfl, rfl⟩
    go_wp2_with fail
    refine (hDerived_any P Q G HG.out s (by omega) k k0 k1 _).mono ?_
    rintro e w2 ⟨rfl, hb2⟩
    have HB2 := Lib.hid (bt HB1.out hb2)
    clear hb2
    go_wp2
    go_ret2
    exact ⟨rfl, HB2.out⟩

end Go.Proofs.Ytdnofcpobpoehaa

/- DeriveElements of the program and of the reference. -/
namespace Go.Proofs.Ytdnofcpobpoehaa
open Go.RowKit

/-! ### The plain facts -/
def dsL (P Q G : Int) (s : ByteArray) (m : Nat) : List Int := (List.range m).map fun (k : Nat) => derV P Q G s k
theorem dsL_length (P Q G : Int) (s : ByteArray) (m : Nat) : (dsL P Q G s m).length = m := by simp [dsL]
theorem dsL_drop {P Q G : Int} {s : ByteArray} {m k : Nat} (h : k < m) : (dsL P Q G s m).drop k = derV P Q G s k :: (dsL P Q G s m).drop (k + 1) := by
  rw [List.drop_eq_getElem_cons (by rw [dsL_length]; exact h)]
  congr 1
  simp [dsL]
theorem dsL_take {P Q G : Int} {s : ByteArray} {m k : Nat} (h : k < m) : (dsL P Q G s m).take (k + 1) = (dsL P Q G s m).take k ++ [derV P Q G s k] := by
  rw [List.take_succ_eq_append_getElem (by rw [dsL_length]; exact h)]
  congr 2
  simp [dsL]
def dsAll (P Q G : Int) (s : ByteArray) (m : Nat) : Bool := (List.range m).all fun (k : Nat) => decide (0 < derV P Q G s k)
theorem dsAll_true {P Q G : Int} {s : ByteArray} {m : Nat} : dsAll P Q G s m = true ↔ ∀ k, k < m → 0 < derV P Q G s k := by
  unfold dsAll
  rw [List.all_eq_true]
  constructor
  · intro h k hk
    have := h k (List.mem_range.2 hk)
    simpa using this
  · intro h k hk
    simpa using h k (List.mem_range.1 hk)
def dsOk (P Q G : Int) (s : ByteArray) (n : Int) : Bool := deB P Q G s && inB n 0 100 && dsAll P Q G s n.toNat
def dsV (P Q G : Int) (s : ByteArray) (n : Int) : List Int := if dsOk P Q G s n then dsL P Q G s n.toNat else []
theorem dsV_length {P Q G : Int} {s : ByteArray} {n : Int} : (dsV P Q G s n).length ≤ 100 := by
  unfold dsV
  split
  · rename_i h
    unfold dsOk at h
    rw [Bool.and_eq_true, Bool.and_eq_true, inB_true] at h
    rw [dsL_length]; omega
  · simp
theorem ds_off {P Q G : Int} {s : ByteArray} {n : Int} (h : dsOk P Q G s n = false) : dsV P Q G s n = [] := by simp [dsV, h]
theorem ds_bad {P Q G : Int} {s : ByteArray} {m k : Nat} (hk : k < m) (h : ¬ 0 < derV P Q G s k) : dsOk P Q G s m = false := by
  unfold dsOk
  have : dsAll P Q G s (m : Int).toNat = false := by
    rw [← Bool.not_eq_true, Int.toNat_natCast, dsAll_true]
    exact fun h' => h (h' k hk)
  rw [this, Bool.and_false]
theorem ds_good {P Q G : Int} {s : ByteArray} {m : Nat} (hd : deB P Q G s = true) (hm : m ≤ 100) (h : ∀ k, k < m → 0 < derV P Q G s k) : dsOk P Q G s m = true ∧ dsV P Q G s m = dsL P Q G s m := by
  have h1 : dsOk P Q G s m = true := by
    unfold dsOk
    rw [hd, inB_true.2 (by omega), Int.toNat_natCast, dsAll_true.2 h]; rfl
  exact ⟨h1, by simp [dsV, h1]⟩
theorem pos_step {P Q G : Int} {s : ByteArray} {k : Nat} (h : ∀ j, j < k → 0 < derV P Q G s j) (h1 : 0 < derV P Q G s k) : ∀ j, j < k + 1 → 0 < derV P Q G s j := fun j hj => by
  rcases Nat.lt_or_eq_of_le (Nat.le_of_lt_succ hj) with h2 | rfl
  · exact h j h2
  · exact h1

/-! ### The program -/
set_option maxRecDepth 100000 in
set_option maxHeartbeats 3200000 in
theorem deriveElements_any (P Q G : Int) (s : ByteArray) (hs : s.size ≤ 1048576) (n : Int) (w : World) :
    Calls Try.prog 46 #[gv P Q G, .string s, .int .i64 n] w (ListOut w (dsV P Q G s n) (dsOk P Q G s n)) := by
  have HV := Lib.hid (gr_new w P Q G 29)
  have HB := Lib.hid (ba w (.cells #[.int .i64 P, .int .i64 Q, .int .i64 G] 29))
  obtain ⟨c0, c1, c2⟩ := HV.out
  by_cases hn0 : n < 0
  · have e1 : dsOk P Q G s n = false := by
      have : inB n 0 100 = false := inB_false.2 (.inl hn0)
      simp [dsOk, this]
    rw [e1, ds_off e1]
    clear e1
    go_enter Try.func46, Try.ntmps46
    go_wp2
    go_ret2
    exact listOut_nil _ _ HB.out
  by_cases hn1 : 100 < n
  · have e1 : dsOk P Q G s n = false := by
      have : inB n 0 100 = false := inB_false.2 (.inr hn1)
      simp [dsOk, this]
    rw [e1, ds_off e1]
    clear e1
    go_enter Try.func46, Try.ntmps46
    go_wp2
    go_ret2
    exact listOut_nil _ _ HB.out
  obtain ⟨m, rfl⟩ := Int.eq_ofNat_of_zero_le (show 0 ≤ n by omega)
  have hm : m ≤ 100 := by omega
  have hmi : (m : Int) ≤ 100 := by omega
  clear hn1
  cases hd : deB P Q G s
  · have e1 : dsOk P Q G s m = false := by simp [dsOk, hd]
    rw [e1, ds_off e1]
    have HD := Lib.hid ((deB_ch P Q G s).trans hd)
    clear e1 hd
    go_enter Try.func46, Try.ntmps46
    go_wp2_with fail
    refine (canChallenge_any P Q G s hs none 0 0 [] rfl (by decide) 2 (by decide) (by decide) _ (.inl rfl)).mono ?_
    rw [HD.out]
    rintro e w1 ⟨rfl, hb1⟩
    have HB1 := Lib.hid (bt HB.out hb1)
    clear hb1
    go_wp2
    go_ret2
    exact listOut_nil _ _ HB1.out
  obtain ⟨hg, h40⟩ := deB_true.1 hd
  have HG := Lib.hid hg
  have HDE := Lib.hid hd
  have HD := Lib.hid ((deB_ch P Q G s).trans hd)
  have hs40 : s.size ≤ 1000 := by omega
  obtain ⟨i0, hi, hz0, hz1, hz2⟩ := info_parts Try.info3
  have HZ2 := Lib.hid hz2
  clear hd hg hz2
  go_enter Try.func46, Try.ntmps46
  go_wp2_with fail
  refine (canChallenge_any P Q G s hs none 0 0 [] rfl (by decide) 2 (by decide) (by decide) _ (.inl rfl)).mono ?_
  rw [HD.out]
  rintro e w1 ⟨rfl, hb1⟩
  have HB1 := Lib.hid (bt HB.out hb1)
  have HV1 := Lib.hid (HV.out.below hb1)
  clear hb1 c0 c1 c2
  go_wp2_with (at_make; refine wpList_make_full _ rfl _ _ 24 rfl w1.heap.size 3 i0 (.int .i64 0) 1 Try.underlying24 hi hz0 hz1 .i64 .i64 _ _ m rfl rfl rfl rfl (by rw [HZ2.out]; omega) (by unfold maxLen; omega) (Nat.le_refl _) ?_; intro w2 hown hgrow)
  have HV2 := Lib.hid (gr_grown HV1.out hgrow (by simp))
  have HB2 := Lib.hid (HB1.out.grown hgrow HB1.out.size (by simp))
  have HO2 := Lib.hid (show w2.ownsRow w1.heap.size 3 1 (.slice (some ⟨w1.heap.size, 0, none⟩) m m) m ((mix (dsL P Q G s m) 0).map (Value.int .i64)) from by
    rw [mix_zero, dsL_length]
    have h := hown
    rw [show Value.cells (.int .i64 0) = #[.int .i64 0] from rfl, Nat.mul_one, toList_madeCells_one] at h
    simpa using h)
  have hwl : w.heap.size < w1.heap.size := HV1.out.lt
  clear hown hgrow
  go_wp2
  go_loopw [9, 10, 11, 28] (fun _ _ _ K wr => ∃ k : Nat, k ≤ m ∧ K = .int .i64 k ∧ GR wr w.heap.size P Q G ∧ wr.ownsRow w1.heap.size 3 1 (.slice (some ⟨w1.heap.size, 0, none⟩) m m) m ((mix (dsL P Q G s m) k).map (Value.int .i64)) ∧ Below w.heap.size w wr ∧ Hid (∀ j, j < k → 0 < derV P Q G s j)) (fun _ _ _ K _ => m - (intOf K).toNat)
  case atStart => exact ⟨0, Nat.zero_le _, rfl, HV2.out, HO2.out, HB2.out, Lib.hid (fun j hj => absurd hj (Nat.not_lt_zero j))⟩
  case round =>
    obtain ⟨k, hk, rfl, hgr, hown, hbel, HPOS⟩ := hrel
    have HGr := Lib.hid hgr
    have HO := Lib.hid hown
    have HBr := Lib.hid hbel
    clear hown hbel
    by_cases hkm : k < m
    · have hki : (k : Int) < (m : Int) := by omega
      obtain ⟨c0, c1, c2⟩ := hgr
      go_wp2_with fail
      refine (derive_any P Q G HG.out s hs40 k (by omega) (by omega) _).mono ?_
      rintro e w3 ⟨rfl, hb3⟩
      have HG3 := Lib.hid (HGr.out.below hb3)
      have HO3 := Lib.hid (own_below HO.out hb3)
      have HB3 := Lib.hid (HBr.out.trans (hb3.mono HBr.out.size))
      clear hb3 c0 c1 c2
      by_cases hpos : 0 < derV P Q G s k
      · have hpb : decide (0 < derV P Q G s k) = true := decide_eq_true hpos
        have HP := Lib.hid (pos_step HPOS.out hpos)
        obtain ⟨⟨u, hcu⟩, hfu⟩ := copy_cell HO3.out hkm
        have HR := Lib.hid (copy_round HO3.out (dsL_drop hkm))
        clear hpos
        go_wp2
        go_roundw
        case rel => exact ⟨k + 1, by omega, by go_num, gr_grown HG3.out (grown_cell _ _ _) (by simp; omega), HR.out, HB3.out.setCell (Nat.le_of_lt hwl) _, HP⟩
        case measure => simp only [intOf]; omega
      · have hpb : decide (0 < derV P Q G s k) = false := decide_eq_false hpos
        have hbad := ds_bad hkm hpos
        have HBAD := Lib.hid hbad
        clear hpos hbad
        go_wp2
        go_ret2
        rw [HBAD.out, ds_off HBAD.out]
        exact listOut_nil _ _ HB3.out
    · have hki : (m : Int) ≤ (k : Int) := by omega
      obtain rfl : k = m := by omega
      clear hgr
      go_wp2
      go_ret2
      obtain ⟨h1, h2⟩ := ds_good HDE.out hm HPOS.out
      rw [h1, h2]
      have h3 := HO.out
      rw [mix_all _ (by rw [dsL_length]; exact Nat.le_refl _)] at h3
      exact ⟨_, _, _, rfl, own_base h3 (Nat.le_of_lt hwl), HBr.out⟩

/-! ### The reference -/
set_option maxRecDepth 100000 in
set_option maxHeartbeats 3200000 in
theorem sDeriveElements_any (P Q G : Int) (s : ByteArray) (hs : s.size ≤ 1048576) (n : Int) (w : World) :
    Calls Try.prog 47 #[gv P Q G, .string s, .int .i64 n] w (ListOut w (dsV P Q G s n) (dsOk P Q G s n)) := by
  have HV := Lib.hid (gr_new w P Q G 29)
  have HB := Lib.hid (ba w (.cells #[.int .i64 P, .int .i64 Q, .int .i64 G] 29))
  have hsi : 0 ≤ (s.size : Int) ∧ (s.size : Int) ≤ 1048576 := by omega
  obtain ⟨s0, s1⟩ := hsi
  obtain ⟨c0, c1, c2⟩ := HV.out
  cases hg : goodB P Q G
  · have e1 : dsOk P Q G s n = false := by simp [dsOk, deB, hg]
    rw [e1, ds_off e1]
    have HG := Lib.hid hg
    clear e1 hg
    go_enter Try.func47, Try.ntmps47
    go_wp2_with fail
    refine (l2Good_any P Q G _).mono ?_
    rw [HG.out]
    rintro e w1 ⟨rfl, hb1⟩
    have HB1 := Lib.hid (bt HB.out hb1)
    clear hb1
    go_wp2
    go_ret2
    exact listOut_nil _ _ HB1.out
  by_cases h40 : ¬ (s.size : Int) ≤ 40
  · have hd0 : deB P Q G s = false := by rw [← Bool.not_eq_true, deB_true]; exact fun h => h40 h.2
    have e1 : dsOk P Q G s n = false := by simp [dsOk, hd0]
    rw [e1, ds_off e1]
    have HG := Lib.hid hg
    have h40i : (40 : Int) < (s.size : Int) := by omega
    clear e1 hg hs hd0 h40
    go_enter Try.func47, Try.ntmps47
    go_wp2_with fail
    refine (l2Good_any P Q G _).mono ?_
    rw [HG.out]
    rintro e w1 ⟨rfl, hb1⟩
    have HB1 := Lib.hid (bt HB.out hb1)
    clear hb1
    go_wp2
    go_ret2
    exact listOut_nil _ _ HB1.out
  have h40 := Decidable.not_not.1 h40
  have hs40 : s.size ≤ 1000 := by omega
  have hd : deB P Q G s = true := deB_true.2 ⟨hg, h40⟩
  cases hn : inB n 0 100
  · have e1 : dsOk P Q G s n = false := by simp [dsOk, hn]
    rw [e1, ds_off e1]
    have HG := Lib.hid hg
    have HN := Lib.hid hn
    clear e1 hg hs hd hn
    go_enter Try.func47, Try.ntmps47
    go_wp2_with fail
    refine (l2Good_any P Q G _).mono ?_
    rw [HG.out]
    rintro e w1 ⟨rfl, hb1⟩
    have HB1 := Lib.hid (bt HB.out hb1)
    clear hb1
    go_wp2_with fail
    refine (l1In_any _ _ _ _).mono ?_
    rw [HN.out]
    rintro e w' ⟨rfl, rfl⟩
    go_wp2
    go_ret2
    exact listOut_nil _ _ HB1.out
  obtain ⟨n0, n1⟩ := inB_true.1 hn
  obtain ⟨m, rfl⟩ := Int.eq_ofNat_of_zero_le n0
  have hm : m ≤ 100 := by omega
  have HN := Lib.hid hn
  have HG := Lib.hid hg
  have HDE := Lib.hid hd
  obtain ⟨i0, hi, hz0, hz1, hz2⟩ := info_parts Try.info3
  have HNN := Lib.hid (fun k : Nat => derS_nn hg s k 1000 0)
  clear hd hg hn hs
  go_enter Try.func47, Try.ntmps47
  go_wp2_with fail
  refine (l2Good_any P Q G _).mono ?_
  rw [HG.out]
  rintro e w1 ⟨rfl, hb1⟩
  have HB1 := Lib.hid (bt HB.out hb1)
  have HV1 := Lib.hid (HV.out.below hb1)
  clear hb1 c0 c1 c2
  go_wp2_with fail
  refine (l1In_any _ _ _ _).mono ?_
  rw [HN.out]
  rintro e w' ⟨rfl, rfl⟩
  have hwl : w.heap.size < w1.heap.size := HV1.out.lt
  go_wp2
  go_loopw [8, 9, 10] (fun V K _ wr => ∃ (k : Nat) (va : Option Addr) (vc : Nat), k ≤ m ∧ K = .int .i64 k ∧ V = .slice va k vc ∧ GR wr w.heap.size P Q G ∧ wr.ownsRow w1.heap.size 3 1 (.slice va k vc) k (((dsL P Q G s m).take k).map (Value.int .i64)) ∧ Below w.heap.size w wr ∧ w1.heap.size ≤ wr.heap.size ∧ Hid (∀ j, j < k → 0 < derV P Q G s j)) (fun _ K _ _ => m - (intOf K).toNat)
  case atStart => exact ⟨0, none, 0, Nat.zero_le _, rfl, rfl, HV1.out, World.ownsRow_nil _ _ _ _, HB1.out, Nat.le_refl _, Lib.hid (fun j hj => absurd hj (Nat.not_lt_zero j))⟩
  case round =>
    obtain ⟨k, va, vc, hk, rfl, rfl, hgr, hown, hbel, hszr, HPOS⟩ := hrel
    have HGr := Lib.hid hgr
    have HO := Lib.hid hown
    have HBr := Lib.hid hbel
    clear hown hbel
    by_cases hkm : k < m
    · have hki : (k : Int) < (m : Int) := by omega
      obtain ⟨c0, c1, c2⟩ := hgr
      go_wp2_with fail
      refine (hDerived_any P Q G HG.out s hs40 k (by omega) (by omega) _).mono ?_
      rintro e w3 ⟨rfl, hb3⟩
      have HG3 := Lib.hid (HGr.out.below hb3)
      have HO3 := Lib.hid (own_below HO.out hb3)
      have HB3 := Lib.hid (HBr.out.trans (hb3.mono HBr.out.size))
      have hsz3 : w1.heap.size ≤ w3.heap.size := Nat.le_trans hszr hb3.size
      clear hb3 c0 c1 c2
      by_cases hpos : 0 < derV P Q G s k
      · have hpb : (derV P Q G s k == 0) = false := by simp; omega
        have HP := Lib.hid (pos_step HPOS.out hpos)
        have HT := Lib.hid (dsL_take (P := P) (Q := Q) (G := G) (s := s) hkm)
        clear hpos
        go_wp2_with (at_builtin; refine wpList_append_ints rfl _ _ 24 rfl w1.heap.size 3 i0 Try.underlying24 hi hz0 hz1 hz2 _ k ((dsL P Q G s m).take k) rfl (HO3.out.alloc _) (some ⟨w3.heap.size, 0, none⟩) 1 1 [derV P Q G s k] rfl rfl (ints_spot w3 _ rfl [derV P Q G s k] 3) (fun h => by cases h) (by omega) (by simp; omega) ?_)
        intro v' w4 hown' hgrow
        obtain ⟨va', vc', rfl⟩ := own_shape hown'
        have HO4 := Lib.hid hown'
        have hal := ba w3 (.cells #[.int .i64 (derV P Q G s k)] 3)
        have HG4 := Lib.hid (gr_grown (HG3.out.below hal) hgrow (fun e => by have h := (HO3.out.lt _ e.symm).1; omega))
        have HB4 := Lib.hid ((HB3.out.trans (hal.mono HB3.out.size)).grown hgrow (Nat.le_trans HB3.out.size hal.size) (fun q hq => Nat.le_trans (Nat.le_of_lt hwl) (HO3.out.lt q hq).1))
        have hsz4 : w1.heap.size ≤ w4.heap.size := Nat.le_trans hsz3 (Nat.le_trans hal.size hgrow.size)
        clear hown' hgrow hal
        go_wp2
        go_roundw
        case rel => exact ⟨k + 1, va', vc', by omega, by go_num, rfl, HG4.out, by rw [HT.out]; simpa using HO4.out, HB4.out, hsz4, HP⟩
        case measure => simp only [intOf]; omega
      · have hz : derV P Q G s k = 0 := by have : 0 ≤ derV P Q G s k := HNN.out k; omega
        have hpb : (derV P Q G s k == 0) = true := by simp [hz]
        have HBAD := Lib.hid (ds_bad hkm hpos)
        clear hpos hz
        go_wp2
        go_ret2
        rw [HBAD.out, ds_off HBAD.out]
        exact listOut_nil _ _ HB3.out
    · have hki : (m : Int) ≤ (k : Int) := by omega
      obtain rfl : k = m := by omega
      clear hgr
      go_wp2
      go_ret2
      obtain ⟨h1, h2⟩ := ds_good HDE.out hm HPOS.out
      rw [h1, h2]
      have h3 := HO.out
      rw [List.take_of_length_le (by rw [dsL_length]; exact Nat.le_refl _)] at h3
      exact ⟨_, _, _, rfl, own_base h3 (Nat.le_of_lt hwl), HBr.out⟩

end Go.Proofs.Ytdnofcpobpoehaa

/- Challenges of the program and of the reference. -/
namespace Go.Proofs.Ytdnofcpobpoehaa
open Go.RowKit

/-! ### The plain facts -/
def chL (P Q G : Int) (s : ByteArray) (zs : List Int) (m : Nat) : List Int := (List.range m).map fun (k : Nat) => chX P Q G s (zs ++ [(k : Int)])
theorem chL_length (P Q G : Int) (s : ByteArray) (zs : List Int) (m : Nat) : (chL P Q G s zs m).length = m := by simp [chL]
theorem chL_drop {P Q G : Int} {s : ByteArray} {zs : List Int} {m k : Nat} (h : k < m) : (chL P Q G s zs m).drop k = chX P Q G s (zs ++ [(k : Int)]) :: (chL P Q G s zs m).drop (k + 1) := by
  rw [List.drop_eq_getElem_cons (by rw [chL_length]; exact h)]
  congr 1
  simp [chL]
theorem chL_take {P Q G : Int} {s : ByteArray} {zs : List Int} {m k : Nat} (h : k < m) : (chL P Q G s zs m).take (k + 1) = (chL P Q G s zs m).take k ++ [chX P Q G s (zs ++ [(k : Int)])] := by
  rw [List.take_succ_eq_append_getElem (by rw [chL_length]; exact h)]
  congr 2
  simp [chL]
def csOk (P Q G : Int) (s : ByteArray) (zs : List Int) (n : Int) : Bool := chB P Q G s zs 4 && inB n 0 100
def csV (P Q G : Int) (s : ByteArray) (zs : List Int) (n : Int) : List Int := if csOk P Q G s zs n then chL P Q G s zs n.toNat else []
theorem cs_off {P Q G : Int} {s : ByteArray} {zs : List Int} {n : Int} (h : csOk P Q G s zs n = false) : csV P Q G s zs n = [] := by simp [csV, h]
theorem csV_length {P Q G : Int} {s : ByteArray} {zs : List Int} {n : Int} : (csV P Q G s zs n).length ≤ 100 := by
  unfold csV
  split
  · rename_i h
    unfold csOk at h
    rw [Bool.and_eq_true, inB_true] at h
    rw [chL_length]; omega
  · simp
theorem chX_state (P Q G : Int) (s : ByteArray) (zs : List Int) (c : Int) : chX P Q G s (zs ++ [c]) =
    (2147483648 * hab 48271 (hfold 48271 (gst 48271 1 P Q G s (zs.length + 1)) zs) c + hab 69621 (hfold 69621 (gst 69621 2 P Q G s (zs.length + 1)) zs) c) % Q := by
  unfold chX
  have h := hlab_gst P Q G s (zs ++ [c])
  rw [show ((zs ++ [c]).length : Int) = zs.length + 1 by simp, hfold_append, hfold_append] at h
  rw [h]; rfl

/-! ### The reference -/
end Go.Proofs.Ytdnofcpobpoehaa

/- Challenges: both functions. -/
namespace Go.Proofs.Ytdnofcpobpoehaa
open Go.RowKit

theorem gh_sets {w : World} {b d : Nat} {P Q G X Y : Int} (h : GH w b P Q G d X Y) (a : Addr) (v : Value) (h1 : a.block ≠ b) (h2 : a.block ≠ d) :
    (w.setCell a v).cell? ⟨b, 0, none⟩ = some (.int .i64 P) ∧ (w.setCell a v).cell? ⟨b, 1, none⟩ = some (.int .i64 Q) ∧ (w.setCell a v).cell? ⟨b, 2, none⟩ = some (.int .i64 G) ∧ (w.setCell a v).cell? ⟨d, 0, none⟩ = some (.int .i64 X) ∧ (w.setCell a v).cell? ⟨d, 1, none⟩ = some (.int .i64 Y) := by
  obtain ⟨c0, c1, c2, d0, d1⟩ := h
  have nb : ∀ j, a ≠ (⟨b, j, none⟩ : Addr) := fun j e => h1 (by rw [e])
  have nd : ∀ j, a ≠ (⟨d, j, none⟩ : Addr) := fun j e => h2 (by rw [e])
  refine ⟨?_, ?_, ?_, ?_, ?_⟩
  · rw [World.cell?_setCell_other _ _ _ _ (nb 0)]; exact c0
  · rw [World.cell?_setCell_other _ _ _ _ (nb 1)]; exact c1
  · rw [World.cell?_setCell_other _ _ _ _ (nb 2)]; exact c2
  · rw [World.cell?_setCell_other _ _ _ _ (nd 0)]; exact d0
  · rw [World.cell?_setCell_other _ _ _ _ (nd 1)]; exact d1

theorem own_listOut {w w' : World} {zs : List Int} {va : Option Addr} {vc : Nat} (h : w'.ownsRow w.heap.size 3 1 (.slice va zs.length vc) zs.length (zs.map (Value.int .i64))) (hb : Below w.heap.size w w') (n : Nat) (hn : zs.length = n) :
    ListOut w zs true (.returned (.tuple #[.slice va n vc, .bool true])) w' := ⟨va, n, vc, rfl, by rw [← hn]; exact h, hb⟩

end Go.Proofs.Ytdnofcpobpoehaa

