/- DeriveElement of the program and of the reference. -/
import Derived.Test.YtkpfmpndaenclaaHshF
import Derived.Test.YtkpfmpndaenclaaG3
namespace Go.Proofs.Ytkpfmpndaenclaa
open Go.RowKit

/-! ### The plain facts -/
def dX (P Q G : Int) (s : ByteArray) (k c : Int) : Int := 1 + hlab s [P, Q, G, k, c] % (P - 1)
def dY (P Q G : Int) (s : ByteArray) (k c : Int) : Int := Num.pow (dX P Q G s k c) ((P - 1) / Q) P
/-- The search from c on. -/
def derS (P Q G : Int) (s : ByteArray) (k : Int) : Nat → Nat → Int
  | 0, _ => 0
  | f + 1, c => if dY P Q G s k c = 1 then derS P Q G s k f (c + 1) else dY P Q G s k c
def derV (P Q G : Int) (s : ByteArray) (k : Int) : Int := derS P Q G s k 1000 0
theorem derS_go {P Q G : Int} {s : ByteArray} {k t : Int} {c : Nat} (hc : c < 1000) (h : t = derS P Q G s k (1000 - c) c) :
    (dY P Q G s k c = 1 → t = derS P Q G s k (1000 - (c + 1)) (c + 1)) ∧ (dY P Q G s k c ≠ 1 → t = dY P Q G s k c) := by
  rw [show 1000 - c = (1000 - (c + 1)) + 1 by omega] at h
  unfold derS at h
  refine ⟨fun h1 => ?_, fun h1 => ?_⟩
  · rw [h, if_pos h1]
  · rw [h, if_neg h1]
theorem hlab_nn (s : ByteArray) (zs : List Int) : 0 ≤ hlab s zs ∧ hlab s zs ≤ 4611686018427387903 := hdig_bd _
theorem dX_bd {P Q G : Int} {s : ByteArray} {k c : Int} (h1 : 2 ≤ P) : 1 ≤ dX P Q G s k c ∧ dX P Q G s k c ≤ P - 1 := by
  unfold dX
  have h2 := Int.emod_nonneg (hlab s [P, Q, G, k, c]) (show P - 1 ≠ 0 by omega)
  have h3 := Int.emod_lt_of_pos (hlab s [P, Q, G, k, c]) (show 0 < P - 1 by omega)
  omega
theorem dY_pos {P Q G : Int} (hg : goodB P Q G = true) (s : ByteArray) (k c : Int) : 0 < dY P Q G s k c := by
  have hb := dX_bd (P := P) (Q := Q) (G := G) (s := s) (k := k) (c := c) (by have := goodB_true.1 hg; omega)
  unfold dY
  generalize dX P Q G s k c = x at hb
  obtain ⟨p, q, g, rfl, rfl, rfl, hp, hq, hd, _, _, _, _, _, _⟩ := good_nat hg
  have hp1 : 1 < p := hp.1
  have hq1 : 1 < q := hq.1
  obtain ⟨n, rfl⟩ := Int.eq_ofNat_of_zero_le (show 0 ≤ x by omega)
  rw [show ((p : Int) - 1) / (q : Int) = (((p - 1) / q : Nat) : Int) by rw [show (p : Int) - 1 = ((p - 1 : Nat) : Int) by omega]; exact (Int.natCast_ediv _ _).symm, Num.pow_eq hp1]
  have h1 := Num.proj_el hp hd (show 1 ≤ n by omega) (show n < p by omega)
  have h2 := Num.el_pos (x := n ^ ((p - 1) / q) % p) hp1 (by omega) h1
  rw [Nat.mod_mod] at h2
  omega
theorem derS_nn {P Q G : Int} (hg : goodB P Q G = true) (s : ByteArray) (k : Int) : ∀ f c, 0 ≤ derS P Q G s k f c
  | 0, _ => Int.le_refl _
  | f + 1, c => by
    unfold derS
    split
    · exact derS_nn hg s k f (c + 1)
    · exact Int.le_of_lt (dY_pos hg s k c)
/-- What DeriveElement asks, and what it answers. -/
def deB (P Q G : Int) (s : ByteArray) : Bool := goodB P Q G && decide ((s.size : Int) ≤ 40)
def deOk (P Q G : Int) (s : ByteArray) (k : Int) : Bool := deB P Q G s && digB k && decide (0 < derV P Q G s k)
def deV (P Q G : Int) (s : ByteArray) (k : Int) : Int := if deB P Q G s && digB k then derV P Q G s k else 0
theorem deB_ch (P Q G : Int) (s : ByteArray) : chB P Q G s [] (3 + 2) = deB P Q G s := by
  rw [Bool.eq_iff_iff, chB_true]
  unfold deB
  rw [Bool.and_eq_true, decide_eq_true_eq, labB_true]
  simp [digsB]
  omega

/-! ### The program -/
def DerPost (w : World) (t : Int) (e : Ending) (w' : World) : Prop := e = .returned (.tuple #[.int .i64 t, .bool (decide (0 < t))]) ∧ Below w.heap.size w w'

/-- A group and a state, each in its block. -/
def GH (w : World) (b : Nat) (P Q G : Int) (d : Nat) (X Y : Int) : Prop := w.cell? ⟨b, 0, none⟩ = some (.int .i64 P) ∧ w.cell? ⟨b, 1, none⟩ = some (.int .i64 Q) ∧ w.cell? ⟨b, 2, none⟩ = some (.int .i64 G) ∧ w.cell? ⟨d, 0, none⟩ = some (.int .i64 X) ∧ w.cell? ⟨d, 1, none⟩ = some (.int .i64 Y)
theorem gh_mk {w : World} {b d : Nat} {P Q G X Y : Int} (h : GR w b P Q G) (k : HS w d X Y) : GH w b P Q G d X Y := ⟨h.1, h.2.1, h.2.2, k.1, k.2.1⟩
theorem gh_in {w : World} {b d : Nat} {P Q G X Y : Int} (h : GH w b P Q G d X Y) : w.cell? ⟨b, 0, none⟩ = some (.int .i64 P) ∧ w.cell? ⟨b, 1, none⟩ = some (.int .i64 Q) ∧ w.cell? ⟨b, 2, none⟩ = some (.int .i64 G) ∧ w.cell? ⟨d, 0, none⟩ = some (.int .i64 X) ∧ w.cell? ⟨d, 1, none⟩ = some (.int .i64 Y) := h
theorem GH.below {w w' : World} {b d : Nat} {P Q G X Y : Int} (h : GH w b P Q G d X Y) (hb : Below w.heap.size w w') : GH w' b P Q G d X Y := by
  obtain ⟨c0, c1, c2, d0, d1⟩ := h
  have hl : b < w.heap.size := World.block_lt_of_cell? w _ c0
  have hm : d < w.heap.size := World.block_lt_of_cell? w _ d0
  exact ⟨(hb.cell (p := ⟨b, 0, none⟩) hl).trans c0, (hb.cell (p := ⟨b, 1, none⟩) hl).trans c1, (hb.cell (p := ⟨b, 2, none⟩) hl).trans c2, (hb.cell (p := ⟨d, 0, none⟩) hm).trans d0, (hb.cell (p := ⟨d, 1, none⟩) hm).trans d1⟩
theorem GH.drew {w : World} {b d : Nat} {P Q G X Y : Int} (h : GH w b P Q G d X Y) : GH w.drew b P Q G d X Y := h
theorem gh_alcd {w : World} {b d : Nat} {P Q G X Y : Int} (h : GH w b P Q G d X Y) (o : Obj) : (w.alloc o).drew.cell? ⟨b, 0, none⟩ = some (.int .i64 P) ∧ (w.alloc o).drew.cell? ⟨b, 1, none⟩ = some (.int .i64 Q) ∧ (w.alloc o).drew.cell? ⟨b, 2, none⟩ = some (.int .i64 G) ∧ (w.alloc o).drew.cell? ⟨d, 0, none⟩ = some (.int .i64 X) ∧ (w.alloc o).drew.cell? ⟨d, 1, none⟩ = some (.int .i64 Y) := GH.drew (h.below (ba w o))

set_option maxRecDepth 100000 in
set_option maxHeartbeats 6400000 in
theorem derive_any (P Q G : Int) (hg : goodB P Q G = true) (s : ByteArray) (hs : s.size ≤ 1000) (k : Int) (k0 : 0 ≤ k) (k1 : k ≤ 4611686018427387903) (w : World) :
    Calls Try.prog 101 #[gv P Q G, .string s, .int .i64 k] w (DerPost w (derV P Q G s k)) := by
  obtain ⟨hP, hQ, hG⟩ := good_rng hg
  have hP3 : 3 ≤ P := (goodB_true.1 hg).1.1
  have HPOS := Lib.hid (fun c => dY_pos hg s k c)
  have HV := Lib.hid (gr_new w P Q G 24)
  have HB := Lib.hid (ba w (.cells #[.int .i64 P, .int .i64 Q, .int .i64 G] 24))
  have hpn : P - 1 ≠ 0 := by omega
  have hwp : IntKind.i64.wrap (P - 1) = P - 1 := by rw [IntKind.wrap_i64]; omega
  obtain ⟨c0, c1, c2⟩ := HV.out
  clear hg
  go_enter Try.func101, Try.ntmps101
  go_wp2_with fail
  refine (gStart_any P Q G hP hQ hG s (by omega) 2 (by decide) (by decide) _).mono ?_
  rintro e w1 ⟨rfl, hb1⟩
  have HB1 := Lib.hid (bt HB.out hb1)
  have HV1 := Lib.hid (HV.out.below hb1)
  clear hb1 c0 c1 c2
  go_wp2_with fail
  refine (absorb_any _ _ (hb_gst _ _ _ _ _) _ 1 1 [k] rfl (by decide) (by simp; omega) _ (ints_spot w1 _ rfl [k] 3)).mono ?_
  rintro e w2 ⟨rfl, hb2⟩
  have e1 : ∀ c i : Int, hfold c i [k] = hab c i k := fun _ _ => rfl
  rw [e1, e1]
  have hal1 := ba w1 (.cells #[.int .i64 k] 3)
  have hal2 := ba w2 (.cells #[.int .i64 (hab 48271 (gst 48271 1 P Q G s 2) k), .int .i64 (hab 69621 (gst 69621 2 P Q G s 2) k)] 88)
  have HB2 := Lib.hid (bt (bt (bt HB1.out hal1) hb2) hal2)
  have HV2 := Lib.hid (((HV1.out.below hal1).below hb2).below hal2)
  have HS2 := Lib.hid (hs_new w2 (hab 48271 (gst 48271 1 P Q G s 2) k) (hab 69621 (gst 69621 2 P Q G s 2) k) 88)
  have HXY := Lib.hid (hb_ab 48271 69621 (gst 48271 1 P Q G s 2) (gst 69621 2 P Q G s 2) k k)
  have HD := Lib.hid (show ∀ c : Int, 2147483648 * hab 48271 (hab 48271 (gst 48271 1 P Q G s 2) k) c + hab 69621 (hab 69621 (gst 69621 2 P Q G s 2) k) c = hlab s [P, Q, G, k, c] from fun c => (hlab_gst P Q G s [k, c]).symm)
  clear e1 hal1 hb2 hal2
  generalize hab 48271 (gst 48271 1 P Q G s 2) k = X at *
  generalize hab 69621 (gst 69621 2 P Q G s 2) k = Y at *
  have HG2 := Lib.hid (gh_mk HV2.out HS2.out)
  clear HV2 HS2 HV1 HB1 HV HB
  go_wp2
  go_loopw [9, 10, 11, 18] (fun _ _ _ K wr => ∃ c : Nat, c ≤ 1000 ∧ K = .int .i64 c ∧ GH wr w.heap.size P Q G w2.heap.size X Y ∧ Below w.heap.size w wr ∧ derV P Q G s k = derS P Q G s k (1000 - c) c) (fun _ _ _ K _ => 1000 - (intOf K).toNat)
  case atStart => exact ⟨0, Nat.zero_le _, rfl, HG2.out, HB2.out, rfl⟩
  case round =>
    obtain ⟨c, hc, rfl, hgh, hbel, he⟩ := hrel
    have HGr := Lib.hid hgh
    have HBr := Lib.hid hbel
    have HE := Lib.hid he
    clear hbel he
    by_cases hcl : c < 1000
    · have hci : (c : Int) < 1000 := by omega
      have hDD := hlab_nn s [P, Q, G, k, c]
      have hD0 : 0 ≤ hlab s [P, Q, G, k, (c : Int)] := hDD.1
      have hDm0 : 0 ≤ hlab s [P, Q, G, k, (c : Int)] % (P - 1) := Int.emod_nonneg _ hpn
      have hDm1 : hlab s [P, Q, G, k, (c : Int)] % (P - 1) < P - 1 := Int.emod_lt_of_pos _ (by omega)
      have hws : IntKind.i64.wrap (1 + hlab s [P, Q, G, k, (c : Int)] % (P - 1)) = 1 + hlab s [P, Q, G, k, (c : Int)] % (P - 1) := by rw [IntKind.wrap_i64]; omega
      have HC := Lib.hid (HD.out c)
      have HPC := Lib.hid (HPOS.out c)
      have HSTEP := Lib.hid (derS_go hcl HE.out)
      have HDB := Lib.hid hDD.2
      clear hDD
      obtain ⟨c0, c1, c2, x0, x1⟩ := hgh
      go_wp2_with fail
      go_region_held3 (fun w' => w'.cell? ⟨w.heap.size, 0, none⟩ = some (.int .i64 P) ∧ w'.cell? ⟨w.heap.size, 1, none⟩ = some (.int .i64 Q) ∧ w'.cell? ⟨w.heap.size, 2, none⟩ = some (.int .i64 G) ∧ w'.cell? ⟨w2.heap.size, 0, none⟩ = some (.int .i64 X) ∧ w'.cell? ⟨w2.heap.size, 1, none⟩ = some (.int .i64 Y)) (first | with_reducible exact gh_in HG3.out | with_reducible exact gh_in HG4.out | with_reducible exact gh_alcd HGr.out _ | exact ⟨c0, c1, c2, x0, x1⟩) ((first
        | (go_at_call 88; refine (absorb_any X Y HXY.out _ 1 1 [(c : Int)] rfl (by decide) (by simp; omega) _ (ints_drew (ints_spot wr _ rfl [(c : Int)] 3))).mono ?_; rintro e w3 ⟨rfl, hb3⟩; have hal3 := (ba wr (.cells #[.int .i64 (c : Int)] 3)); have HB3 := Lib.hid (HBr.out.trans ((bt hal3.drew hb3).mono HBr.out.size)); have HG3 := Lib.hid (GH.below (GH.drew (HGr.out.below hal3)) hb3); clear hb3 hal3)
        | (go_at_call 89; refine (hdigest_any _ _ (hb_fold _ _ _ _ _ _ HXY.out) _).mono ?_; rw [show 2147483648 * hfold 48271 X [(c : Int)] + hfold 69621 Y [(c : Int)] = hlab s [P, Q, G, k, (c : Int)] from HC.out]; rintro e w4 ⟨rfl, hb4⟩; have HB4 := Lib.hid (HB3.out.trans (hb4.mono HB3.out.size)); have HG4 := Lib.hid (HG3.out.below hb4); clear hb4)))
      all_goals (
        obtain ⟨y0, y1, y2, _, _⟩ := HG4.out
        clear c0 c1 c2 x0 x1
        go_wp2_with fail
        refine (project_any P Q G (1 + hlab s [P, Q, G, k, (c : Int)] % (P - 1)) (by omega) (by omega) (by omega) (by omega) (by omega) _).mono ?_
        rw [show Num.pow (1 + hlab s [P, Q, G, k, (c : Int)] % (P - 1)) ((P - 1) / Q) P = dY P Q G s k c from rfl]
        rintro e w5 ⟨rfl, hb5⟩
        have HB5 := Lib.hid (HB4.out.trans (hb5.mono HB4.out.size))
        have HG5 := Lib.hid (HG4.out.below hb5)
        clear hb5 y0 y1 y2
        by_cases h1 : dY P Q G s k c = 1
        · have h1b : (dY P Q G s k c != 1) = false := by simp [h1]
          have HN := Lib.hid (HSTEP.out.1 h1)
          clear h1
          go_wp2
          go_roundw
          case rel => exact ⟨c + 1, by omega, by go_num, HG5.out, HB5.out, HN.out⟩
          case measure => simp only [intOf]; omega
        · have h1b : (dY P Q G s k c != 1) = true := by simp [h1]
          have HN := Lib.hid (HSTEP.out.2 h1)
          clear h1
          go_wp2
          go_ret2
          refine ⟨?_, HB5.out⟩
          rw [HN.out, decide_eq_true HPC.out]; rfl)
    · have hci : (1000 : Int) ≤ (c : Int) := by omega
      obtain rfl : c = 1000 := by omega
      clear hgh
      go_wp2
      go_ret2
      refine ⟨?_, HBr.out⟩
      rw [HE.out]; rfl

end Go.Proofs.Ytkpfmpndaenclaa
