/- Challenge of the program and of the reference. -/
import Derived.Test.YtdnofcpobpoehaaHshC
import Derived.Test.YtdnofcpobpoehaaG1
import Derived.Deep.RegionHeld3
import Derived.Deep.RegionLaw
namespace Go.Proofs.Ytdnofcpobpoehaa
open Go.RowKit

/-! ### The plain facts -/
def chB (P Q G : Int) (s : ByteArray) (zs : List Int) (m : Int) : Bool := goodB P Q G && hashL s zs m
def chX (P Q G : Int) (s : ByteArray) (zs : List Int) : Int := hlab s (P :: Q :: G :: zs) % Q
def chV (P Q G : Int) (s : ByteArray) (zs : List Int) : Int := if chB P Q G s zs 3 then chX P Q G s zs else 0
theorem chB_true {P Q G : Int} {s : ByteArray} {zs : List Int} {m : Int} : chB P Q G s zs m = true ↔ goodB P Q G = true ∧ labB s (zs.length + m) = true ∧ digsB zs = true := by
  unfold chB; rw [Bool.and_eq_true, hashL_true]
/-- The state behind the group's three numbers. -/
def gst (c i : Int) (P Q G : Int) (s : ByteArray) (n : Int) : Int := hfold c (hst c i s (3 + n)) [P, Q, G]
theorem hb_gst (P Q G : Int) (s : ByteArray) (n : Int) : HB2 (gst 48271 1 P Q G s n) (gst 69621 2 P Q G s n) := hb_fold _ _ _ _ _ _ (hb_st _ _ _ _)
theorem hlab_gst (P Q G : Int) (s : ByteArray) (zs : List Int) : hlab s (P :: Q :: G :: zs) = 2147483648 * hfold 48271 (gst 48271 1 P Q G s zs.length) zs + hfold 69621 (gst 69621 2 P Q G s zs.length) zs := by
  rw [hlab_eq]
  have e : ((P :: Q :: G :: zs).length : Int) = 3 + zs.length := by simp; omega
  rw [e]; rfl
theorem good_rng {P Q G : Int} (h : goodB P Q G = true) : (0 ≤ P ∧ P ≤ 2000000000) ∧ (2 ≤ Q ∧ Q ≤ 2000000000) ∧ 0 ≤ G ∧ G ≤ 2000000000 := by
  have := goodB_true.1 h
  omega
theorem hdig_nn {s t : Int} (h : HB2 s t) : 0 ≤ 2147483648 * s + t ∧ 2147483648 * s + t ≤ 4611686018427387903 := by
  obtain ⟨⟨h1, h2⟩, h3, h4⟩ := h
  omega
theorem gr_dr {w : World} {b : Nat} {P Q G : Int} (h : GR w b P Q G) : w.drew.cell? ⟨b, 0, none⟩ = some (.int .i64 P) ∧ w.drew.cell? ⟨b, 1, none⟩ = some (.int .i64 Q) ∧ w.drew.cell? ⟨b, 2, none⟩ = some (.int .i64 G) := h
theorem gr_alc {w : World} {b : Nat} {P Q G : Int} (h : GR w b P Q G) (o : Obj) : (w.alloc o).cell? ⟨b, 0, none⟩ = some (.int .i64 P) ∧ (w.alloc o).cell? ⟨b, 1, none⟩ = some (.int .i64 Q) ∧ (w.alloc o).cell? ⟨b, 2, none⟩ = some (.int .i64 G) := h.below (ba w o)
theorem gr_alcd {w : World} {b : Nat} {P Q G : Int} (h : GR w b P Q G) (o : Obj) : (w.alloc o).drew.cell? ⟨b, 0, none⟩ = some (.int .i64 P) ∧ (w.alloc o).drew.cell? ⟨b, 1, none⟩ = some (.int .i64 Q) ∧ (w.alloc o).drew.cell? ⟨b, 2, none⟩ = some (.int .i64 G) := GR.drew (h.below (ba w o))
theorem HS.drew {w : World} {b : Nat} {s t : Int} (h : HS w b s t) : HS w.drew b s t := h
theorem gr_two {w : World} {b c : Nat} {P Q G : Int} (h : GR w b P Q G) (hne : c ≠ b) (x y : Value) :
    ((w.setCell ⟨c, 0, none⟩ x).setCell ⟨c, 1, none⟩ y).cell? ⟨b, 0, none⟩ = some (.int .i64 P) ∧ ((w.setCell ⟨c, 0, none⟩ x).setCell ⟨c, 1, none⟩ y).cell? ⟨b, 1, none⟩ = some (.int .i64 Q) ∧ ((w.setCell ⟨c, 0, none⟩ x).setCell ⟨c, 1, none⟩ y).cell? ⟨b, 2, none⟩ = some (.int .i64 G) := by
  have ne : ∀ i j, (⟨c, i, none⟩ : Addr) ≠ ⟨b, j, none⟩ := fun i j e => hne (by simpa using congrArg Addr.block e)
  obtain ⟨c0, c1, c2⟩ := h
  refine ⟨?_, ?_, ?_⟩
  · rw [World.cell?_setCell_other _ _ _ _ (ne _ _), World.cell?_setCell_other _ _ _ _ (ne _ _)]; exact c0
  · rw [World.cell?_setCell_other _ _ _ _ (ne _ _), World.cell?_setCell_other _ _ _ _ (ne _ _)]; exact c1
  · rw [World.cell?_setCell_other _ _ _ _ (ne _ _), World.cell?_setCell_other _ _ _ _ (ne _ _)]; exact c2

/-! ### The program -/
set_option maxHeartbeats 1600000 in
theorem canChallenge_any (P Q G : Int) (s : ByteArray) (hs : s.size ≤ 1048576) (ad : Option Addr) (n cap : Nat) (zs : List Int) (hn : zs.length = n) (hl : n ≤ 1000000000000) (m : Int) (m0 : 0 ≤ m) (m1 : m ≤ 1000) (w : World) (hz : IsInts w ad zs) :
    Calls Try.prog 95 #[gv P Q G, .string s, .slice ad n cap, .int .i64 m] w fun e w' => e = .returned (.bool (chB P Q G s zs (3 + m))) ∧ Below w.heap.size w w' := by
  have hn0 : 0 ≤ (n : Int) ∧ (n : Int) ≤ 1000000000000 := by omega
  obtain ⟨n0, n1⟩ := hn0
  have el : labB s (zs.length + (3 + m)) = labB s (3 + n + m) := by
    congr 1; omega
  have HZ := Lib.hid (hz.below (ba w (.cells #[.int .i64 P, .int .i64 Q, .int .i64 G] 29)) (Nat.le_refl _))
  have HN := Lib.hid hn
  clear hn hz
  cases hg : goodB P Q G
  · have e1 : chB P Q G s zs (3 + m) = false := by simp [chB, hg]
    rw [e1]
    have HG := Lib.hid hg
    clear hg e1 el
    go_enter Try.func95, Try.ntmps95
    go_wp2_with fail
    refine (isValidGroup_any P Q G _).mono ?_
    rw [HG.out]
    rintro e w1 ⟨rfl, hb1⟩
    have HB1 := Lib.hid (bt (ba _ _) hb1)
    clear hb1
    go_wp2
    go_ret
    exact ⟨rfl, HB1.out⟩
  cases hb : labB s (3 + n + m)
  · have e1 : chB P Q G s zs (3 + m) = false := by rw [← Bool.not_eq_true, chB_true, el, hb]; simp
    rw [e1]
    have HG := Lib.hid hg
    have HL := Lib.hid hb
    clear hg e1 el hb
    go_enter Try.func95, Try.ntmps95
    go_wp2_with fail
    refine (isValidGroup_any P Q G _).mono ?_
    rw [HG.out]
    rintro e w1 ⟨rfl, hb1⟩
    have HB1 := Lib.hid (bt (ba _ _) hb1)
    clear hb1
    go_wp2_with fail
    refine (canHash_any s _ hs (by omega) (by omega) _).mono ?_
    rw [HL.out]
    rintro e w' ⟨rfl, rfl⟩
    go_wp2
    go_ret
    exact ⟨rfl, HB1.out⟩
  have e1 : chB P Q G s zs (3 + m) = digsB zs := by
    rw [Bool.eq_iff_iff, chB_true, el, hb, hg]; simp
  rw [e1]
  have HG := Lib.hid hg
  have HL := Lib.hid hb
  clear hg e1 el hb
  go_enter Try.func95, Try.ntmps95
  go_wp2_with fail
  refine (isValidGroup_any P Q G _).mono ?_
  rw [HG.out]
  rintro e w1 ⟨rfl, hb1⟩
  have HB1 := Lib.hid (bt (ba _ _) hb1)
  have HZ1 := Lib.hid (HZ.out.below hb1 (Nat.le_refl _))
  clear hb1
  go_wp2_with fail
  refine (canHash_any s _ hs (by omega) (by omega) _).mono ?_
  rw [HL.out]
  rintro e w' ⟨rfl, rfl⟩
  go_wp2_with fail
  refine (areDigests_any _ _ _ zs HN.out (by omega) _ HZ1.out).mono ?_
  rintro e w' ⟨rfl, rfl⟩
  go_wp2
  go_ret
  exact ⟨rfl, HB1.out⟩

end Go.Proofs.Ytdnofcpobpoehaa

/- The program's hash state behind a group. -/
namespace Go.Proofs.Ytdnofcpobpoehaa
open Go.RowKit

set_option maxRecDepth 100000 in
set_option maxHeartbeats 3200000 in
theorem gStart_any (P Q G : Int) (hP : 0 ≤ P ∧ P ≤ 2000000000) (hQ : 2 ≤ Q ∧ Q ≤ 2000000000) (hG : 0 ≤ G ∧ G ≤ 2000000000) (s : ByteArray) (hs : s.size ≤ 1048576) (n : Int) (n0 : 0 ≤ n) (n1 : n ≤ 1000000000000) (w : World) :
    Calls Try.prog 141 #[gv P Q G, .string s, .int .i64 n] w fun e w' => e = .returned (hv (gst 48271 1 P Q G s n) (gst 69621 2 P Q G s n)) ∧ Below w.heap.size w w' := by
  have hal := ba (w.alloc (.cells #[.int .i64 P, .int .i64 Q, .int .i64 G] 29)) (.cells #[.int .i64 0, .int .i64 0] 164)
  have HV0 := Lib.hid (show GR ((w.alloc (.cells #[.int .i64 P, .int .i64 Q, .int .i64 G] 29)).alloc (.cells #[.int .i64 0, .int .i64 0] 164)) w.heap.size P Q G from (gr_new w P Q G _).below hal)
  have HR0 := Lib.hid (show HS ((w.alloc (.cells #[.int .i64 P, .int .i64 Q, .int .i64 G] 29)).alloc (.cells #[.int .i64 0, .int .i64 0] 164)) (w.heap.size + 1) 0 0 from by
    have h := hs_new (w.alloc (.cells #[.int .i64 P, .int .i64 Q, .int .i64 G] 29)) 0 0 164
    rw [show (w.alloc (.cells #[.int .i64 P, .int .i64 Q, .int .i64 G] 29)).heap.size = w.heap.size + 1 by simp] at h
    exact h)
  have HB0 := Lib.hid (show Below w.heap.size w ((w.alloc (.cells #[.int .i64 P, .int .i64 Q, .int .i64 G] 29)).alloc (.cells #[.int .i64 0, .int .i64 0] 164)) from bt (ba _ _) hal)
  have HSZ := Lib.hid (show ((w.alloc (.cells #[.int .i64 P, .int .i64 Q, .int .i64 G] 29)).alloc (.cells #[.int .i64 0, .int .i64 0] 164)).heap.size = w.heap.size + 1 + 1 from by simp)
  have HRG := Lib.hid (show ∀ z ∈ [P, Q, G], 0 ≤ z ∧ z ≤ 4611686018427387903 from by
    intro z hz
    simp only [List.mem_cons, List.not_mem_nil, or_false] at hz
    omega)
  have hne : w.heap.size + 1 ≠ w.heap.size := by omega
  have hws : IntKind.i64.wrap (3 + n) = 3 + n := by rw [IntKind.wrap_i64]; omega
  have hw3 : 0 ≤ 3 + n := by omega
  clear hal
  go_enter Try.func141, Try.ntmps141
  go_wp2_with fail
  obtain ⟨c0, c1, c2⟩ := HV0.out
  go_region_held3 (fun w' => w'.cell? ⟨w.heap.size, 0, none⟩ = some (.int .i64 P) ∧ w'.cell? ⟨w.heap.size, 1, none⟩ = some (.int .i64 Q) ∧ w'.cell? ⟨w.heap.size, 2, none⟩ = some (.int .i64 G)) (first | with_reducible exact ⟨x0, x1, x2⟩ | with_reducible exact gr_alc HV2.out _ | with_reducible exact gr_alcd HV0.out _ | with_reducible exact ⟨y0, y1, y2⟩ | exact ⟨c0, c1, c2⟩ | exact gr_two HV3.out hne _ _) ((first
    | (go_at_call 166; refine (startLabelled_any s (3 + n) hs (by omega) (by omega) _).mono ?_; rintro e w2 ⟨rfl, hb2⟩; first | (have hbr : Below ((w.alloc (.cells #[.int .i64 P, .int .i64 Q, .int .i64 G] 29)).alloc (.cells #[.int .i64 0, .int .i64 0] 164)).drew.heap.size ((w.alloc (.cells #[.int .i64 P, .int .i64 Q, .int .i64 G] 29)).alloc (.cells #[.int .i64 0, .int .i64 0] 164)).drew w2 := (by with_reducible exact hb2); have HB2 := Lib.hid (bt HB0.out.drew hb2); have HV2 := Lib.hid (GR.below (GR.drew HV0.out) hb2); have HR2 := Lib.hid (HS.below (HS.drew HR0.out) hb2); obtain ⟨x0, x1, x2⟩ := HV2.out; clear hb2 hbr) | (have hal2 := ba ((w.alloc (.cells #[.int .i64 P, .int .i64 Q, .int .i64 G] 29)).alloc (.cells #[.int .i64 0, .int .i64 0] 164)) (.cells #[.int .i64 P, .int .i64 Q, .int .i64 G] 3); have HB2 := Lib.hid (bt (bt HB0.out hal2).drew hb2); have HV2 := Lib.hid (GR.below (GR.drew (HV0.out.below hal2)) hb2); have HR2 := Lib.hid (HS.below (HS.drew (HR0.out.below hal2)) hb2); have HLa := Lib.hid (IsInts.below (w := (((w.alloc (.cells #[.int .i64 P, .int .i64 Q, .int .i64 G] 29)).alloc (.cells #[.int .i64 0, .int .i64 0] 164)).alloc (.cells #[.int .i64 P, .int .i64 Q, .int .i64 G] 3)).drew) (ints_spot ((w.alloc (.cells #[.int .i64 P, .int .i64 Q, .int .i64 G] 29)).alloc (.cells #[.int .i64 0, .int .i64 0] 164)) (w.heap.size + 1 + 1) HSZ.out [P, Q, G] 3) hb2 (Nat.le_refl _)); obtain ⟨x0, x1, x2⟩ := HV2.out; clear hb2 hal2))
    | (have HLx := HLa; go_at_call 142; refine (absorb_any _ _ (hb_st _ _ _ _) _ 3 3 [P, Q, G] rfl (by decide) HRG.out _ HLa.out).mono ?_; rintro e w3 ⟨rfl, hb3⟩; have HB3 := Lib.hid (bt HB2.out hb3); have HV3 := Lib.hid (HV2.out.below hb3); have HR3 := Lib.hid (HR2.out.below hb3); obtain ⟨y0, y1, y2⟩ := HV3.out; obtain ⟨d0, d1, df⟩ := HR3.out; have df0 := df 0; have df1 := df 1; clear df hb3)
    | (go_at_call 142; refine (absorb_any _ _ (hb_st _ _ _ _) _ 3 3 [P, Q, G] rfl (by decide) HRG.out _ (ints_spot w2 _ rfl [P, Q, G] 3)).mono ?_; rintro e w3 ⟨rfl, hb3⟩; have hal3 := ba w2 (.cells #[.int .i64 P, .int .i64 Q, .int .i64 G] 3); have HB3 := Lib.hid (bt (bt HB2.out hal3) hb3); have HV3 := Lib.hid ((HV2.out.below hal3).below hb3); have HR3 := Lib.hid ((HR2.out.below hal3).below hb3); obtain ⟨y0, y1, y2⟩ := HV3.out; obtain ⟨d0, d1, df⟩ := HR3.out; have df0 := df 0; have df1 := df 1; clear df hb3 hal3)))
  all_goals (
    go_wp2
    (try simp only [Exit.inBlock, Exit.then])
    refine bodyPost_ret (v := hv (gst 48271 1 P Q G s n) (gst 69621 2 P Q G s n)) ?_ rfl ⟨rfl, ?_⟩
    · rw [results_cell_one rfl]; go_simp; first | exact ⟨rfl, rfl⟩ | rfl
    · first | exact (HB3.out.setCell (Nat.le_succ _) _).setCell (Nat.le_succ _) _ | exact ((HB3.out.drew).setCell (Nat.le_succ _) _).setCell (Nat.le_succ _) _)

end Go.Proofs.Ytdnofcpobpoehaa

/- Challenge of the program and of the reference: the walks. -/
namespace Go.Proofs.Ytdnofcpobpoehaa
open Go.RowKit

theorem gr_grown {w w' : World} {b : Nat} {P Q G : Int} {r : Option Nat} (h : GR w b P Q G) (hg : w.grownBy w' r) (hne : some b ≠ r) : GR w' b P Q G := by
  obtain ⟨c0, c1, c2⟩ := h
  exact ⟨hg.cell (a := ⟨b, 0, none⟩) c0 hne, hg.cell (a := ⟨b, 1, none⟩) c1 hne, hg.cell (a := ⟨b, 2, none⟩) c2 hne⟩
theorem ints_drew {w : World} {ad : Option Addr} {zs : List Int} (h : IsInts w ad zs) : IsInts w.drew ad zs := h

set_option maxRecDepth 100000 in
set_option maxHeartbeats 3200000 in
theorem challenge_any (P Q G : Int) (s : ByteArray) (hs : s.size ≤ 1048576) (ad : Option Addr) (n cap : Nat) (zs : List Int) (hn : zs.length = n) (hl : n ≤ 1000000000) (w : World) (hz : IsInts w ad zs) :
    Calls Try.prog 160 #[gv P Q G, .string s, .slice ad n cap] w fun e w' => e = .returned (.tuple #[.int .i64 (chV P Q G s zs), .bool (chB P Q G s zs 3)]) ∧ Below w.heap.size w w' := by
  have hal := ba w (.cells #[.int .i64 P, .int .i64 Q, .int .i64 G] 29)
  have HZ := Lib.hid (hz.below hal (Nat.le_refl _))
  have HV := Lib.hid (gr_new w P Q G 29)
  have HB0 := Lib.hid hal
  have HN := Lib.hid hn
  clear hz hal
  obtain ⟨c0, c1, c2⟩ := HV.out
  cases hc : chB P Q G s zs 3
  · have e2 : chV P Q G s zs = 0 := by simp [chV, hc]
    rw [e2]
    have HC := Lib.hid (show chB P Q G s zs (3 + 0) = false from hc)
    clear hc e2 hn
    go_enter Try.func160, Try.ntmps160
    go_wp2_with fail
    refine (canChallenge_any P Q G s hs _ _ _ zs HN.out (by omega) 0 (by decide) (by decide) _ HZ.out).mono ?_
    rw [HC.out]
    rintro e w1 ⟨rfl, hb1⟩
    have HB1 := Lib.hid (bt HB0.out hb1)
    clear hb1
    go_wp2
    go_ret2
    exact ⟨rfl, HB1.out⟩
  · obtain ⟨hg, _, hd⟩ := chB_true.1 hc
    obtain ⟨hP, hQ, hG⟩ := good_rng hg
    have e2 : chV P Q G s zs = (2147483648 * hfold 48271 (gst 48271 1 P Q G s n) zs + hfold 69621 (gst 69621 2 P Q G s n) zs) % Q := by
      have h := hlab_gst P Q G s zs
      rw [hn] at h
      simp only [chV, hc, if_true, chX]
      rw [h]
    rw [e2]
    have HC := Lib.hid (show chB P Q G s zs (3 + 0) = true from hc)
    have HD := Lib.hid (digsB_true.1 hd)
    have hn0 : 0 ≤ (n : Int) ∧ (n : Int) ≤ 1000000000000 := by omega
    obtain ⟨n0, n1⟩ := hn0
    have hqn : Q ≠ 0 := by omega
    have hdn := hdig_nn (hb_fold 48271 69621 _ _ zs zs (hb_gst P Q G s n))
    have HTM := Lib.hid (show (2147483648 * hfold 48271 (gst 48271 1 P Q G s n) zs + hfold 69621 (gst 69621 2 P Q G s n) zs).tmod Q = _ from Int.tmod_eq_emod_of_nonneg hdn.1)
    obtain ⟨hd0, hd1⟩ := hdn
    clear hc e2 hn hg hd
    go_enter Try.func160, Try.ntmps160
    go_wp2_with fail
    refine (canChallenge_any P Q G s hs _ _ _ zs HN.out (by omega) 0 (by decide) (by decide) _ HZ.out).mono ?_
    rw [HC.out]
    rintro e w1 ⟨rfl, hb1⟩
    have HB1 := Lib.hid (bt HB0.out hb1)
    have HZ1 := Lib.hid (HZ.out.below hb1 (Nat.le_refl _))
    have HV1 := Lib.hid (HV.out.below hb1)
    clear hb1 c0 c1 c2
    obtain ⟨c0, c1, c2⟩ := HV1.out
    go_wp2_with fail
    go_region_held3 (fun w' => w'.cell? ⟨w.heap.size, 0, none⟩ = some (.int .i64 P) ∧ w'.cell? ⟨w.heap.size, 1, none⟩ = some (.int .i64 Q) ∧ w'.cell? ⟨w.heap.size, 2, none⟩ = some (.int .i64 G)) (first | with_reducible exact ⟨x0, x1, x2⟩ | with_reducible exact ⟨y0, y1, y2⟩ | with_reducible exact ⟨z0, z1, z2⟩ | exact ⟨c0, c1, c2⟩) ((first
      | (go_at_call 141; refine (gStart_any P Q G hP hQ hG s hs n n0 n1 _).mono ?_; rintro e w2 ⟨rfl, hb2⟩; have HB2 := Lib.hid (bt HB1.out.drew hb2); have HV2 := Lib.hid (GR.below (GR.drew HV1.out) hb2); have HZ2 := Lib.hid (IsInts.below (ints_drew HZ1.out) hb2 (Nat.le_refl _)); obtain ⟨x0, x1, x2⟩ := HV2.out; clear hb2)
      | (go_at_call 142; refine (absorb_any _ _ (hb_gst _ _ _ _ _) _ _ _ zs HN.out (by omega) HD.out _ HZ2.out).mono ?_; rintro e w3 ⟨rfl, hb3⟩; have HB3 := Lib.hid (bt HB2.out hb3); have HV3 := Lib.hid (HV2.out.below hb3); obtain ⟨y0, y1, y2⟩ := HV3.out; clear hb3)
      | (go_at_call 143; refine (hdigest_any _ _ (hb_fold _ _ _ _ _ _ (hb_gst _ _ _ _ _)) _).mono ?_; rintro e w4 ⟨rfl, hb4⟩; have HB4 := Lib.hid (bt HB3.out hb4); have HV4 := Lib.hid (HV3.out.below hb4); obtain ⟨z0, z1, z2⟩ := HV4.out; clear hb4)))
    all_goals (
      go_wp2
      go_ret2
      refine ⟨?_, ?_⟩
      · first | rfl | (rw [← HTM.out]; rfl)
      · first | exact HB4.out | exact HB4.out.drew)

/-! ### The reference -/
set_option maxRecDepth 100000 in
set_option maxHeartbeats 3200000 in
theorem hChallenge_any (P Q G : Int) (hP : 0 ≤ P ∧ P ≤ 2000000000) (hQ : 2 ≤ Q ∧ Q ≤ 2000000000) (hG : 0 ≤ G ∧ G ≤ 2000000000) (s : ByteArray) (hs : s.size ≤ 1000000) (ad : Option Addr) (n cap : Nat) (zs : List Int) (hn : zs.length = n) (hl : n ≤ 100000000) (hnil : ad = none → cap = 0) (hd : ∀ z ∈ zs, 0 ≤ z ∧ z ≤ 4611686018427387903) (w : World) (hz : IsInts w ad zs) :
    Calls Try.prog 127 #[gv P Q G, .string s, .slice ad n cap] w fun e w' => e = .returned (.int .i64 (chX P Q G s zs)) ∧ Below w.heap.size w w' := by
  obtain ⟨i0, hi, hz0, hz1, hz2⟩ := info_parts Try.info3
  have hal := ba w (.cells #[.int .i64 P, .int .i64 Q, .int .i64 G] 29)
  have hal2 := ba (w.alloc (.cells #[.int .i64 P, .int .i64 Q, .int .i64 G] 29)) (.cells #[.int .i64 P, .int .i64 Q, .int .i64 G] 3)
  have HV := Lib.hid (gr_new w P Q G 29)
  have HV2 := Lib.hid (HV.out.below hal2)
  have HB2 := Lib.hid (bt hal hal2)
  have HZ2 := Lib.hid (ints_drew ((hz.below hal (Nat.le_refl _)).below hal2 (Nat.le_refl _)))
  have HO2 := Lib.hid (show ((w.alloc (.cells #[.int .i64 P, .int .i64 Q, .int .i64 G] 29)).alloc (.cells #[.int .i64 P, .int .i64 Q, .int .i64 G] 3)).drew.ownsRow (w.heap.size + 1) 3 1 (.slice (some ⟨w.heap.size + 1, 0, none⟩) 3 3) 3 ([P, Q, G].map (Value.int .i64)) from by
    have h := own_lit (w.alloc (.cells #[.int .i64 P, .int .i64 Q, .int .i64 G] 29)) [P, Q, G] (by simp) 3
    rw [show (w.alloc (.cells #[.int .i64 P, .int .i64 Q, .int .i64 G] 29)).heap.size = w.heap.size + 1 by simp] at h
    exact h)
  have HN := Lib.hid hn
  have HNIL := Lib.hid hnil
  have HD := Lib.hid (show ∀ z ∈ [P, Q, G] ++ zs, 0 ≤ z ∧ z ≤ 4611686018427387903 from by
    intro z hzm
    rcases List.mem_append.1 hzm with h | h
    · simp only [List.mem_cons, List.not_mem_nil, or_false] at h
      omega
    · exact hd z h)
  have hqn : Q ≠ 0 := by omega
  have hx := hdig_bd (((hwith s (P :: Q :: G :: zs)).length : Int) :: hwith s (P :: Q :: G :: zs))
  have hd0 : 0 ≤ hlab s (P :: Q :: G :: zs) := hx.1
  have HTM := Lib.hid (show (hlab s (P :: Q :: G :: zs)).tmod Q = hlab s (P :: Q :: G :: zs) % Q from Int.tmod_eq_emod_of_nonneg hd0)
  obtain ⟨c0, c1, c2⟩ := HV.out
  unfold chX
  clear hx hal hal2 hz hn hnil hd
  go_enter Try.func127, Try.ntmps127
  go_wp2_with fail
  go_region_held3 (fun w' => w'.cell? ⟨w.heap.size, 0, none⟩ = some (.int .i64 P) ∧ w'.cell? ⟨w.heap.size, 1, none⟩ = some (.int .i64 Q) ∧ w'.cell? ⟨w.heap.size, 2, none⟩ = some (.int .i64 G)) (first | with_reducible exact ⟨x0, x1, x2⟩ | with_reducible exact ⟨y0, y1, y2⟩ | with_reducible exact gr_alcd HV.out _ | with_reducible exact gr_alc HV.out _ | exact ⟨c0, c1, c2⟩) ((first
    | (refine step_append_ints (by rfl) _ _ _ (by rfl) (w.heap.size + 1) 3 i0 Try.underlying24 hi hz0 hz1 hz2 _ 3 [P, Q, G] (by rfl) HO2.out ad n cap zs (by rfl) HN.out HZ2.out HNIL.out (by omega) (by simp) ?_; intro v' w3 hown hgrow; obtain ⟨va, vc, rfl⟩ := own_shape hown; obtain ⟨hi3, hl3, hnil3⟩ := own_ints hown; have HI3 := Lib.hid hi3; have HL3 := Lib.hid hl3; have HNL3 := Lib.hid hnil3; have HV3 := Lib.hid (gr_grown (GR.drew HV2.out) hgrow (by simp [Value.ownBlock])); have HB3 := Lib.hid (HB2.out.drew.grown hgrow HB2.out.drew.size (fun q hq => by simp [Value.ownBlock] at hq; omega)); obtain ⟨x0, x1, x2⟩ := HV3.out; clear hown hgrow hi3 hl3 hnil3)
    | (go_at_call 145; refine (shLabelled_any s hs _ _ _ ([P, Q, G] ++ zs) HL3.out (by omega) HNL3.out HD.out _ HI3.out).mono ?_; rintro e w4 ⟨rfl, hb4⟩; have HB4 := Lib.hid (bt HB3.out hb4); have HV4 := Lib.hid (HV3.out.below hb4); obtain ⟨y0, y1, y2⟩ := HV4.out; clear hb4)))
  all_goals (
    go_wp2
    go_ret
    refine ⟨?_, ?_⟩
    · first | rfl | (rw [← HTM.out]; rfl)
    · first | exact HB4.out | exact HB4.out.drew)

end Go.Proofs.Ytdnofcpobpoehaa

