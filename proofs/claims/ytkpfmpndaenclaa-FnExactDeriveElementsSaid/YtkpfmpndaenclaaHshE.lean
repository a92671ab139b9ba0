/- The program's hash state behind a group. -/
import Derived.Test.YtkpfmpndaenclaaHshD
import Derived.Deep.RegionHeld3
namespace Go.Proofs.Ytkpfmpndaenclaa
open Go.RowKit

set_option maxRecDepth 100000 in
set_option maxHeartbeats 3200000 in
theorem gStart_any (P Q G : Int) (hP : 0 ≤ P ∧ P ≤ 2000000000) (hQ : 2 ≤ Q ∧ Q ≤ 2000000000) (hG : 0 ≤ G ∧ G ≤ 2000000000) (s : ByteArray) (hs : s.size ≤ 1048576) (n : Int) (n0 : 0 ≤ n) (n1 : n ≤ 1000000000000) (w : World) :
    Calls Try.prog 96 #[gv P Q G, .string s, .int .i64 n] w fun e w' => e = .returned (hv (gst 48271 1 P Q G s n) (gst 69621 2 P Q G s n)) ∧ Below w.heap.size w w' := by
  have hal := ba (w.alloc (.cells #[.int .i64 P, .int .i64 Q, .int .i64 G] 24)) (.cells #[.int .i64 0, .int .i64 0] 88)
  have HV0 := Lib.hid (show GR ((w.alloc (.cells #[.int .i64 P, .int .i64 Q, .int .i64 G] 24)).alloc (.cells #[.int .i64 0, .int .i64 0] 88)) w.heap.size P Q G from (gr_new w P Q G _).below hal)
  have HR0 := Lib.hid (show HS ((w.alloc (.cells #[.int .i64 P, .int .i64 Q, .int .i64 G] 24)).alloc (.cells #[.int .i64 0, .int .i64 0] 88)) (w.heap.size + 1) 0 0 from by
    have h := hs_new (w.alloc (.cells #[.int .i64 P, .int .i64 Q, .int .i64 G] 24)) 0 0 88
    rw [show (w.alloc (.cells #[.int .i64 P, .int .i64 Q, .int .i64 G] 24)).heap.size = w.heap.size + 1 by simp] at h
    exact h)
  have HB0 := Lib.hid (show Below w.heap.size w ((w.alloc (.cells #[.int .i64 P, .int .i64 Q, .int .i64 G] 24)).alloc (.cells #[.int .i64 0, .int .i64 0] 88)) from bt (ba _ _) hal)
  have HSZ := Lib.hid (show ((w.alloc (.cells #[.int .i64 P, .int .i64 Q, .int .i64 G] 24)).alloc (.cells #[.int .i64 0, .int .i64 0] 88)).heap.size = w.heap.size + 1 + 1 from by simp)
  have HRG := Lib.hid (show ∀ z ∈ [P, Q, G], 0 ≤ z ∧ z ≤ 4611686018427387903 from by
    intro z hz
    simp only [List.mem_cons, List.not_mem_nil, or_false] at hz
    omega)
  have hne : w.heap.size + 1 ≠ w.heap.size := by omega
  have hws : IntKind.i64.wrap (3 + n) = 3 + n := by rw [IntKind.wrap_i64]; omega
  have hw3 : 0 ≤ 3 + n := by omega
  clear hal
  go_enter Try.func96, Try.ntmps96
  go_wp2_with fail
  obtain ⟨c0, c1, c2⟩ := HV0.out
  go_region_held3 (fun w' => w'.cell? ⟨w.heap.size, 0, none⟩ = some (.int .i64 P) ∧ w'.cell? ⟨w.heap.size, 1, none⟩ = some (.int .i64 Q) ∧ w'.cell? ⟨w.heap.size, 2, none⟩ = some (.int .i64 G)) (first | with_reducible exact ⟨x0, x1, x2⟩ | with_reducible exact gr_alc HV2.out _ | with_reducible exact gr_alcd HV0.out _ | with_reducible exact ⟨y0, y1, y2⟩ | exact ⟨c0, c1, c2⟩ | exact gr_two HV3.out hne _ _) ((first
    | (go_at_call 93; refine (startLabelled_any s (3 + n) hs (by omega) (by omega) _).mono ?_; rintro e w2 ⟨rfl, hb2⟩; first | (have hbr : Below ((w.alloc (.cells #[.int .i64 P, .int .i64 Q, .int .i64 G] 24)).alloc (.cells #[.int .i64 0, .int .i64 0] 88)).drew.heap.size ((w.alloc (.cells #[.int .i64 P, .int .i64 Q, .int .i64 G] 24)).alloc (.cells #[.int .i64 0, .int .i64 0] 88)).drew w2 := (by with_reducible exact hb2); have HB2 := Lib.hid (bt HB0.out.drew hb2); have HV2 := Lib.hid (GR.below (GR.drew HV0.out) hb2); have HR2 := Lib.hid (HS.below (HS.drew HR0.out) hb2); obtain ⟨x0, x1, x2⟩ := HV2.out; clear hb2 hbr) | (have hal2 := ba ((w.alloc (.cells #[.int .i64 P, .int .i64 Q, .int .i64 G] 24)).alloc (.cells #[.int .i64 0, .int .i64 0] 88)) (.cells #[.int .i64 P, .int .i64 Q, .int .i64 G] 3); have HB2 := Lib.hid (bt (bt HB0.out hal2).drew hb2); have HV2 := Lib.hid (GR.below (GR.drew (HV0.out.below hal2)) hb2); have HR2 := Lib.hid (HS.below (HS.drew (HR0.out.below hal2)) hb2); have HLa := Lib.hid (IsInts.below (w := (((w.alloc (.cells #[.int .i64 P, .int .i64 Q, .int .i64 G] 24)).alloc (.cells #[.int .i64 0, .int .i64 0] 88)).alloc (.cells #[.int .i64 P, .int .i64 Q, .int .i64 G] 3)).drew) (ints_spot ((w.alloc (.cells #[.int .i64 P, .int .i64 Q, .int .i64 G] 24)).alloc (.cells #[.int .i64 0, .int .i64 0] 88)) (w.heap.size + 1 + 1) HSZ.out [P, Q, G] 3) hb2 (Nat.le_refl _)); obtain ⟨x0, x1, x2⟩ := HV2.out; clear hb2 hal2))
    | (have HLx := HLa; go_at_call 88; refine (absorb_any _ _ (hb_st _ _ _ _) _ 3 3 [P, Q, G] rfl (by decide) HRG.out _ HLa.out).mono ?_; rintro e w3 ⟨rfl, hb3⟩; have HB3 := Lib.hid (bt HB2.out hb3); have HV3 := Lib.hid (HV2.out.below hb3); have HR3 := Lib.hid (HR2.out.below hb3); obtain ⟨y0, y1, y2⟩ := HV3.out; obtain ⟨d0, d1, df⟩ := HR3.out; have df0 := df 0; have df1 := df 1; clear df hb3)
    | (go_at_call 88; refine (absorb_any _ _ (hb_st _ _ _ _) _ 3 3 [P, Q, G] rfl (by decide) HRG.out _ (ints_spot w2 _ rfl [P, Q, G] 3)).mono ?_; rintro e w3 ⟨rfl, hb3⟩; have hal3 := ba w2 (.cells #[.int .i64 P, .int .i64 Q, .int .i64 G] 3); have HB3 := Lib.hid (bt (bt HB2.out hal3) hb3); have HV3 := Lib.hid ((HV2.out.below hal3).below hb3); have HR3 := Lib.hid ((HR2.out.below hal3).below hb3); obtain ⟨y0, y1, y2⟩ := HV3.out; obtain ⟨d0, d1, df⟩ := HR3.out; have df0 := df 0; have df1 := df 1; clear df hb3 hal3)))
  all_goals (
    go_wp2
    (try simp only [Exit.inBlock, Exit.then])
    refine bodyPost_ret (v := hv (gst 48271 1 P Q G s n) (gst 69621 2 P Q G s n)) ?_ rfl ⟨rfl, ?_⟩
    · rw [results_cell_one rfl]; go_simp; first | exact ⟨rfl, rfl⟩ | rfl
    · first | exact (HB3.out.setCell (Nat.le_succ _) _).setCell (Nat.le_succ _) _ | exact ((HB3.out.drew).setCell (Nat.le_succ _) _).setCell (Nat.le_succ _) _)

end Go.Proofs.Ytkpfmpndaenclaa
