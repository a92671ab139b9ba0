/- What the laws of layer 2 draw: DrawProductOfPowers, DrawLogOf. -/
import Derived.Test.YtkpfmpndaenclaaDrG10
namespace Go.Proofs.Ytkpfmpndaenclaa
open Go.RowKit

theorem results_cell_tmp2 {fn : Func} {p u v : Tmp} {ty : TypeId} (h : fn.results = #[.cell p ty, .tmp u, .tmp v]) (tmps : Array Value) (P : Program) (w : World) :
    (results fn tmps).run P w =
      ((asAddr (tmps.getD p undef)).run P w).andThen fun a w₁ => ((loadVar ty a).run P w₁).andThen fun x w₂ => .ok (.tuple #[x, tmps.getD u undef, tmps.getD v undef]) w₂ := by
  simp only [results, h]
  simp [Sem.run_bind, Result.andThen]
theorem results_cell_tmp3 {fn : Func} {p u v y : Tmp} {ty : TypeId} (h : fn.results = #[.cell p ty, .tmp u, .tmp v, .tmp y]) (tmps : Array Value) (P : Program) (w : World) :
    (results fn tmps).run P w =
      ((asAddr (tmps.getD p undef)).run P w).andThen fun a w₁ => ((loadVar ty a).run P w₁).andThen fun x w₂ => .ok (.tuple #[x, tmps.getD u undef, tmps.getD v undef, tmps.getD y undef]) w₂ := by
  simp only [results, h]
  simp [Sem.run_bind, Result.andThen]

def DrawPop (w : World) (e : Ending) (w' : World) : Prop :=
  ∃ (P Q G : Int) (ad : Option Addr) (n cap : Nat) (zs : List Int) (ad' : Option Addr) (n' cap' : Nat) (es : List Int), e = .returned (.tuple #[gv P Q G, .slice ad n cap, .slice ad' n' cap']) ∧ DB P Q G ∧
    (IsInts w' ad zs ∧ zs.length = n ∧ n ≤ 25) ∧ (IsInts w' ad' es ∧ es.length = n' ∧ n' ≤ 31) ∧ Below w.heap.size w w'
theorem ints_set3 {w : World} {ad : Option Addr} {zs : List Int} {b : Nat} (h : IsInts w ad zs) (x y z : Value) (hne : ∀ a, ad = some a → b + 1 ≤ a.block) : IsInts (((w.setCell ⟨b, 0, none⟩ x).setCell ⟨b, 1, none⟩ y).setCell ⟨b, 2, none⟩ z) ad zs := by
  have hn : ∀ a, ad = some a → a.block ≠ b := fun a ha => by have := hne a ha; omega
  exact ints_set (ints_set (ints_set h _ _ hn) _ _ hn) _ _ hn

set_option maxRecDepth 100000 in
set_option maxHeartbeats 4000000 in
theorem drawProductOfPowers_any (ad : Option Addr) (n cap : Nat) (w : World) (hb : IsB w ad n) :
    Calls Try.prog 22 #[.slice ad n cap] w (DrawPop w) := by
  have hal := ba w (.cells #[.int .i64 0, .int .i64 0, .int .i64 0] 24)
  have HC := Lib.hid (cur_at (w.alloc (.cells #[.int .i64 0, .int .i64 0, .int .i64 0] 24)) (w.heap.size + 1) (by simp) ad n cap (hb.below hal) 67)
  have hal2 := ba (w.alloc (.cells #[.int .i64 0, .int .i64 0, .int .i64 0] 24)) (.cells #[.slice ad n cap, .int .i64 0, .int .u64 0] 67)
  have HB := Lib.hid (bt hal hal2)
  have HO := Lib.hid ((own3_new w 0 0 0 24).below hal2)
  clear hb hal hal2
  go_enter Try.func22, Try.ntmps22
  go_wp2_with fail
  refine (anyGroup_any (w.heap.size + 1) 0 (Nat.zero_le _) _ HC.out).mono ?_
  rintro e w1 ⟨P, Q, G, rfl, hd, hc1, hg1⟩
  obtain ⟨⟨p0, p1⟩, ⟨q0, q1⟩, g0, g1⟩ := hd
  have hal3 := ba w1 (.cells #[.int .i64 P, .int .i64 Q, .int .i64 G] 24)
  have hs1 : w.heap.size + 1 < w1.heap.size := hc1.lt
  have hne : w1.heap.size ≠ w.heap.size + 1 := by omega
  have hne0 : w1.heap.size ≠ w.heap.size := by omega
  have hnc : w.heap.size ≠ w.heap.size + 1 := by omega
  have hle : w.heap.size ≤ w.heap.size + 1 := by omega
  have HC1 := Lib.hid (hc1.below hal3)
  have HB1 := Lib.hid (bt (below_at HB.out hg1 hle) hal3)
  have HO1 := Lib.hid ((HO.out.grown hg1 hnc).below hal3)
  have HV1 := Lib.hid (gr_new w1 P Q G 24)
  have HSZ := Lib.hid (show (w1.alloc (.cells #[.int .i64 P, .int .i64 Q, .int .i64 G] 24)).heap.size = w1.heap.size + 1 by simp)
  obtain ⟨v0, v1, v2⟩ := HV1.out
  clear hg1 hc1 hal3
  go_wp2_with fail
  refine (elements_any (w.heap.size + 1) 12 (by decide) P Q G p0 p1 q0 q1 g0 g1 5 (by decide) _ HC1.out).mono ?_
  rintro e w2 ⟨va, nn, vc, zs, rfl, hown, hnn, hc2, hg2⟩
  obtain ⟨hi2, hl2, -⟩ := own_ints hown
  have hup : ∀ a, va = some a → w.heap.size + 1 + 1 ≤ a.block := fun a ha => by
    have := own_up hown a ha
    rw [HSZ.out] at this
    omega
  have HUP := Lib.hid hup
  have HI2 := Lib.hid hi2
  have HL2 := Lib.hid hl2
  have HC2 := Lib.hid hc2
  have HB2 := Lib.hid (below_at HB1.out hg2 hle)
  have HO2 := Lib.hid (HO1.out.grown hg2 hnc)
  have HV2 := Lib.hid (HV1.out.grown hg2 hne)
  have hs2 : w1.heap.size < w2.heap.size := HV2.out.lt
  have HNE := Lib.hid (show ∀ a, va = some a → some a.block ≠ some (w.heap.size + 1) from fun a ha => by have := hup a ha; simp; omega)
  clear hown hc2 hg2 hi2 hl2 hup v0 v1 v2
  obtain ⟨v0, v1, v2⟩ := HV2.out
  have hn30 : nn ≤ 30 := by omega
  go_wp2_with fail
  go_region_held3 (fun w' => w'.cell? ⟨w1.heap.size, 0, none⟩ = some (.int .i64 P) ∧ w'.cell? ⟨w1.heap.size, 1, none⟩ = some (.int .i64 Q) ∧ w'.cell? ⟨w1.heap.size, 2, none⟩ = some (.int .i64 G)) (first | exact ⟨v0, v1, v2⟩ | exact ⟨x0, x1, x2⟩ | exact gr_after HV3.out (Ne.symm hne0) _ _ _ | exact gr_after (GR.drew HV3.out) (Ne.symm hne0) _ _ _) ((first
    | (go_at_call 71; refine (anyCoins_any (w.heap.size + 1) (12 + 4 * 5 + 18) (by decide) P Q G q0 q1 nn hn30 _ (by first | exact HC2.out | exact HC2.out.drew)).mono ?_; rintro e w3 ⟨ea, en, ec, es, rfl, hi3, hl3, hen, hb3, _, hg3⟩; have HI3 := Lib.hid hi3; have HL3 := Lib.hid hl3; have HBE := Lib.hid (show ∀ a, ea = some a → w.heap.size + 1 ≤ a.block from fun a ha => by { have h1 := hb3 a ha; have h2 : w2.heap.size ≤ a.block := h1; omega }); have HZ3 := Lib.hid (show IsInts w3 va zs from by first | exact HI2.out.grown hg3 HNE.out | exact IsInts.grown (w := w2.drew) HI2.out hg3 HNE.out); have HB3 := Lib.hid (show Below w.heap.size w w3 from by first | exact below_at HB2.out hg3 hle | exact below_at HB2.out.drew hg3 hle); have HV3 := Lib.hid (show GR w3 w1.heap.size P Q G from by first | exact HV2.out.grown hg3 hne | exact GR.grown (GR.drew HV2.out) hg3 hne); obtain ⟨x0, x1, x2⟩ := HV3.out; have HO3 := Lib.hid (show Own3 w3 w.heap.size 0 0 0 from by first | exact HO2.out.grown hg3 hnc | exact Own3.grown (Own3.drew HO2.out) hg3 hnc); obtain ⟨⟨d0, d1, d2⟩, df⟩ := HO3.out; have df0 := df 0; have df1 := df 1; have df2 := df 2; clear df hg3 hi3 hl3 hb3)))
  all_goals (
    go_wp2
    (try simp only [Exit.inBlock, Exit.then])
    refine bodyPost_ret (v := .tuple #[gv P Q G, .slice va nn vc, .slice ea en ec]) ?_ rfl ⟨P, Q, G, va, nn, vc, zs, ea, en, ec, es, rfl, ⟨⟨p0, p1⟩, ⟨q0, q1⟩, g0, g1⟩, ⟨?_, HL2.out, hnn⟩, ⟨?_, HL3.out, hen⟩, ?_⟩
    · rw [results_cell_tmp2 rfl]; go_simp
    · exact ints_set3 HZ3.out _ _ _ (fun a ha => by have := HUP.out a ha; omega)
    · exact ints_set3 HI3.out _ _ _ HBE.out
    · first | exact ((HB3.out.setCell (Nat.le_refl _) _).setCell (Nat.le_refl _) _).setCell (Nat.le_refl _) _ | exact (((HB3.out.drew).setCell (Nat.le_refl _) _).setCell (Nat.le_refl _) _).setCell (Nat.le_refl _) _)

end Go.Proofs.Ytkpfmpndaenclaa
