/- valueAt: a range over slices.Backward. -/
import Derived.Test.YtipfckfjelignaaPolR
namespace Go.Proofs.Ytipfckfjelignaa
open Go.RowKit Go.Shelf
attribute [local go_sem] Oper.semAt_some

/-- What the machine makes of what has come. -/
def valM (q x : Int) (pre : List (Nat × Int)) : Int := pre.foldl (fun v p => (IntKind.i64.wrap (v * x + p.2)).tmod q) 0
theorem valM_snoc (q x : Int) (pre : List (Nat × Int)) (p : Nat × Int) : valM q x (pre ++ [p]) = (IntKind.i64.wrap (valM q x pre * x + p.2)).tmod q := by simp [valM]
theorem tmod_range {q : Int} (hq : 0 < q) (a : Int) : -q < a.tmod q ∧ a.tmod q < q := by
  refine ⟨?_, Int.tmod_lt_of_pos _ hq⟩
  have h := Int.tmod_lt_of_pos (-a) hq
  rw [Int.neg_tmod] at h; omega
theorem valM_range {q x : Int} (hq : 0 < q) (pre : List (Nat × Int)) : -q < valM q x pre ∧ valM q x pre < q := by
  rcases List.eq_nil_or_concat pre with rfl | ⟨ini, p, rfl⟩
  · simp [valM]; omega
  · rw [List.concat_eq_append, valM_snoc]; exact tmod_range hq _
theorem prod_any {v x q : Int} (h3 : q ≤ 2000000000) (hv0 : -q < v) (hv1 : v < q) (hx0 : 0 ≤ x) (hx1 : x < q) : -4000000000000000000 ≤ v * x ∧ v * x ≤ 4000000000000000000 := by
  rcases Int.le_total 0 v with h | h
  · obtain ⟨a, b⟩ := mul_res h3 h hv1 hx0 hx1
    exact ⟨by omega, b⟩
  · obtain ⟨a, b⟩ := mul_res (q := q) (a := -v) (b := x) h3 (by omega) (by omega) hx0 hx1
    rw [Int.neg_mul] at a b
    exact ⟨by omega, by omega⟩
theorem valM_bk {q x : Int} (h2 : 2 ≤ q) (h3 : q ≤ 2000000000) (hx0 : 0 ≤ x) (hx1 : x < q) (zs : List Int) (hr : ∀ z ∈ zs, 0 ≤ z ∧ z < q) : ∀ k, k ≤ zs.length → valM q x (bk zs k) = pev q x (zs.drop (zs.length - k))
  | 0, _ => by simp [bk, valM, pev]
  | k + 1, hk => by
    have ih := valM_bk h2 h3 hx0 hx1 zs hr k (by omega)
    have hm : zs.length - 1 - k < zs.length := by omega
    have hd : zs.drop (zs.length - (k + 1)) = zs[zs.length - 1 - k] :: zs.drop (zs.length - 1 - k + 1) := by
      rw [show zs.length - (k + 1) = zs.length - 1 - k by omega]; exact List.drop_eq_getElem_cons hm
    rw [bk_succ, valM_snoc, ih, pev_step hd]
    have e1 : zs.length - (k + 1) + 1 = zs.length - k := by omega
    have e2 : zs[zs.length - 1 - k]?.getD 0 = zs[zs.length - 1 - k] := by simp [hm]
    rw [e1, e2]
    obtain ⟨c0, c1⟩ := hr _ (List.getElem_mem hm)
    obtain ⟨p0, p1⟩ := pev_range (q := q) (x := x) (by omega) (zs.drop (zs.length - k))
    obtain ⟨m0, m1⟩ := mul_res h3 p0 p1 hx0 hx1
    generalize pev q x (zs.drop (zs.length - k)) = v at *
    generalize zs[zs.length - 1 - k] = c at *
    rw [IntKind.wrap_i64 _ |>.trans (by omega : _ = v * x + c)]
    exact Int.tmod_eq_emod_of_nonneg (by omega)
theorem valM_all {q x : Int} (h2 : 2 ≤ q) (h3 : q ≤ 2000000000) (hx0 : 0 ≤ x) (hx1 : x < q) (zs : List Int) (hr : ∀ z ∈ zs, 0 ≤ z ∧ z < q) : valM q x (bk zs zs.length) = pev q x zs := by
  rw [valM_bk h2 h3 hx0 hx1 zs hr _ (Nat.le_refl _), Nat.sub_self, List.drop_zero]

set_option maxRecDepth 100000 in
set_option maxHeartbeats 2000000 in
theorem valueAt_in (F : Fence) (n : Nat) (h3' : F.fn 104) (h5 : F.fn 105) (h7 : F.fn 137) (hro : F.round = none) (hn : 3 ≤ n)
    (q : Int) (ad : Option Addr) (cap : Nat) (zs : List Int) (x : Int) (hl : zs.length ≤ 1000000) (h2 : 2 ≤ q) (h3 : q ≤ 2000000000) (hx0 : 0 ≤ x) (hx1 : x < q) (hr : ∀ z ∈ zs, 0 ≤ z ∧ z < q) (w : World) (hz : IsInts w ad zs) :
    CallsIn F n Try.prog 104 #[.int .i64 q, .slice ad zs.length cap, .int .i64 x] w fun e W' => e = .returned (.int .i64 (pev q x zs)) ∧ Below w.heap.size w W' := by
  have h1 : 1 ≤ n := by omega
  have HR := Lib.hid hr
  have hq0 : q ≠ 0 := by omega
  refine callsIn_of_wp_marks Try.func104 rfl h3' ?_ hro
  simp only [Try.ntmps104, List.size_toArray, List.length_cons, List.length_nil, Nat.reduceAdd, Nat.reduceSub, Array.replicate_succ, Array.replicate_zero, List.push_toArray, List.append_toArray, List.nil_append, List.cons_append]
  gi_wp2_with (gi_at_call 105; refine (backward_in F (n - 1) h5 hro _ _ _ _).mono ?_; rintro e w' ⟨rfl, rfl⟩)
  obtain ⟨B, hB⟩ : ∃ B, w.heap.size = B := ⟨_, rfl⟩
  rw [hB]
  obtain ⟨W0, hW0⟩ : ∃ W0, ((((w.alloc (.cells #[.int .i64 q] 3)).alloc (.cells #[.int .i64 x] 3)).alloc (.cells #[.int .i64 0] 3)).alloc (.cells #[.slice ad zs.length cap] 27)) = W0 := ⟨_, rfl⟩
  rw [hW0]
  have hsz : W0.heap.size = B + 1 + 1 + 1 + 1 := by rw [← hW0]; simp [hB]
  have bq : Boxed W0 B 3 (.int .i64 q) := by rw [← hW0, ← hB]; exact (((Boxed.new w _ _).alloc _).alloc _).alloc _
  have bx : Boxed W0 (B + 1) 3 (.int .i64 x) := by
    have h := Boxed.new (w.alloc (.cells #[.int .i64 q] 3)) 3 (.int .i64 x)
    rw [World.size_alloc, hB] at h
    rw [← hW0]; exact (h.alloc _).alloc _
  have bv : Boxed W0 (B + 1 + 1) 3 (.int .i64 0) := by
    have h := Boxed.new ((w.alloc (.cells #[.int .i64 q] 3)).alloc (.cells #[.int .i64 x] 3)) 3 (.int .i64 0)
    rw [World.size_alloc, World.size_alloc, hB] at h
    rw [← hW0]; exact h.alloc _
  have bs : Boxed W0 (B + 1 + 1 + 1) 27 (.slice ad zs.length cap) := by
    have h := Boxed.new (((w.alloc (.cells #[.int .i64 q] 3)).alloc (.cells #[.int .i64 x] 3)).alloc (.cells #[.int .i64 0] 3)) 27 (.slice ad zs.length cap)
    rw [World.size_alloc, World.size_alloc, World.size_alloc, hB] at h
    rw [← hW0]; exact h
  have hB0 : Below B w W0 := by
    rw [← hW0, ← hB]
    exact ((((Below.refl _ w).alloc (Nat.le_refl _) _).alloc (by simp) _).alloc (by simp; omega) _).alloc (by simp; omega) _
  refine wpIn_rangeFunc_ownG hro h1 (gf := 137) (lb := #[.pointer (some ⟨B + 1 + 1 + 1, 0, none⟩)]) rfl h7 (enters_of Try.func137 (by kernel_rfl) rfl)
    (backward_stops F (n - 1) h7 hro (by omega) (B + 1 + 1 + 1) B ad cap zs (by omega) _ (by omega) bs.cell (hz.below hB0 (by omega)) (fun a ha h0 => by rw [← hB]; exact ints_lt hz h0 a ha)) KpB.trans (kpB_b (by omega) (by omega)) (Below.refl _ _) (fun _ => rfl)
    (fun pre W => (W.cell? ⟨B + 1 + 1, 0, none⟩ = some (.int .i64 (valM q x pre)) ∧ W.frozen? ⟨B + 1 + 1, 0, none⟩ = false ∧ W.cell? ⟨B, 0, none⟩ = some (.int .i64 q) ∧ W.cell? ⟨B + 1, 0, none⟩ = some (.int .i64 x)) ∧ Below B w W)
    (fun _ _ _ => False)
    (OwnFrom.and (Own.from (fun s A B row hs hg hr => ⟨cell_kept hs.1 hg hr, (frozen_kept hs.1 hg hr).trans hs.2.1, cell_kept hs.2.2.1 hg hr, cell_kept hs.2.2.2 hg hr⟩) _) (ownFrom_below (by omega) (by omega)))
    (fun _ _ _ _ _ hs _ _ => hs)
    ⟨⟨bv.cell, bv.frozen, bq.cell, bx.cell⟩, hB0⟩
    (fun p => { tmps := #[.int .i64 q, .slice ad zs.length cap, .int .i64 x, .pointer (some ⟨B, 0, none⟩), undef, .pointer (some ⟨B + 1, 0, none⟩), .int .i64 0, .pointer (some ⟨B + 1 + 1, 0, none⟩), undef, .int .i64 p.2, .slice ad zs.length cap,
      .func (.func 137) #[] #[.pointer (some ⟨B + 1 + 1 + 1, 0, none⟩)], .int .i64 (p.1 : Int), .int .i64 p.2, undef, undef, undef, undef, undef, undef, undef, undef], defers := [] }) ?assign ?body ?done ?stop
  case assign =>
    intro l p W K hK
    gi_wp2
    exact hK
  case body =>
    rintro l pre p W ⟨⟨hc, hf, hcq, hcx⟩, hBW⟩ _
    obtain ⟨hv0, hv1⟩ := valM_range (q := q) (x := x) (by omega) pre
    have HS := Lib.hid (valM_snoc q x pre p)
    generalize valM q x pre = v at *
    obtain ⟨m0, m1⟩ := prod_any h3 hv0 hv1 hx0 hx1
    obtain ⟨hr0, hr1⟩ := tmod_range (q := q) (by omega) (IntKind.i64.wrap (v * x + p.2))
    have hvx : IntKind.i64.wrap (v * x) = v * x := by rw [IntKind.wrap_i64]; omega
    have hcv := hc
    generalize hu : IntKind.i64.wrap (v * x + p.2) = u at *
    gi_wp2
    refine ⟨(KeepsOthers.setCell _ _ _).from _, ⟨(Below.refl B W).setCell (p := ⟨B + 1 + 1, 0, none⟩) (by show B ≤ B + 1 + 1; omega) _, Below.heap_setCell _ _ _ (B + 1 + 1 + 1) (by show B + 1 + 1 + 1 ≠ B + 1 + 1; omega)⟩, ⟨?_, ?_, ?_, ?_⟩, hBW.setCell (p := ⟨B + 1 + 1, 0, none⟩) (by show B ≤ B + 1 + 1; omega) _⟩
    · rw [HS.out]; exact World.cell?_setCell_same' _ _ _ (by rw [hc]; rfl)
    · rw [World.frozen?_setCell]; exact hf
    · rw [cell_heap (w := W) (Below.heap_setCell _ _ _ B (by show B ≠ B + 1 + 1; omega))]; exact hcq
    · rw [cell_heap (w := W) (Below.heap_setCell _ _ _ (B + 1) (by show B + 1 ≠ B + 1 + 1; omega))]; exact hcx
  case done =>
    rintro D ys W hD rfl ⟨⟨hc, _⟩, hBW⟩ hK
    rw [valM_all h2 h3 hx0 hx1 zs HR.out] at hc
    gi_wp2
    refine ⟨by simp, .inl ⟨_, _, rfl, run_takeDeferred hK, ?_⟩⟩
    exact ⟨_, results_tmp rfl _ _ _, rfl, by rw [hB]; exact hBW.trans (belowK_b (w := w) (by omega) W D _ _ (by omega) hK rfl rfl)⟩
  case stop =>
    rintro D c pre W _ _ h _
    exact h.elim

theorem valueAt_any (q : Int) (ad : Option Addr) (n cap : Nat) (zs : List Int) (x : Int) (hn : zs.length = n) (hl : n ≤ 1000000) (h2 : 2 ≤ q) (h3 : q ≤ 2000000000) (hx0 : 0 ≤ x) (hx1 : x < q) (hr : ∀ z ∈ zs, 0 ≤ z ∧ z < q) (w : World) (hz : IsInts w ad zs) :
    Calls Try.prog 104 #[.int .i64 q, .slice ad n cap, .int .i64 x] w fun e W' => e = .returned (.int .i64 (pev q x zs)) ∧ Below w.heap.size w W' := by
  subst hn
  exact callsIn_wide.1 (valueAt_in Fence.wide 3 trivial trivial trivial rfl (by omega) q ad cap zs x hl h2 h3 hx0 hx1 hr w hz)

end Go.Proofs.Ytipfckfjelignaa

