/- DegreeOf of both. -/
import Derived.Test.YtipfckfjelignaaPolT
namespace Go.Proofs.Ytipfckfjelignaa
open Go.RowKit Go.Shelf

def degRes (q : Int) (f : List Int) : Int := if fieldB q [f] then dg f else 0
theorem bk_zero {zs : List Int} : ∀ k, k ≤ zs.length → (∀ p ∈ bk zs k, p.2 = 0) → ∀ z ∈ zs.drop (zs.length - k), z = 0
  | 0, _, _ => by simp
  | k + 1, hk, h => by
    have hm : zs.length - 1 - k < zs.length := by omega
    have hd : zs.drop (zs.length - (k + 1)) = zs[zs.length - 1 - k] :: zs.drop (zs.length - k) := by
      rw [show zs.length - (k + 1) = zs.length - 1 - k by omega, List.drop_eq_getElem_cons hm]
      congr 2; omega
    rw [bk_succ] at h
    intro z hz
    rw [hd] at hz
    rcases List.mem_cons.1 hz with rfl | hz
    · have := h (zs.length - 1 - k, zs[zs.length - 1 - k]?.getD 0) (by simp)
      simpa [hm] using this
    · exact bk_zero k (by omega) (fun p hp => h p (by simp [hp])) z hz
theorem dg_none {zs : List Int} (h : ∀ p ∈ bk zs zs.length, p.2 = 0) : dg zs = -1 := by
  refine dg_zeros zs fun z hz => ?_
  have := bk_zero zs.length (Nat.le_refl _) h z (by simpa using hz)
  exact this
theorem dg_bk {zs : List Int} {k : Nat} (hk : k < zs.length) (h : ∀ p ∈ bk zs k, p.2 = 0) (hne : zs[zs.length - 1 - k]?.getD 0 ≠ 0) : dg zs = ((zs.length - 1 - k : Nat) : Int) := by
  have hm : zs.length - 1 - k < zs.length := by omega
  refine dg_at zs _ zs[zs.length - 1 - k] (zs.drop (zs.length - k)) ?_ (by simpa [hm] using hne) (bk_zero k (by omega) h)
  rw [List.drop_eq_getElem_cons hm]
  congr 2; omega

section
attribute [local go_sem] Oper.semAt_some
set_option maxRecDepth 100000 in
set_option maxHeartbeats 2000000 in
theorem degreeOf_in (n : Nat) (hn : 3 ≤ n) (q : Int) (ad : Option Addr) (cap : Nat) (zs : List Int) (hl : zs.length ≤ 17592186044416) (hf : fieldB q [zs] = true) (w : World) (hz : IsInts w ad zs) :
    CallsIn Fence.wide n Try.prog 43 #[.int .i64 q, .slice ad zs.length cap] w fun e W' => e = .returned (.tuple #[.int .i64 (dg zs), .bool true]) ∧ Below w.heap.size w W' := by
  have h1 : 1 ≤ n := by omega
  obtain ⟨w1, hw1⟩ : ∃ w1, (w.alloc (.cells #[.int .i64 0] 3)).alloc (.cells #[.bool false] 4) = w1 := ⟨_, rfl⟩
  have hbw1 : Below w.heap.size w w1 := by rw [← hw1]; exact ((Below.refl _ w).alloc (Nat.le_refl _) _).alloc (by simp) _
  have hs1 : w1.heap.size = w.heap.size + 1 + 1 := by rw [← hw1]; simp
  have hr1 := rows_one w1 ad _ cap zs rfl 27 (hz.below hbw1 (Nat.le_refl _))
  rw [hs1] at hr1
  have HR := Lib.hid hr1
  clear hr1
  have HLL := Lib.hid (show ∀ r ∈ ([(ad, cap, zs)] : List RowD), r.2.2.length ≤ 17592186044416 by intro r hr; simp at hr; subst hr; simp; omega)
  have HF := Lib.hid (show fieldB q (List.map (fun r : RowD => r.2.2) [(ad, cap, zs)]) = true from hf)
  have hz24 : zs.length ≤ 24 := (shortB_of (field_one hf).2).2.2.1
  refine callsIn_of_wp_marks Try.func43 rfl trivial ?_ rfl
  simp only [Try.ntmps43, List.size_toArray, List.length_cons, List.length_nil, Nat.reduceAdd, Nat.reduceSub, Array.replicate_succ, Array.replicate_zero, List.push_toArray, List.append_toArray, List.nil_append, List.cons_append]
  gi_wp2_with (first
    | (refine ⟨trivial, ?_⟩
       gi_at_call 93
       refine (callsIn_wide.2 (inField_any q _ 0 1 _ [(ad, cap, zs)] rfl (by omega) HLL.out _ HR.out)).mono ?_
       rintro e w' ⟨rfl, rfl⟩
       rw [HF.out])
    | (refine ⟨trivial, ?_⟩; gi_at_call 105; refine (backward_in Fence.wide (n - 1) trivial rfl _ _ _ _).mono ?_; rintro e w' ⟨rfl, rfl⟩)
    | fail)
  obtain ⟨B, hB⟩ : ∃ B, w.heap.size = B := ⟨_, rfl⟩
  rw [hB]
  rw [hB] at hs1 hbw1
  obtain ⟨W0, hW0⟩ : ∃ W0, ((w1.alloc (.cells #[.slice ad zs.length cap] 27)).alloc (.cells #[.slice ad zs.length cap] 27)) = W0 := ⟨_, rfl⟩
  rw [hW0]
  have hsz : W0.heap.size = B + 1 + 1 + 1 + 1 := by rw [← hW0]; simp [hs1]
  have b0 : Boxed W0 B 3 (.int .i64 0) := by
    have h := (Boxed.new w 3 (.int .i64 0)).alloc (.cells #[.bool false] 4)
    rw [hw1, hB] at h
    rw [← hW0]; exact (h.alloc _).alloc _
  have b1 : Boxed W0 (B + 1) 4 (.bool false) := by
    have h := Boxed.new (w.alloc (.cells #[.int .i64 0] 3)) 4 (.bool false)
    rw [World.size_alloc, hw1, hB] at h
    rw [← hW0]; exact (h.alloc _).alloc _
  have bs : Boxed W0 (B + 1 + 1 + 1) 27 (.slice ad zs.length cap) := by
    have h := Boxed.new (w1.alloc (.cells #[.slice ad zs.length cap] 27)) 27 (.slice ad zs.length cap)
    rw [World.size_alloc, hs1] at h
    rw [← hW0]; exact h
  have hB0 : Below B w W0 := by
    rw [← hW0]
    exact (hbw1.alloc (by omega) _).alloc (by simp; omega) _
  refine wpIn_rangeFunc_ownG rfl h1 (gf := 137) (lb := #[.pointer (some ⟨B + 1 + 1 + 1, 0, none⟩)]) rfl trivial (enters_of Try.func137 (by kernel_rfl) rfl)
    (backward_stops Fence.wide (n - 1) trivial rfl (by omega) (B + 1 + 1 + 1) B ad cap zs (by omega) _ (by omega) bs.cell (hz.below hB0 (by omega)) (fun a ha h0 => by rw [← hB]; exact ints_lt hz h0 a ha)) KpB.trans (kpB_b (by omega) (by omega)) (Below.refl _ _) (fun _ => rfl)
    (fun pre W => ((∀ p ∈ pre, p.2 = 0) ∧ W.cell? ⟨B, 0, none⟩ = some (.int .i64 0) ∧ W.frozen? ⟨B, 0, none⟩ = false ∧ W.cell? ⟨B + 1, 0, none⟩ = some (.bool false) ∧ W.frozen? ⟨B + 1, 0, none⟩ = false) ∧ Below B w W)
    (fun c pre W => (c = .ret ∧ ∃ ini last, pre = ini ++ [last] ∧ (∀ p ∈ ini, p.2 = 0) ∧ last.2 ≠ 0 ∧ W.cell? ⟨B, 0, none⟩ = some (.int .i64 (last.1 : Int)) ∧ W.cell? ⟨B + 1, 0, none⟩ = some (.bool true)) ∧ Below B w W)
    (OwnFrom.and (Own.from (fun s A B row hs hg hr => ⟨hs.1, cell_kept hs.2.1 hg hr, (frozen_kept hs.2.1 hg hr).trans hs.2.2.1, cell_kept hs.2.2.2.1 hg hr, (frozen_kept hs.2.2.2.1 hg hr).trans hs.2.2.2.2⟩) _) (ownFrom_below (by omega) (by omega)))
    (fun c => OwnFrom.and (Own.from (fun s A B row hs hg hr => by obtain ⟨hc, ini, last, e1, e2, e3, e4, e5⟩ := hs; exact ⟨hc, ini, last, e1, e2, e3, cell_kept e4 hg hr, cell_kept e5 hg hr⟩) _) (ownFrom_below (by omega) (by omega)))
    ⟨⟨by simp, b0.cell, b0.frozen, b1.cell, b1.frozen⟩, hB0⟩
    (fun p => { tmps := #[.int .i64 q, .slice ad zs.length cap, undef, undef, .pointer (some ⟨B, 0, none⟩), .pointer (some ⟨B + 1, 0, none⟩), .int .i64 (p.1 : Int), .int .i64 p.2, .int .i64 q, .slice ad zs.length cap, .slice (some ⟨B + 1 + 1, 0, none⟩) 1 1,
      .bool true, .bool false, .slice ad zs.length cap, .func (.func 137) #[] #[.pointer (some ⟨B + 1 + 1 + 1, 0, none⟩)], .int .i64 (p.1 : Int), .int .i64 p.2, undef, undef, undef], defers := [] }) ?assign ?body ?done ?stop
  case assign =>
    intro l p W K hK
    gi_wp2
    exact hK
  case body =>
    rintro l pre p W ⟨⟨hp, hc0, hf0, hc1, hf1⟩, hBW⟩ _
    by_cases hp0 : p.2 = 0
    · have hpb : (p.2 != 0) = false := by simp [hp0]
      have HP := Lib.hid hp
      have HP0 := Lib.hid hp0
      clear hp hp0
      gi_wp2
      exact ⟨KeepsFrom.refl _ _, KpB.refl _ _ _, ⟨fun p' hp' => (List.mem_append.1 hp').elim (HP.out p') (fun e => by simp only [List.mem_singleton] at e; subst e; exact HP0.out), hc0, hf0, hc1, hf1⟩, hBW⟩
    · have hpb : (p.2 != 0) = true := by simp [hp0]
      have HP := Lib.hid hp
      have HP0 := Lib.hid hp0
      clear hp hp0
      gi_wp2
      have hc0' : ((W.setCell ⟨B, 0, none⟩ (.int .i64 (p.1 : Int))).setCell ⟨B + 1, 0, none⟩ (.bool true)).cell? ⟨B, 0, none⟩ = some (.int .i64 (p.1 : Int)) := by
        rw [cell_heap (w := W.setCell ⟨B, 0, none⟩ (.int .i64 (p.1 : Int))) (Below.heap_setCell _ _ _ B (by show B ≠ B + 1; omega))]
        exact World.cell?_setCell_same' _ _ _ (by rw [hc0]; rfl)
      have hc1' : ((W.setCell ⟨B, 0, none⟩ (.int .i64 (p.1 : Int))).setCell ⟨B + 1, 0, none⟩ (.bool true)).cell? ⟨B + 1, 0, none⟩ = some (.bool true) := by
        refine World.cell?_setCell_same' _ _ _ ?_
        rw [cell_heap (w := W) (Below.heap_setCell _ _ _ (B + 1) (by show B + 1 ≠ B; omega)), hc1]; rfl
      exact ⟨((KeepsOthers.setCell W ⟨B, 0, none⟩ (.int .i64 (p.1 : Int))).trans (KeepsOthers.setCell _ ⟨B + 1, 0, none⟩ (.bool true))).from _, ⟨rfl, pre, p, rfl, HP.out, HP0.out, hc0', hc1'⟩, (hBW.setCell (p := ⟨B, 0, none⟩) (Nat.le_refl _) _).setCell (p := ⟨B + 1, 0, none⟩) (by show B ≤ B + 1; omega) _⟩
  case done =>
    rintro D ys W hD rfl ⟨⟨hne, hc0, hf0, hc1, hf1⟩, hBW⟩ hK
    have HDG := Lib.hid (dg_none hne)
    gi_wp2
    have hK' := ((KeepsOthers.setCell W ⟨B, 0, none⟩ (.int .i64 (-1))).trans (KeepsOthers.setCell _ ⟨B + 1, 0, none⟩ (.bool true))).same D _ hK rfl
    have hc0' : ((W.setCell ⟨B, 0, none⟩ (.int .i64 (-1))).setCell ⟨B + 1, 0, none⟩ (.bool true)).cell? ⟨B, 0, none⟩ = some (.int .i64 (-1)) := by
      rw [cell_heap (w := W.setCell ⟨B, 0, none⟩ (.int .i64 (-1))) (Below.heap_setCell _ _ _ B (by show B ≠ B + 1; omega))]
      exact World.cell?_setCell_same' _ _ _ (by rw [hc0]; rfl)
    have hc1' : ((W.setCell ⟨B, 0, none⟩ (.int .i64 (-1))).setCell ⟨B + 1, 0, none⟩ (.bool true)).cell? ⟨B + 1, 0, none⟩ = some (.bool true) := by
      refine World.cell?_setCell_same' _ _ _ ?_
      rw [cell_heap (w := W) (Below.heap_setCell _ _ _ (B + 1) (by show B + 1 ≠ B; omega)), hc1]; rfl
    refine ⟨by simp, .inl ⟨_, _, rfl, run_takeDeferred hK', ?_⟩⟩
    have hk0 := cell_kept hc0' (grownBy_putObj' _ D (.deferred none)) (fun r e => by cases e; exact ⟨_, hK', rfl⟩)
    have hk1 := cell_kept hc1' (grownBy_putObj' _ D (.deferred none)) (fun r e => by cases e; exact ⟨_, hK', rfl⟩)
    refine ⟨.tuple #[.int .i64 (-1), .bool true], ?_, by rw [HDG.out], ?_⟩
    · simp [results, Try.f43, go_sem, hk0, hk1]
    · rw [hB]
      exact ((hBW.setCell (p := ⟨B, 0, none⟩) (Nat.le_refl _) _).setCell (p := ⟨B + 1, 0, none⟩) (by show B ≤ B + 1; omega) _).trans (belowK_b (w := w) (by omega) _ D _ _ (by omega) hK' rfl rfl)
  case stop =>
    rintro D c pre W hD ⟨k, hk, rfl⟩ ⟨⟨rfl, ini, last, e1, e2, e3, hc0, hc1⟩, hBW⟩ hK
    gi_wp2
    refine ⟨by simp, .inl ⟨_, _, rfl, run_takeDeferred hK, ?_⟩⟩
    have hk0 := cell_kept hc0 (grownBy_putObj' _ D (.deferred none)) (fun r e => by cases e; exact ⟨_, hK, rfl⟩)
    have hk1 := cell_kept hc1 (grownBy_putObj' _ D (.deferred none)) (fun r e => by cases e; exact ⟨_, hK, rfl⟩)
    obtain ⟨k', rfl⟩ : ∃ k', k = k' + 1 := by
      cases k with
      | zero => simp [bk] at e1
      | succ k' => exact ⟨k', rfl⟩
    rw [bk_succ] at e1
    obtain ⟨rfl, e5⟩ := List.append_inj' e1 rfl
    obtain rfl : (zs.length - 1 - k', zs[zs.length - 1 - k']?.getD 0) = last := by simpa using e5
    have HDG := Lib.hid (dg_bk (by omega) e2 e3)
    refine ⟨.tuple #[.int .i64 ((zs.length - 1 - k' : Nat) : Int), .bool true], ?_, by rw [HDG.out], ?_⟩
    · simp [results, Try.f43, go_sem, hk0, hk1]
    · rw [hB]
      exact hBW.trans (belowK_b (w := w) (by omega) _ D _ _ (by omega) hK rfl rfl)
end

set_option maxHeartbeats 1600000 in
theorem degreeOf_any (q : Int) (ad : Option Addr) (n cap : Nat) (f : List Int) (hn : f.length = n) (hl : n ≤ 17592186044416) (w : World) (hx : IsInts w ad f) :
    Calls Try.prog 43 #[.int .i64 q, .slice ad n cap] w fun e w' => e = .returned (.tuple #[.int .i64 (degRes q f), .bool (fieldB q [f])]) ∧ Below w.heap.size w w' := by
  cases hf : fieldB q [f]
  · have e2 : degRes q f = 0 := by simp [degRes, hf]
    rw [e2]
    obtain ⟨w1, hw1⟩ : ∃ w1, (w.alloc (.cells #[.int .i64 0] 3)).alloc (.cells #[.bool false] 4) = w1 := ⟨_, rfl⟩
    have hbw1 : Below w.heap.size w w1 := by rw [← hw1]; exact ((Below.refl _ w).alloc (Nat.le_refl _) _).alloc (by simp) _
    have hs1 : w1.heap.size = w.heap.size + 1 + 1 := by rw [← hw1]; simp
    have hr1 := rows_one w1 ad n cap f hn 27 (hx.below hbw1 (Nat.le_refl _))
    rw [hs1] at hr1
    have HR := Lib.hid hr1
    have HLL := Lib.hid (show ∀ r ∈ ([(ad, cap, f)] : List RowD), r.2.2.length ≤ 17592186044416 by intro r hr; simp at hr; subst hr; simp; omega)
    have HF := Lib.hid (show fieldB q (List.map (fun r : RowD => r.2.2) [(ad, cap, f)]) = false from hf)
    have HB1 := Lib.hid (bt hbw1 (ba w1 (.cells #[.slice ad n cap] 27)))
    have b0 : Boxed w1 w.heap.size 3 (.int .i64 0) := by
      have h := (Boxed.new w 3 (.int .i64 0)).alloc (.cells #[.bool false] 4)
      rwa [hw1] at h
    have b1 : Boxed w1 (w.heap.size + 1) 4 (.bool false) := by
      have h := Boxed.new (w.alloc (.cells #[.int .i64 0] 3)) 4 (.bool false)
      rwa [World.size_alloc, hw1] at h
    have hc0 := b0.cell
    have hf0 := b0.frozen
    have hc1 := b1.cell
    have hf1 := b1.frozen
    have B0 := Lib.hid b0
    have B1 := Lib.hid b1
    have HBW := Lib.hid hbw1
    clear hr1 hf e2 hn hbw1 b0 b1
    go_enter Try.func43, Try.ntmps43
    go_wp2_with fail
    refine (inField_any _ _ 0 1 _ [(ad, cap, f)] rfl (by omega) HLL.out _ HR.out).mono ?_
    rintro e w' ⟨rfl, rfl⟩; rw [HF.out]
    go_wp2
    obtain ⟨v, hv⟩ : ∃ v, ((w1.setCell ⟨w.heap.size, 0, none⟩ (.int .i64 0)).setCell ⟨w.heap.size + 1, 0, none⟩ (.bool false)) = v := ⟨_, rfl⟩
    have hs0 : Boxed v w.heap.size 3 (.int .i64 0) := by
      rw [← hv]
      have h := Boxed.set (.int .i64 0) B0.out
      exact (Below.heap_setCell (w1.setCell ⟨w.heap.size, 0, none⟩ (.int .i64 0)) ⟨w.heap.size + 1, 0, none⟩ (.bool false) w.heap.size (by show w.heap.size ≠ w.heap.size + 1; omega)).trans h
    have hs1' : Boxed v (w.heap.size + 1) 4 (.bool false) := by
      rw [← hv]
      refine Boxed.set (v := .bool false) _ ?_
      exact (Below.heap_setCell w1 ⟨w.heap.size, 0, none⟩ (.int .i64 0) (w.heap.size + 1) (by show w.heap.size + 1 ≠ w.heap.size; omega)).trans B1.out
    rw [hv]
    have hk0 := (hs0.alloc (.cells #[.slice ad n cap] 27)).cell
    have hk1 := (hs1'.alloc (.cells #[.slice ad n cap] 27)).cell
    refine bodyPost_ret (v := .tuple #[.int .i64 0, .bool false]) ?_ rfl ⟨rfl, ?_⟩
    · simp [results, Try.f43, go_sem, hk0, hk1]
    · have h := HBW.out
      rw [← hv]
      exact ((h.setCell (p := ⟨w.heap.size, 0, none⟩) (Nat.le_refl _) _).setCell (p := ⟨w.heap.size + 1, 0, none⟩) (by show w.heap.size ≤ w.heap.size + 1; omega) _).alloc (by rw [World.size_setCell, World.size_setCell]; omega) _
  · have e2 : degRes q f = dg f := by simp [degRes, hf]
    rw [e2]
    subst hn
    exact callsIn_wide.1 (degreeOf_in 3 (by omega) q ad cap f hl hf w hx)

theorem degreeOf_ans {q : Int} {P : Nat} {w : World} {v : Value} {f : List Int} (hx : InI P w v f) (hl : f.length ≤ 17592186044416) :
    Calls Try.prog 43 #[.int .i64 q, v] w fun e w' => e = .returned (.tuple #[.int .i64 (degRes q f), .bool (fieldB q [f])]) ∧ Below w.heap.size w w' := by
  obtain ⟨_, ad, cap, rfl, h1, _⟩ := hx
  exact degreeOf_any q ad _ cap f rfl hl w h1.ints
end Go.Proofs.Ytipfckfjelignaa

