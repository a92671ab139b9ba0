/- slices.Backward over integers: the iterator's contract. -/
import Derived.RangeFuncNested
import Derived.RangeFuncBound
import Derived.RangeFuncCalls
import Derived.RangeFuncLeaves
import Derived.RangeFuncBox
import Derived.Shelf.Abstract
import Derived.WalkKit
import Derived.OwnWalkIn
import Derived.TacticsInMore
import Derived.LoopNIn
import Derived.LoopIn
import Derived.Test.YtchlnkdlnfjijaaGreatPolN
namespace Go.Proofs.YtchlnkdlnfjijaaGreat
open Go.RowKit Go.Shelf
attribute [local go_sem] Oper.semAt_some

/-- What comes first, second ..: the last element, the one before. -/
def bk (zs : List Int) (k : Nat) : List (Nat × Int) := (List.range k).map fun j => (zs.length - 1 - j, zs[zs.length - 1 - j]?.getD 0)
theorem bk_length (zs : List Int) (k : Nat) : (bk zs k).length = k := by simp [bk]
theorem bk_succ (zs : List Int) (k : Nat) : bk zs (k + 1) = bk zs k ++ [(zs.length - 1 - k, zs[zs.length - 1 - k]?.getD 0)] := by simp [bk, List.range_succ]
theorem bk_at {zs : List Int} {m : Nat} (h : m < zs.length) : bk zs (zs.length - m) = bk zs (zs.length - (m + 1)) ++ [(m, zs[m]?.getD 0)] := by
  rw [show zs.length - m = (zs.length - (m + 1)) + 1 by omega, bk_succ, show zs.length - 1 - (zs.length - (m + 1)) = m by omega]

/-- What a round must keep: whatever lay below n₀, and the box of the slice. -/
def KpB (n₀ Bs : Nat) (W W' : World) : Prop := Below n₀ W W' ∧ W'.heap[Bs]? = W.heap[Bs]?
theorem KpB.refl (n₀ Bs : Nat) (W : World) : KpB n₀ Bs W W := ⟨Below.refl _ _, rfl⟩
theorem KpB.trans {n₀ Bs : Nat} {A B C : World} (h : KpB n₀ Bs A B) (k : KpB n₀ Bs B C) : KpB n₀ Bs A C := ⟨h.1.trans k.1, k.2.trans h.2⟩
theorem kpB_b {n₀ Bs : Nat} {w : World} (hn : n₀ ≤ w.heap.size) (hB : Bs < w.heap.size) (W : World) (l : Nat) (o o' : Obj) (hl : w.heap.size ≤ l) (h : W.heap[l]? = some o) (h1 : o.isCells = false) (h2 : o.isWalk = false) : KpB n₀ Bs W (W.putObj l o') :=
  ⟨belowK_b hn W l o o' hl h h1 h2, (grownBy_putObj' W l o').block Bs (by have := (Array.getElem?_eq_some_iff.1 h).1; omega) (by simp; omega)⟩
theorem cell_heap {w w' : World} {a : Addr} (h : w'.heap[a.block]? = w.heap[a.block]?) : w'.cell? a = w.cell? a := by
  unfold World.cell?; rw [h]

set_option maxRecDepth 100000 in
set_option maxHeartbeats 2000000 in
theorem backward1_in (F : Fence) (n : Nat) (h7 : F.fn 140) (hro : F.round = none) (hn : 1 ≤ n) (l Bs n₀ : Nat) (ad : Option Addr) (cap : Nat) (zs : List Int) (hreach : zs.length * 8 ≤ 140737488351232) (J Jx : List (Nat × Int) → World → Prop)
    (hY : ∀ pre x W, J pre W → pre.length < zs.length → x.2 ∈ zs → YieldAt F (n - 1) Tryz.prog l #[.int .i64 (x.1 : Int), .int .i64 x.2] W fun e W' =>
      (e = .returned (.bool true) ∧ J (pre ++ [x]) W' ∧ KpB n₀ Bs W W') ∨ (e = .returned (.bool false) ∧ Jx (pre ++ [x]) W'))
    (W : World) (hBs : W.cell? ⟨Bs, 0, none⟩ = some (.slice ad zs.length cap)) (hz : IsInts W ad zs) (hzn : ∀ a, ad = some a → zs ≠ [] → a.block < n₀) (h0 : J [] W) :
    CallsIn F n Tryz.prog 140 #[.func (.yield l) #[] #[], .pointer (some ⟨Bs, 0, none⟩)] W fun e W' => (∃ v, e = .returned v) ∧
      ((∃ ys, ys = bk zs zs.length ∧ J ys W') ∨ (∃ pre, (∃ k, k ≤ zs.length ∧ pre = bk zs k) ∧ Jx pre W')) := by
  refine callsIn_of_wp Tryz.func140 rfl h7 ?_ hro
  simp only [Tryz.ntmps140, List.size_toArray, List.length_cons, List.length_nil, Nat.reduceAdd, Nat.reduceSub, Array.replicate_succ, Array.replicate_zero, List.push_toArray, List.append_toArray, List.nil_append, List.cons_append]
  gi_wp2
  gi_loopw [3] (fun i wr => ∃ j : Int, (-1 ≤ j ∧ j < zs.length) ∧ i = .int .i64 j ∧ J (bk zs (zs.length - (j + 1).toNat)) wr ∧ KpB n₀ Bs W wr)
    (fun i _ => (intOf i + 1).toNat)
  case atStart => exact ⟨(zs.length : Int) - 1, ⟨by omega, by omega⟩, rfl, by rw [show zs.length - ((zs.length : Int) - 1 + 1).toNat = 0 by omega]; exact h0, KpB.refl _ _ _⟩
  case round =>
    obtain ⟨j, ⟨hj0, hj1⟩, rfl, hJs, hnx⟩ := hrel
    have hBr : wr.cell? ⟨Bs, 0, none⟩ = some (.slice ad zs.length cap) := by rw [cell_heap (w := W) hnx.2]; exact hBs
    by_cases hlt : 0 ≤ j
    · obtain ⟨m, rfl⟩ := Int.eq_ofNat_of_zero_le hlt
      have hm : m < zs.length := by omega
      have hcx : ∃ b off, ad = some ⟨b, off, none⟩ ∧ wr.cell? ⟨b, off + m, none⟩ = some (.int .i64 (zs[m]?.getD 0)) := by
        rcases hz with h | ⟨b, off, rfl, hb, hc⟩
        · subst h; simp at hm
        · refine ⟨b, off, rfl, ?_⟩
          rw [hnx.1.cell (p := ⟨b, off + m, none⟩) (show b < n₀ from hzn ⟨b, off, none⟩ rfl (by intro h; subst h; simp at hm))]
          have := hc m hm
          simpa using this
      obtain ⟨b, off, rfl, hcx⟩ := hcx
      rw [show ((m : Int) + 1).toNat = m + 1 by omega] at hJs
      obtain ⟨fn, tmps, assign, body, hy, hR⟩ := hY _ (m, zs[m]?.getD 0) wr hJs (by rw [bk_length]; omega) (by simp [hm])
      rw [← bk_at hm] at hR
      dsimp only at hy
      generalize zs[m]?.getD 0 = z at hy hcx
      gi_wp2
      refine hR.mono ?_
      rintro e W3 (⟨rfl, hJ3, hk3⟩ | ⟨rfl, hJx3⟩)
      · gi_wp2
        go_roundw
        case rel => exact ⟨(m : Int) - 1, ⟨by omega, by omega⟩, rfl, by rw [show ((m : Int) - 1 + 1).toNat = m by omega]; exact hJ3, hnx.trans hk3⟩
        case measure => simp only [intOf]; omega
      · gi_wp2
        refine bodyPost_ret (results_none rfl _ _ _) rfl ?_
        exact ⟨⟨_, rfl⟩, .inr ⟨_, ⟨zs.length - m, by omega, rfl⟩, hJx3⟩⟩
    · have hlt' : j < 0 := by omega
      rw [show (j + 1).toNat = 0 by omega] at hJs
      have hJe : J (bk zs zs.length) wr := hJs
      gi_wp2
      go_end0
      exact ⟨⟨_, rfl⟩, .inl hJe⟩

set_option maxHeartbeats 1000000 in
theorem backward_in (F : Fence) (n : Nat) (h5 : F.fn 124) (hro : F.round = none) (a : Option Addr) (len cap : Nat) (w : World) :
    CallsIn F n Tryz.prog 124 #[.slice a len cap] w fun e w' => e = .returned (.func (.func 140) #[] #[.pointer (some ⟨w.heap.size, 0, none⟩)]) ∧ w' = w.alloc (.cells #[.slice a len cap] 32) := by
  refine callsIn_of_wp Tryz.func124 rfl h5 ?_ hro
  simp only [Tryz.ntmps124, List.size_toArray, List.length_cons, List.length_nil, Nat.reduceAdd, Nat.reduceSub, Array.replicate_succ, Array.replicate_zero, List.push_toArray, List.append_toArray, List.nil_append, List.cons_append]
  gi_wp2
  go_ret
  exact ⟨rfl, rfl⟩

theorem backward_stops (F : Fence) (n : Nat) (h7 : F.fn 140) (hro : F.round = none) (hn : 1 ≤ n) (Bs n₀ : Nat) (ad : Option Addr) (cap : Nat) (zs : List Int) (hreach : zs.length * 8 ≤ 140737488351232) (w : World) (hBs : Bs < w.heap.size)
    (hc : w.cell? ⟨Bs, 0, none⟩ = some (.slice ad zs.length cap)) (hz : IsInts w ad zs) (hzn : ∀ a, ad = some a → zs ≠ [] → a.block < n₀) :
    SeqStopsK F n Tryz.prog 140 #[.pointer (some ⟨Bs, 0, none⟩)] (fun x : Nat × Int => #[Value.int .i64 (x.1 : Int), Value.int .i64 x.2]) (KpB n₀ Bs) (fun ys => ys = bk zs zs.length)
      (fun pre => ∃ k, k ≤ zs.length ∧ pre = bk zs k) zs.length w := fun l J Jx W hW _ _ hY h0 =>
  backward1_in F n h7 hro hn l Bs n₀ ad cap zs hreach J Jx (fun pre x W1 hJ hl _ => hY pre x W1 hJ hl) W ((hW.cell (p := ⟨Bs, 0, none⟩) hBs).trans hc) (hz.below hW (Nat.le_refl _)) hzn h0

/-- The same where each number that comes is known to be one of the list. -/
theorem backwardE_stops (F : Fence) (n : Nat) (h7 : F.fn 140) (hro : F.round = none) (hn : 1 ≤ n) (Bs n₀ : Nat) (ad : Option Addr) (cap : Nat) (zs : List Int) (hreach : zs.length * 8 ≤ 140737488351232) (w : World) (hBs : Bs < w.heap.size)
    (hc : w.cell? ⟨Bs, 0, none⟩ = some (.slice ad zs.length cap)) (hz : IsInts w ad zs) (hzn : ∀ a, ad = some a → zs ≠ [] → a.block < n₀) :
    SeqStopsK F n Tryz.prog 140 #[.pointer (some ⟨Bs, 0, none⟩)] (fun x : {x : Nat × Int // x.2 ∈ zs} => #[Value.int .i64 (x.1.1 : Int), Value.int .i64 x.1.2]) (KpB n₀ Bs) (fun ys => ys.map (·.1) = bk zs zs.length)
      (fun pre => ∃ k, k ≤ zs.length ∧ pre.map (·.1) = bk zs k) zs.length w := fun l J Jx W hW _ _ hY h0 => by
  refine (backward1_in F n h7 hro hn l Bs n₀ ad cap zs hreach (fun pre W => ∃ pre' : List {x : Nat × Int // x.2 ∈ zs}, pre'.map (·.1) = pre ∧ J pre' W) (fun pre W => ∃ pre' : List {x : Nat × Int // x.2 ∈ zs}, pre'.map (·.1) = pre ∧ Jx pre' W) ?_ W
    ((hW.cell (p := ⟨Bs, 0, none⟩) hBs).trans hc) (hz.below hW (Nat.le_refl _)) hzn ⟨[], rfl, h0⟩).mono ?_
  · rintro pre x W1 ⟨pre', rfl, hJ⟩ hl hx
    obtain ⟨fn, tmps, assign, body, hy, hR⟩ := hY pre' ⟨x, hx⟩ W1 hJ (by simpa using hl)
    refine ⟨fn, tmps, assign, body, hy, hR.mono ?_⟩
    rintro e w' (⟨he, hJ', hk⟩ | ⟨he, hJ'⟩)
    · exact .inl ⟨he, ⟨_, by simp, hJ'⟩, hk⟩
    · exact .inr ⟨he, _, by simp, hJ'⟩
  · rintro e W' ⟨hv, ⟨ys, rfl, pre', h1, h2⟩ | ⟨pre, ⟨k, hk, rfl⟩, pre', h1, h2⟩⟩
    · exact ⟨hv, .inl ⟨pre', h1, h2⟩⟩
    · exact ⟨hv, .inr ⟨pre', ⟨k, hk, h1⟩, h2⟩⟩

end Go.Proofs.YtchlnkdlnfjijaaGreat

/- valueAt: a range over slices.Backward. -/
namespace Go.Proofs.YtchlnkdlnfjijaaGreat
open Go.RowKit Go.Shelf
attribute [local go_sem] Oper.semAt_some

/-- What the machine makes of what has come. -/
def valM (q x : Int) (pre : List (Nat × Int)) : Int := pre.foldl (fun v p => (IntKind.i64.wrap (v * x + p.2)).tmod q) 0
theorem valM_snoc (q x : Int) (pre : List (Nat × Int)) (p : Nat × Int) : valM q x (pre ++ [p]) = (IntKind.i64.wrap (valM q x pre * x + p.2)).tmod q := by simp [valM]
theorem tmod_range {q : Int} (hq : 0 < q) (a : Int) : -q < a.tmod q ∧ a.tmod q < q := by
  refine ⟨?_, Int.tmod_lt_of_pos _ hq⟩
  have h := Int.tmod_lt_of_pos (-a) hq
  rw [Int.neg_tmod] at h; omega
theorem valM_range {q x : Int} (hq : 0 < q) (pre : List (Nat × Int)) : -q < valM q x pre ∧ valM q x pre < q := by
  rcases List.eq_nil_or_concat pre with rfl | ⟨ini, p, rfl⟩
  · simp [valM]; omega
  · rw [List.concat_eq_append, valM_snoc]; exact tmod_range hq _
theorem prod_any {v x q : Int} (h3 : q ≤ 2000000000) (hv0 : -q < v) (hv1 : v < q) (hx0 : 0 ≤ x) (hx1 : x < q) : -4000000000000000000 ≤ v * x ∧ v * x ≤ 4000000000000000000 := by
  rcases Int.le_total 0 v with h | h
  · obtain ⟨a, b⟩ := mul_res h3 h hv1 hx0 hx1
    exact ⟨by omega, b⟩
  · obtain ⟨a, b⟩ := mul_res (q := q) (a := -v) (b := x) h3 (by omega) (by omega) hx0 hx1
    rw [Int.neg_mul] at a b
    exact ⟨by omega, by omega⟩
theorem valM_bk {q x : Int} (h2 : 2 ≤ q) (h3 : q ≤ 2000000000) (hx0 : 0 ≤ x) (hx1 : x < q) (zs : List Int) (hr : ∀ z ∈ zs, 0 ≤ z ∧ z < q) : ∀ k, k ≤ zs.length → valM q x (bk zs k) = pev q x (zs.drop (zs.length - k))
  | 0, _ => by simp [bk, valM, pev]
  | k + 1, hk => by
    have ih := valM_bk h2 h3 hx0 hx1 zs hr k (by omega)
    have hm : zs.length - 1 - k < zs.length := by omega
    have hd : zs.drop (zs.length - (k + 1)) = zs[zs.length - 1 - k] :: zs.drop (zs.length - 1 - k + 1) := by
      rw [show zs.length - (k + 1) = zs.length - 1 - k by omega]; exact List.drop_eq_getElem_cons hm
    rw [bk_succ, valM_snoc, ih, pev_step hd]
    have e1 : zs.length - (k + 1) + 1 = zs.length - k := by omega
    have e2 : zs[zs.length - 1 - k]?.getD 0 = zs[zs.length - 1 - k] := by simp [hm]
    rw [e1, e2]
    obtain ⟨c0, c1⟩ := hr _ (List.getElem_mem hm)
    obtain ⟨p0, p1⟩ := pev_range (q := q) (x := x) (by omega) (zs.drop (zs.length - k))
    obtain ⟨m0, m1⟩ := mul_res h3 p0 p1 hx0 hx1
    generalize pev q x (zs.drop (zs.length - k)) = v at *
    generalize zs[zs.length - 1 - k] = c at *
    rw [IntKind.wrap_i64 _ |>.trans (by omega : _ = v * x + c)]
    exact Int.tmod_eq_emod_of_nonneg (by omega)
theorem valM_all {q x : Int} (h2 : 2 ≤ q) (h3 : q ≤ 2000000000) (hx0 : 0 ≤ x) (hx1 : x < q) (zs : List Int) (hr : ∀ z ∈ zs, 0 ≤ z ∧ z < q) : valM q x (bk zs zs.length) = pev q x zs := by
  rw [valM_bk h2 h3 hx0 hx1 zs hr _ (Nat.le_refl _), Nat.sub_self, List.drop_zero]

set_option maxRecDepth 100000 in
set_option maxHeartbeats 2000000 in
theorem valueAt_in (F : Fence) (n : Nat) (h3' : F.fn 115) (h5 : F.fn 124) (h7 : F.fn 140) (hro : F.round = none) (hn : 3 ≤ n)
    (q : Int) (ad : Option Addr) (cap : Nat) (zs : List Int) (x : Int) (hl : zs.length ≤ 1000000) (h2 : 2 ≤ q) (h3 : q ≤ 2000000000) (hx0 : 0 ≤ x) (hx1 : x < q) (hr : ∀ z ∈ zs, 0 ≤ z ∧ z < q) (w : World) (hz : IsInts w ad zs) :
    CallsIn F n Tryz.prog 115 #[.int .i64 q, .slice ad zs.length cap, .int .i64 x] w fun e W' => e = .returned (.int .i64 (pev q x zs)) ∧ Below w.heap.size w W' := by
  have h1 : 1 ≤ n := by omega
  have HR := Lib.hid hr
  have hq0 : q ≠ 0 := by omega
  refine callsIn_of_wp_marks Tryz.func115 rfl h3' ?_ hro
  simp only [Tryz.ntmps115, List.size_toArray, List.length_cons, List.length_nil, Nat.reduceAdd, Nat.reduceSub, Array.replicate_succ, Array.replicate_zero, List.push_toArray, List.append_toArray, List.nil_append, List.cons_append]
  gi_wp2_with (gi_at_call 124; refine (backward_in F (n - 1) h5 hro _ _ _ _).mono ?_; rintro e w' ⟨rfl, rfl⟩)
  obtain ⟨B, hB⟩ : ∃ B, w.heap.size = B := ⟨_, rfl⟩
  rw [hB]
  obtain ⟨W0, hW0⟩ : ∃ W0, ((((w.alloc (.cells #[.int .i64 q] 3)).alloc (.cells #[.int .i64 x] 3)).alloc (.cells #[.int .i64 0] 3)).alloc (.cells #[.slice ad zs.length cap] 32)) = W0 := ⟨_, rfl⟩
  rw [hW0]
  have hsz : W0.heap.size = B + 1 + 1 + 1 + 1 := by rw [← hW0]; simp [hB]
  have bq : Boxed W0 B 3 (.int .i64 q) := by rw [← hW0, ← hB]; exact (((Boxed.new w _ _).alloc _).alloc _).alloc _
  have bx : Boxed W0 (B + 1) 3 (.int .i64 x) := by
    have h := Boxed.new (w.alloc (.cells #[.int .i64 q] 3)) 3 (.int .i64 x)
    rw [World.size_alloc, hB] at h
    rw [← hW0]; exact (h.alloc _).alloc _
  have bv : Boxed W0 (B + 1 + 1) 3 (.int .i64 0) := by
    have h := Boxed.new ((w.alloc (.cells #[.int .i64 q] 3)).alloc (.cells #[.int .i64 x] 3)) 3 (.int .i64 0)
    rw [World.size_alloc, World.size_alloc, hB] at h
    rw [← hW0]; exact h.alloc _
  have bs : Boxed W0 (B + 1 + 1 + 1) 32 (.slice ad zs.length cap) := by
    have h := Boxed.new (((w.alloc (.cells #[.int .i64 q] 3)).alloc (.cells #[.int .i64 x] 3)).alloc (.cells #[.int .i64 0] 3)) 32 (.slice ad zs.length cap)
    rw [World.size_alloc, World.size_alloc, World.size_alloc, hB] at h
    rw [← hW0]; exact h
  have hB0 : Below B w W0 := by
    rw [← hW0, ← hB]
    exact ((((Below.refl _ w).alloc (Nat.le_refl _) _).alloc (by simp) _).alloc (by simp; omega) _).alloc (by simp; omega) _
  refine wpIn_rangeFunc_ownG hro h1 (gf := 140) (lb := #[.pointer (some ⟨B + 1 + 1 + 1, 0, none⟩)]) rfl h7 (enters_of Tryz.func140 (by kernel_rfl) rfl)
    (backward_stops F (n - 1) h7 hro (by omega) (B + 1 + 1 + 1) B ad cap zs (by omega) _ (by omega) bs.cell (hz.below hB0 (by omega)) (fun a ha h0 => by rw [← hB]; exact ints_lt hz h0 a ha)) KpB.trans (kpB_b (by omega) (by omega)) (Below.refl _ _) (fun _ => rfl)
    (fun pre W => (W.cell? ⟨B + 1 + 1, 0, none⟩ = some (.int .i64 (valM q x pre)) ∧ W.frozen? ⟨B + 1 + 1, 0, none⟩ = false ∧ W.cell? ⟨B, 0, none⟩ = some (.int .i64 q) ∧ W.cell? ⟨B + 1, 0, none⟩ = some (.int .i64 x)) ∧ Below B w W)
    (fun _ _ _ => False)
    (OwnFrom.and (Own.from (fun s A B row hs hg hr => ⟨cell_kept hs.1 hg hr, (frozen_kept hs.1 hg hr).trans hs.2.1, cell_kept hs.2.2.1 hg hr, cell_kept hs.2.2.2 hg hr⟩) _) (ownFrom_below (by omega) (by omega)))
    (fun _ _ _ _ _ hs _ _ => hs)
    ⟨⟨bv.cell, bv.frozen, bq.cell, bx.cell⟩, hB0⟩
    (fun p => { tmps := #[.int .i64 q, .slice ad zs.length cap, .int .i64 x, .pointer (some ⟨B, 0, none⟩), undef, .pointer (some ⟨B + 1, 0, none⟩), .int .i64 0, .pointer (some ⟨B + 1 + 1, 0, none⟩), undef, .int .i64 p.2, .slice ad zs.length cap,
      .func (.func 140) #[] #[.pointer (some ⟨B + 1 + 1 + 1, 0, none⟩)], .int .i64 (p.1 : Int), .int .i64 p.2, undef, undef, undef, undef, undef, undef, undef, undef], defers := [] }) ?assign ?body ?done ?stop
  case assign =>
    intro l p W K hK
    gi_wp2
    exact hK
  case body =>
    rintro l pre p W ⟨⟨hc, hf, hcq, hcx⟩, hBW⟩ _
    obtain ⟨hv0, hv1⟩ := valM_range (q := q) (x := x) (by omega) pre
    have HS := Lib.hid (valM_snoc q x pre p)
    generalize valM q x pre = v at *
    obtain ⟨m0, m1⟩ := prod_any h3 hv0 hv1 hx0 hx1
    obtain ⟨hr0, hr1⟩ := tmod_range (q := q) (by omega) (IntKind.i64.wrap (v * x + p.2))
    have hvx : IntKind.i64.wrap (v * x) = v * x := by rw [IntKind.wrap_i64]; omega
    have hcv := hc
    generalize hu : IntKind.i64.wrap (v * x + p.2) = u at *
    gi_wp2
    refine ⟨(KeepsOthers.setCell _ _ _).from _, ⟨(Below.refl B W).setCell (p := ⟨B + 1 + 1, 0, none⟩) (by show B ≤ B + 1 + 1; omega) _, Below.heap_setCell _ _ _ (B + 1 + 1 + 1) (by show B + 1 + 1 + 1 ≠ B + 1 + 1; omega)⟩, ⟨?_, ?_, ?_, ?_⟩, hBW.setCell (p := ⟨B + 1 + 1, 0, none⟩) (by show B ≤ B + 1 + 1; omega) _⟩
    · rw [HS.out]; exact World.cell?_setCell_same' _ _ _ (by rw [hc]; rfl)
    · rw [World.frozen?_setCell]; exact hf
    · rw [cell_heap (w := W) (Below.heap_setCell _ _ _ B (by show B ≠ B + 1 + 1; omega))]; exact hcq
    · rw [cell_heap (w := W) (Below.heap_setCell _ _ _ (B + 1) (by show B + 1 ≠ B + 1 + 1; omega))]; exact hcx
  case done =>
    rintro D ys W hD rfl ⟨⟨hc, _⟩, hBW⟩ hK
    rw [valM_all h2 h3 hx0 hx1 zs HR.out] at hc
    gi_wp2
    refine ⟨by simp, .inl ⟨_, _, rfl, run_takeDeferred hK, ?_⟩⟩
    exact ⟨_, results_tmp rfl _ _ _, rfl, by rw [hB]; exact hBW.trans (belowK_b (w := w) (by omega) W D _ _ (by omega) hK rfl rfl)⟩
  case stop =>
    rintro D c pre W _ _ h _
    exact h.elim

theorem valueAt_any (q : Int) (ad : Option Addr) (n cap : Nat) (zs : List Int) (x : Int) (hn : zs.length = n) (hl : n ≤ 1000000) (h2 : 2 ≤ q) (h3 : q ≤ 2000000000) (hx0 : 0 ≤ x) (hx1 : x < q) (hr : ∀ z ∈ zs, 0 ≤ z ∧ z < q) (w : World) (hz : IsInts w ad zs) :
    Calls Tryz.prog 115 #[.int .i64 q, .slice ad n cap, .int .i64 x] w fun e W' => e = .returned (.int .i64 (pev q x zs)) ∧ Below w.heap.size w W' := by
  subst hn
  exact callsIn_wide.1 (valueAt_in Fence.wide 3 trivial trivial trivial rfl (by omega) q ad cap zs x hl h2 h3 hx0 hx1 hr w hz)

end Go.Proofs.YtchlnkdlnfjijaaGreat

/- EvalPoly and EvalAll of both. -/
namespace Go.Proofs.YtchlnkdlnfjijaaGreat
open Go.RowKit

def evlB (q x : Int) (f : List Int) : Bool := fieldB q [f] && resB x q
def evRes (q x : Int) (f : List Int) : Int := if evlB q x f then pev q x f else 0

/-- All values. -/
def evAll (q : Int) (f xs : List Int) : List Int := xs.map fun x => pev q x f
theorem evAll_length (q : Int) (f xs : List Int) : (evAll q f xs).length = xs.length := by simp [evAll]
theorem evAll_get {q : Int} {f xs rest : List Int} {x : Int} {k : Nat} (h : xs.drop k = x :: rest) (hk : k < (evAll q f xs).length) : (evAll q f xs)[k] = pev q x f := by
  obtain ⟨hk', he⟩ := head_of_drop h
  simp [evAll, he]
theorem evAll_take {q : Int} {f xs rest : List Int} {x : Int} {k : Nat} (h : xs.drop k = x :: rest) : (evAll q f xs).take (k + 1) = (evAll q f xs).take k ++ [pev q x f] := by
  obtain ⟨hk', _⟩ := head_of_drop h
  rw [List.take_succ_eq_append_getElem (by rw [evAll_length]; exact hk'), evAll_get h]
def evAllRes (q : Int) (f xs : List Int) : List Int := if fieldB q [f, xs] then evAll q f xs else []
theorem evAllRes_le (q : Int) (f xs : List Int) : (evAllRes q f xs).length ≤ 24 := by
  unfold evAllRes
  split
  · rename_i h
    rw [evAll_length]; exact (shortB_of (field_two h).2.2).2.2.1
  · simp

end Go.Proofs.YtchlnkdlnfjijaaGreat

/- DegreeOf of both. -/
namespace Go.Proofs.YtchlnkdlnfjijaaGreat
open Go.RowKit Go.Shelf

def degRes (q : Int) (f : List Int) : Int := if fieldB q [f] then dg f else 0
theorem bk_zero {zs : List Int} : ∀ k, k ≤ zs.length → (∀ p ∈ bk zs k, p.2 = 0) → ∀ z ∈ zs.drop (zs.length - k), z = 0
  | 0, _, _ => by simp
  | k + 1, hk, h => by
    have hm : zs.length - 1 - k < zs.length := by omega
    have hd : zs.drop (zs.length - (k + 1)) = zs[zs.length - 1 - k] :: zs.drop (zs.length - k) := by
      rw [show zs.length - (k + 1) = zs.length - 1 - k by omega, List.drop_eq_getElem_cons hm]
      congr 2; omega
    rw [bk_succ] at h
    intro z hz
    rw [hd] at hz
    rcases List.mem_cons.1 hz with rfl | hz
    · have := h (zs.length - 1 - k, zs[zs.length - 1 - k]?.getD 0) (by simp)
      simpa [hm] using this
    · exact bk_zero k (by omega) (fun p hp => h p (by simp [hp])) z hz
theorem dg_none {zs : List Int} (h : ∀ p ∈ bk zs zs.length, p.2 = 0) : dg zs = -1 := by
  refine dg_zeros zs fun z hz => ?_
  have := bk_zero zs.length (Nat.le_refl _) h z (by simpa using hz)
  exact this
theorem dg_bk {zs : List Int} {k : Nat} (hk : k < zs.length) (h : ∀ p ∈ bk zs k, p.2 = 0) (hne : zs[zs.length - 1 - k]?.getD 0 ≠ 0) : dg zs = ((zs.length - 1 - k : Nat) : Int) := by
  have hm : zs.length - 1 - k < zs.length := by omega
  refine dg_at zs _ zs[zs.length - 1 - k] (zs.drop (zs.length - k)) ?_ (by simpa [hm] using hne) (bk_zero k (by omega) h)
  rw [List.drop_eq_getElem_cons hm]
  congr 2; omega

section
attribute [local go_sem] Oper.semAt_some
end

end Go.Proofs.YtchlnkdlnfjijaaGreat

/- Why the laws on polynomials and interpolation hold: plain facts. -/
namespace Go.Proofs.YtchlnkdlnfjijaaGreat

theorem pev_cg {q x : Int} (f : List Int) : CgP q (pev q x f) (evp x f) := by rw [pev_ev]; exact CgP.mod q _
theorem cg_range {q a b : Int} (h : CgP q a b) (ha0 : 0 ≤ a) (ha1 : a < q) (hb0 : 0 ≤ b) (hb1 : b < q) : a = b := by
  have := h.eq
  rwa [Int.emod_eq_of_lt ha0 ha1, Int.emod_eq_of_lt hb0 hb1] at this

/-! ### Sums and products -/
theorem field_mk {q : Int} {f : List Int} (hq : isPr q = true) (hs : shortB f q = true) : fieldB q [f] = true := by simp [fieldB, hq, hs]
theorem field_mk2 {q : Int} {f g : List Int} (hq : isPr q = true) (hs : shortB f q = true) (hs' : shortB g q = true) : fieldB q [f, g] = true := by simp [fieldB, hq, hs, hs']
theorem ev_ok {q x : Int} {f : List Int} (hq : isPr q = true) (hs : shortB f q = true) (hx0 : 0 ≤ x) (hx1 : x < q) : evlB q x f = true ∧ evRes q x f = pev q x f := by
  obtain ⟨h2, h3, _⟩ := isPr_num hq
  have e : evlB q x f = true := by
    unfold evlB; rw [field_mk hq hs, resB_true.2 ⟨h2, h3, hx0, hx1⟩]; rfl
  exact ⟨e, by unfold evRes; rw [e]; rfl⟩
theorem add_facts {q : Int} {a b : List Int} (h : fieldB q [a, b] = true) :
    (2 ≤ q ∧ q ≤ 2000000000) ∧ addRes q a b = pAdd q a b ∧ evlB q (q - 1) a = true ∧ evlB q (q - 1) b = true ∧ evlB q (q - 1) (addRes q a b) = true ∧
      (0 ≤ evRes q (q - 1) a ∧ evRes q (q - 1) a < q) ∧ (0 ≤ evRes q (q - 1) b ∧ evRes q (q - 1) b < q) ∧ evRes q (q - 1) (addRes q a b) = (evRes q (q - 1) a + evRes q (q - 1) b) % q := by
  obtain ⟨hq, ha, hb⟩ := field_two h
  obtain ⟨h2, h3, hal, har⟩ := shortB_of ha
  obtain ⟨_, _, hbl, hbr⟩ := shortB_of hb
  have e : addRes q a b = pAdd q a b := by simp [addRes, h]
  have hs : shortB (pAdd q a b) q = true := short_of h2 h3 (by rw [pAdd_length]; omega) (pAdd_res (by omega) har)
  obtain ⟨a1, a2⟩ := ev_ok (x := q - 1) hq ha (by omega) (by omega)
  obtain ⟨b1, b2⟩ := ev_ok (x := q - 1) hq hb (by omega) (by omega)
  obtain ⟨s1, s2⟩ := ev_ok (x := q - 1) hq hs (by omega) (by omega)
  rw [e, a2, b2, s2]
  refine ⟨⟨h2, h3⟩, rfl, a1, b1, s1, pev_range (by omega) _, pev_range (by omega) _, ?_⟩
  refine cg_range ?_ (pev_range (by omega) _).1 (pev_range (by omega) _).2 (Int.emod_nonneg _ (by omega)) (Int.emod_lt_of_pos _ (by omega))
  exact ((pev_cg _).trans (pAdd_ev a b)).trans (((pev_cg a).symm.add (pev_cg b).symm).trans (CgP.mod q _).symm)
theorem mul_facts {q : Int} {f g : List Int} (h : pmB q f g = true) :
    (2 ≤ q ∧ q ≤ 2000000000) ∧ evlB q 1 f = true ∧ evlB q 1 g = true ∧ evlB q 1 (mulRes q f g) = true ∧
      (0 ≤ evRes q 1 f ∧ evRes q 1 f < q) ∧ (0 ≤ evRes q 1 g ∧ evRes q 1 g < q) ∧ evRes q 1 (mulRes q f g) = evRes q 1 f * evRes q 1 g % q := by
  have hm := h
  simp only [pmB, Bool.and_eq_true, decide_eq_true_eq] at h
  obtain ⟨hfd, hl⟩ := h
  obtain ⟨hq, ha, hb⟩ := field_two hfd
  obtain ⟨h2, h3, hal, har⟩ := shortB_of ha
  obtain ⟨_, _, hbl, hbr⟩ := shortB_of hb
  have e : mulRes q f g = mulL q f g := by simp [mulRes, hm]
  have hs : shortB (mulL q f g) q = true := by
    unfold mulL
    split
    · exact short_of h2 h3 (by simp) (by simp)
    · exact short_of h2 h3 (by rw [pMul_length]; omega) (pMul_res (by omega) _ _)
  obtain ⟨a1, a2⟩ := ev_ok (x := 1) hq ha (by omega) (by omega)
  obtain ⟨b1, b2⟩ := ev_ok (x := 1) hq hb (by omega) (by omega)
  obtain ⟨s1, s2⟩ := ev_ok (x := 1) hq hs (by omega) (by omega)
  rw [e, a2, b2, s2]
  refine ⟨⟨h2, h3⟩, a1, b1, s1, pev_range (by omega) _, pev_range (by omega) _, ?_⟩
  unfold mulL
  split
  · rename_i h0
    rcases h0 with h0 | h0
    · rw [List.eq_nil_of_length_eq_zero h0]; simp [pev]
    · rw [List.eq_nil_of_length_eq_zero h0]; simp [pev]
  · rename_i h0
    have hg : g ≠ [] := by rintro rfl; simp at h0
    refine cg_range ?_ (pev_range (by omega) _).1 (pev_range (by omega) _).2 (Int.emod_nonneg _ (by omega)) (Int.emod_lt_of_pos _ (by omega))
    exact ((pev_cg _).trans (pMul_ev f g hg)).trans (((pev_cg f).symm.mul (pev_cg g).symm).trans (CgP.mod q _).symm)

/-! ### Roots -/
theorem roots_facts {q : Int} {rs : List Int} (h : rootsB q rs = true) :
    (2 ≤ q ∧ q ≤ 2000000000) ∧ rs.length ≤ 23 ∧ fieldB q [rootsRes q rs, rs] = true ∧ evAllRes q (rootsRes q rs) rs = List.replicate rs.length 0 ∧ fieldB q [rootsRes q rs] = true ∧ degRes q (rootsRes q rs) = rs.length := by
  have hm := h
  simp only [rootsB, Bool.and_eq_true, decide_eq_true_eq] at h
  obtain ⟨hfd, hl⟩ := h
  obtain ⟨hq, hs⟩ := field_one hfd
  obtain ⟨h2, h3, _, hr⟩ := shortB_of hs
  have e : rootsRes q rs = pRoots q rs := by simp [rootsRes, hm]
  have hp : shortB (pRoots q rs) q = true := short_of h2 h3 (by rw [pRoots_length]; omega) (pRoots_res (by omega) _)
  rw [e]
  refine ⟨⟨h2, h3⟩, hl, field_mk2 hq hp hs, ?_, field_mk hq hp, ?_⟩
  · unfold evAllRes
    rw [field_mk2 hq hp hs, if_pos rfl]
    refine List.eq_replicate_iff.2 ⟨evAll_length _ _ _, fun z hz => ?_⟩
    obtain ⟨x, hx, rfl⟩ := List.mem_map.1 hz
    rw [pRoots_pev (by omega)]
    exact fac_root rs 1 hx
  · unfold degRes
    rw [field_mk hq hp, if_pos rfl]
    exact pRoots_dg (by omega) rs

/-! ### Interpolation -/
/-- The sum of what the values add, at x. -/
def sumAt (q x : Int) (xs : List Int) : Nat → List Int → Int
  | _, [] => 0
  | i, y :: ys => itpC q xs i y * fac q x (wo xs i) + sumAt q x xs (i + 1) ys
theorem itpFrom_ev {q x : Int} {xs : List Int} (hq : 1 < q) : ∀ (ys : List Int) (i : Nat) (P : List Int), P.length = xs.length → i + ys.length = xs.length → CgP q (evp x (itpFrom q xs i ys P)) (evp x P + sumAt q x xs i ys)
  | [], i, P, _, _ => by simp only [itpFrom, sumAt, Int.add_zero]; exact CgP.refl _ _
  | y :: ys, i, P, hP, hi => by
    simp only [List.length_cons] at hi
    rw [itpFrom]
    refine (itpFrom_ev hq ys (i + 1) _ (by rw [axpy_length]; exact hP) (by omega)).trans ?_
    have hw : (wo xs i).length + 1 = xs.length := by rw [wo_length (by omega)]; omega
    have h1 := axpy_ev (q := q) (c := itpC q xs i y) (x := x) P (pRoots q (wo xs i)) (by rw [pRoots_length]; omega)
    have h2 : CgP q (evp x (pRoots q (wo xs i))) (fac q x (wo xs i)) := by
      have h := pev_cg (q := q) (x := x) (pRoots q (wo xs i))
      rw [pRoots_pev hq] at h
      exact h.symm
    refine (((h1.trans ((CgP.refl q _).add ((CgP.refl q (itpC q xs i y)).mul h2))).add (CgP.refl q _))).trans ⟨0, ?_⟩
    simp only [sumAt]
    grind
theorem itp_cg {q x : Int} {xs ys : List Int} (hq : 1 < q) (hl : ys.length = xs.length) : CgP q (pev q x (itp q xs ys)) (sumAt q x xs 0 ys) := by
  have h := itpFrom_ev (q := q) (x := x) (xs := xs) hq ys 0 (List.replicate xs.length 0) (by simp) (by omega)
  rw [evp_zeros] at h
  exact (pev_cg _).trans (h.trans ⟨0, by simp⟩)
theorem dotFrom_cg {q x : Int} {xs : List Int} : ∀ (ys : List Int) (i : Nat) (acc : Int), i + ys.length = xs.length → CgP q (dotFrom q acc ((lagr q x xs).drop i) ys) (acc + sumAt q x xs i ys)
  | [], i, acc, hi => by
    have : (lagr q x xs).drop i = [] := List.drop_of_length_le (by rw [lagr_length]; simp at hi; omega)
    rw [this]; simp only [dotFrom, sumAt, Int.add_zero]; exact CgP.refl _ _
  | y :: ys, i, acc, hi => by
    simp only [List.length_cons] at hi
    have hk : i < (lagr q x xs).length := by rw [lagr_length]; omega
    rw [List.drop_eq_getElem_cons hk, lagr_get]
    simp only [dotFrom]
    refine (dotFrom_cg ys (i + 1) _ (by omega)).trans ?_
    refine (((CgP.mod q _).trans (CgP.refl q _)).add (CgP.refl q _)).trans ?_
    simp only [sumAt]
    have h1 : CgP q (coefAt q x xs i * y) (itpC q xs i y * fac q x (wo xs i)) := by
      unfold coefAt itpC
      generalize fac q x (wo xs i) = A
      generalize Num.inv (fac q (xs[i]?.getD 0) (wo xs i)) q = I
      exact ((CgP.mod q (A * I)).mul (CgP.refl q y)).trans ((show CgP q (A * I * y) (y * I * A) from ⟨0, by grind⟩).trans ((CgP.mod q (y * I)).symm.mul (CgP.refl q A)))
    have h2 := ((CgP.refl q acc).add h1).add (CgP.refl q (sumAt q x xs (i + 1) ys))
    exact h2.trans ⟨0, by grind⟩
theorem dotFrom_range {q : Int} (hq : 0 < q) : ∀ (cs ys : List Int) (acc : Int), 0 ≤ acc → acc < q → 0 ≤ dotFrom q acc cs ys ∧ dotFrom q acc cs ys < q
  | [], _, acc, h0, h1 => by simp only [dotFrom]; exact ⟨h0, h1⟩
  | _ :: _, [], acc, h0, h1 => by simp only [dotFrom]; exact ⟨h0, h1⟩
  | c :: cs, y :: ys, acc, _, _ => by simp only [dotFrom]; exact dotFrom_range hq cs ys _ (Int.emod_nonneg _ (by omega)) (Int.emod_lt_of_pos _ hq)
theorem itp_dot {q x : Int} {xs ys : List Int} (hq : 1 < q) (hl : ys.length = xs.length) : pev q x (itp q xs ys) = dotFrom q 0 (lagr q x xs) ys := by
  have h := dotFrom_cg (q := q) (x := x) (xs := xs) ys 0 0 (by omega)
  rw [List.drop_zero, Int.zero_add] at h
  obtain ⟨a, b⟩ := pev_range (q := q) (x := x) (by omega) (itp q xs ys)
  obtain ⟨c, d⟩ := dotFrom_range (q := q) (by omega) (lagr q x xs) ys 0 (by omega) (by omega)
  exact cg_range ((itp_cg hq hl).trans h.symm) a b c d

theorem sumAt_zero {q x : Int} {xs : List Int} : ∀ (ys : List Int) (i : Nat), (∀ k, i ≤ k → k < i + ys.length → fac q x (wo xs k) = 0) → sumAt q x xs i ys = 0
  | [], _, _ => rfl
  | y :: ys, i, h => by
    rw [sumAt, h i (Nat.le_refl _) (by simp), sumAt_zero ys (i + 1) (fun k h1 h2 => h k (by omega) (by simp only [List.length_cons]; omega))]; simp
theorem sumAt_one {q x : Int} {xs : List Int} : ∀ (ys : List Int) (i j : Nat) (y : Int), i ≤ j → ys[j - i]? = some y → (∀ k, i ≤ k → k < i + ys.length → k ≠ j → fac q x (wo xs k) = 0) → sumAt q x xs i ys = itpC q xs j y * fac q x (wo xs j)
  | [], _, _, _, _, h, _ => by simp at h
  | y' :: ys, i, j, y, hij, hy, h => by
    by_cases he : i = j
    · subst he
      rw [Nat.sub_self, List.getElem?_cons_zero, Option.some.injEq] at hy
      subst hy
      rw [sumAt, sumAt_zero ys (i + 1) (fun k h1 h2 => h k (by omega) (by simp only [List.length_cons]; omega) (by omega))]; simp
    · rw [sumAt, h i (Nat.le_refl _) (by simp) he]
      have e : j - i = (j - (i + 1)) + 1 := by omega
      rw [e, List.getElem?_cons_succ] at hy
      rw [sumAt_one ys (i + 1) j y (by omega) hy (fun k h1 h2 h3 => h k (by omega) (by simp only [List.length_cons]; omega) h3)]; simp
theorem mem_wo {xs : List Int} {j k : Nat} (hj : j < xs.length) (hne : k ≠ j) : xs[j] ∈ wo xs k := by
  unfold wo
  rw [List.mem_append]
  rcases Nat.lt_or_gt_of_ne hne with h | h
  · right
    exact List.mem_of_getElem? (i := j - (k + 1)) (by rw [List.getElem?_drop, show k + 1 + (j - (k + 1)) = j by omega]; simp [hj])
  · left
    exact List.mem_of_getElem? (i := j) (by rw [List.getElem?_take, if_pos h]; simp [hj])
theorem itp_at {q : Int} {xs ys : List Int} (hq : isPr q = true) (hr : ∀ z ∈ xs, 0 ≤ z ∧ z < q) (hry : ∀ z ∈ ys, 0 ≤ z ∧ z < q) (hn : xs.Nodup) (hl : ys.length = xs.length) {j : Nat} (hj : j < xs.length) : pev q xs[j] (itp q xs ys) = ys[j]'(by omega) := by
  obtain ⟨h2, h3, _⟩ := isPr_num hq
  have hjy : j < ys.length := by omega
  have hd := List.drop_eq_getElem_cons hj
  obtain ⟨f0, fok⟩ := fac_inv hq hr hn hd
  have hy := hry _ (List.getElem_mem hjy)
  obtain ⟨a, b⟩ := pev_range (q := q) (x := xs[j]) (by omega) (itp q xs ys)
  refine cg_range ((itp_cg (by omega) hl).trans ?_) a b hy.1 hy.2
  rw [sumAt_one ys 0 j ys[j] (Nat.zero_le _) (by simp [hjy]) (fun k _ h2 h3 => fac_root _ 1 (mem_wo hj h3))]
  have e : xs[j]?.getD 0 = xs[j] := by simp [hj]
  unfold itpC
  rw [e]
  have hf := fac_range (q := q) (x := xs[j]) (by omega) (wo xs j)
  have hone := (inv_res ⟨hf.1, hf.2⟩ h2 fok).1
  generalize fac q xs[j] (wo xs j) = F at *
  generalize Num.inv F q = I at *
  refine ((CgP.mod q (ys[j] * I)).mul (CgP.refl q F)).trans ?_
  have h1 : CgP q (F * I) 1 := CgP.of (by rw [hone]; exact (Int.emod_eq_of_lt (by omega) (by omega)).symm)
  exact (show CgP q (ys[j] * I * F) (ys[j] * (F * I)) from ⟨0, by grind⟩).trans (((CgP.refl q ys[j]).mul h1).trans ⟨0, by simp⟩)

theorem itp_facts {q : Int} {xs ys : List Int} (h : tabB q xs ys = true) :
    (2 ≤ q ∧ q ≤ 2000000000) ∧ xs.length ≤ 24 ∧ ys.length = xs.length ∧ fieldB q [itpRes q xs ys, xs] = true ∧ evAllRes q (itpRes q xs ys) xs = ys ∧ valB q 0 xs ys = true ∧ evlB q 0 (itpRes q xs ys) = true ∧ valRes q 0 xs ys = evRes q 0 (itpRes q xs ys) ∧
      lagB q 0 xs = true ∧ dotB (lagRes q 0 xs) ys q = true ∧ dotMod (lagRes q 0 xs) ys q = evRes q 0 (itpRes q xs ys) := by
  have ht := h
  obtain ⟨hnn, hpr, hsx, hnd, h0, hsy⟩ := tab_of h
  obtain ⟨h2, h3, hlx, hrx⟩ := shortB_of hsx
  obtain ⟨_, _, _, hry⟩ := shortB_of hsy
  have e : itpRes q xs ys = itp q xs ys := by simp [itpRes, ht]
  have hs : shortB (itp q xs ys) q = true := short_of h2 h3 (by rw [itp_length]; exact hlx) (itp_res (by omega) _ _)
  have hr0 : resB 0 q = true := resB_true.2 ⟨h2, h3, by omega, by omega⟩
  have hv : valB q 0 xs ys = true := by simp [valB, ht, hr0]
  have hp : ptsB q xs = true := by simp only [tabB, Bool.and_eq_true] at ht; exact ht.1.2
  have hlg : lagB q 0 xs = true := by simp [lagB, hp, hr0]
  have hlr : lagRes q 0 xs = lagr q 0 xs := by simp [lagRes, hlg]
  obtain ⟨e1, e2⟩ := ev_ok (x := 0) hpr hs (by omega) (by omega)
  have hvr : valRes q 0 xs ys = dotFrom q 0 (lagr q 0 xs) ys := by simp [valRes, hv]
  rw [e, e2, hlr, hvr]
  refine ⟨⟨h2, h3⟩, hlx, hnn.symm, field_mk2 hpr hs hsx, ?_, hv, e1, (itp_dot (by omega) hnn.symm).symm, hlg, by rw [val_dot hlg]; exact hv, ?_⟩
  · unfold evAllRes
    rw [field_mk2 hpr hs hsx, if_pos rfl]
    refine List.ext_getElem (by rw [evAll_length]; exact hnn) fun j h1 h2 => ?_
    rw [evAll_length] at h1
    simp only [evAll, List.getElem_map]
    exact itp_at hpr hrx hry hnd hnn.symm h1
  · rw [val_res hlg, hvr, itp_dot (by omega) hnn.symm]

end Go.Proofs.YtchlnkdlnfjijaaGreat

