/- A list without one element; lists whose elements are different. -/
import Derived.Test.YtipfckfjelignaaPolH
import Derived.Deep.RegionLaw
namespace Go.Proofs.Ytipfckfjelignaa
open Go.RowKit

def wo (l : List Int) (i : Nat) : List Int := l.take i ++ l.drop (i + 1)
theorem wo_length {l : List Int} {i : Nat} (h : i < l.length) : (wo l i).length = l.length - 1 := by simp [wo]; omega
theorem wo_mem {l : List Int} {i : Nat} {z : Int} (h : z ∈ wo l i) : z ∈ l := by
  rcases List.mem_append.1 h with h | h
  · exact List.mem_of_mem_take h
  · exact List.mem_of_mem_drop h
theorem IsInts.take {w : World} {ad : Option Addr} {zs : List Int} (h : IsInts w ad zs) (k : Nat) : IsInts w ad (zs.take k) := by
  rcases h with rfl | ⟨b, off, rfl, hb, hc⟩
  · exact .inl (by simp)
  · refine .inr ⟨b, off, rfl, hb, fun i hi => ?_⟩
    simp only [List.length_take] at hi
    rw [hc i (by omega)]
    simp [List.getD, show i < k by omega]
theorem IsInts.drop {w : World} {b off : Nat} {zs : List Int} (h : IsInts w (some ⟨b, off, none⟩) zs) (k : Nat) : IsInts w (some ⟨b, off + k, none⟩) (zs.drop k) := by
  rcases h with rfl | ⟨b', off', e, hb, hc⟩
  · exact .inl (by simp)
  · simp only [Option.some.injEq, Addr.mk.injEq, and_true] at e
    obtain ⟨rfl, rfl⟩ := e
    refine .inr ⟨b, off + k, rfl, hb, fun i hi => ?_⟩
    simp only [List.length_drop] at hi
    rw [Nat.add_assoc, hc (k + i) (by omega)]
    simp [List.getD, List.getElem?_drop]

set_option maxRecDepth 100000 in
set_option maxHeartbeats 3200000 in
theorem without_any (ad : Option Addr) (n cap i : Nat) (l : List Int) (hn : l.length = n) (hi : i < n) (hcap : n ≤ cap) (hl : n ≤ 1000000) (w : World) (hx : IsInts w ad l) :
    Calls Try.prog 94 #[.slice ad n cap, .int .i64 i] w (OwnOut w (wo l i)) := by
  obtain ⟨i0, hi0, hz0, hz1, hz2⟩ := info_parts Try.info3
  have HZ2 := Lib.hid hz2
  obtain ⟨b, off, _, rfl, hb, _, _⟩ := hx.at (k := i) (by omega)
  obtain ⟨m, rfl⟩ : ∃ m, n = m + 1 := ⟨n - 1, by omega⟩
  have hm1 : ((m + 1 : Nat) : Int) - 1 = (m : Int) := by omega
  obtain ⟨X1, hX1⟩ : ∃ X1 : List Value, X1 = (l.take i).map (Value.int .i64) := ⟨_, rfl⟩
  obtain ⟨X2, hX2⟩ : ∃ X2 : List Value, X2 = (l.drop (i + 1)).map (Value.int .i64) := ⟨_, rfl⟩
  have hl1 : X1.length = i := by rw [hX1]; simp; omega
  have hl2 : X2.length = m - i := by rw [hX2]; simp; omega
  have H1 := Lib.hid hX1
  have H2 := Lib.hid hX2
  have HL1 := Lib.hid hl1
  have HL2 := Lib.hid hl2
  have HN := Lib.hid hn
  have h1s : ∀ v ∈ X1, v.oneCell' = true := by rw [hX1]; exact ints_one
  have h2s : ∀ v ∈ X2, v.oneCell' = true := by rw [hX2]; exact ints_one
  have H1S := Lib.hid h1s
  have H2S := Lib.hid h2s
  clear hX1 hX2 hl1 hl2 hn h1s h2s hz2
  go_enter Try.func94, Try.ntmps94
  go_wp2_with (first
    | (at_make
       refine wpList_make_full _ rfl _ _ 27 rfl w.heap.size 3 i0 (.int .i64 0) 1 Try.underlying27 hi0 hz0 hz1 .i64 .i64 _ _ m rfl rfl rfl rfl (by rw [HZ2.out]; omega) (by unfold maxLen; omega) (Nat.le_refl _) ?_
       intro w1 hown hgrow
       obtain ⟨hc, hBg, _⟩ := row_full (made_zeros hown)
       have HC := Lib.hid hc
       have HX2 := Lib.hid (hx.grown hgrow (by simp))
       have HB1 := Lib.hid ((Below.refl w.heap.size w).grown hgrow (Nat.le_refl _) (by simp))
       clear hc hown hgrow)
    | (with_reducible show wpList _ _ _ _ _ _
       refine wpList_copy_splice rfl (.tmp 10) (.tmp 13) 27 27 rfl 3 Try.underlying27 Try.sizeI (some ⟨w.heap.size, 0, none⟩) (some ⟨b, off, none⟩) m m i cap (by rfl) (by rfl) w.heap.size 0 _ 3 HC.out X1 (by show _ = min _ _; rw [HL1.out]; omega) (fun h => ⟨rfl, ints_copy (HX2.out.take i) H1.out h⟩) (by simp only [List.length_map, List.length_replicate, HL1.out]; omega) H1S.out w.heap.size w HB1.out hBg ?_
       intro w2 hg2 hb2
       have HG2 := Lib.hid hg2.out
       have HB2 := Lib.hid hb2
       clear hg2 hb2)
    | fail)
  have hdl : w2.drew.heap[w.heap.size]? = some (.cells (splice ((List.replicate m (0 : Int)).map (Value.int .i64)) 0 X1).toArray 3 (0, 0)) := HG2.out
  have HDL := Lib.hid hdl
  have HBD := Lib.hid (show Below w.heap.size w w2.drew from HB2.out.drew)
  have HXD := Lib.hid (hx.below HBD.out (Nat.le_refl _))
  have hcl0 : (splice ((List.replicate m (0 : Int)).map (Value.int .i64)) 0 X1).length = m := by rw [length_splice _ _ _ (by simp [HL1.out]; omega)]; simp
  have HCL := Lib.hid hcl0
  have hwr : IntKind.i64.wrap ((i : Int) + 1) = (i : Int) + 1 := by rw [IntKind.wrap_i64]; omega
  have hp0 : (0 : Int) ≤ (i : Int) + 1 := by omega
  have hp2 : ((i : Int) + 1).toNat = i + 1 := by omega
  have hend : ∀ w3 : World, w3.heap[w.heap.size]? = some (.cells (splice (splice ((List.replicate m (0 : Int)).map (Value.int .i64)) 0 X1) i X2).toArray 3 (0, 0)) → w3.ownsRow w.heap.size 3 1 (.slice (some ⟨w.heap.size, 0, none⟩) m m) m ((wo l i).map (Value.int .i64)) := by
    intro w3 hg
    refine row_mk ?_ (Nat.le_refl _) (by rw [wo_length (by have := HN.out; omega), HN.out]; rfl) (by omega)
    rw [hg]
    congr 2
    have e : splice (splice ((List.replicate m (0 : Int)).map (Value.int .i64)) 0 X1) i X2 = X1 ++ X2 := by
      unfold splice
      rw [HL2.out, List.take_zero, List.nil_append, List.drop_append]
      simp [HL1.out]
    rw [e, H1.out, H2.out, wo, List.map_append]
  have HE := Lib.hid hend
  clear hdl hcl0 hend hx
  by_cases him : i < m
  · have hp1 : (i : Int) + 1 ≤ (cap : Int) := by omega
    have hp3 : (i : Int) + 1 ≤ (m : Int) + 1 := by omega
    have hp4 : (i : Int) ≤ (m : Int) := by omega
    have hne : ¬ m = i := by omega
    have hne2 : ¬ cap = i + 1 := by omega
    go_region_law (refine step_copy_splice rfl (.tmp 17) (.tmp 21) 27 27 rfl 3 Try.underlying27 Try.sizeI (some ⟨w.heap.size, i, none⟩) (some ⟨b, off + (i + 1), none⟩) (m - i) (m - i) (m - i) (cap - (i + 1)) (by simp [Act.eval, Act.put]) (by simp [Act.eval, Act.put]) w.heap.size i _ 3 HDL.out X2 (by show _ = min _ _; rw [HL2.out]; omega) (fun h => ⟨rfl, ints_copy (HXD.out.drop (i + 1)) H2.out h⟩) (by rw [HCL.out, HL2.out]; omega) H2S.out w.heap.size w HBD.out (Nat.le_refl _) ?_; intro w4 hg4 hb4)
    have HG4 := Lib.hid (HE.out _ hg4.out)
    have HB4 := Lib.hid hb4
    clear hg4 hb4
    go_wp2
    go_ret
    exact ownOut_mk HG4.out HB4.out
  · obtain rfl : i = m := by omega
    by_cases hic : i + 1 = cap
    · subst hic
      have hp1 : (i : Int) + 1 ≤ ((i + 1 : Nat) : Int) := by omega
      go_region_law (refine step_copy_splice rfl (.tmp 17) (.tmp 21) 27 27 rfl 3 Try.underlying27 Try.sizeI (some ⟨w.heap.size, 0, none⟩) (some ⟨b, off, none⟩) 0 0 0 0 (by simp [Act.eval, Act.put]) (by simp [Act.eval, Act.put]) w.heap.size i _ 3 HDL.out X2 (by show _ = min _ _; rw [HL2.out]; omega) (fun h => absurd h (by rw [HL2.out]; omega)) (by rw [HCL.out, HL2.out]; omega) H2S.out w.heap.size w HBD.out (Nat.le_refl _) ?_; intro w4 hg4 hb4)
      have HG4 := Lib.hid (HE.out _ hg4.out)
      have HB4 := Lib.hid hb4
      clear hg4 hb4
      go_wp2
      go_ret
      exact ownOut_mk HG4.out HB4.out
    · have hp1 : (i : Int) + 1 ≤ (cap : Int) := by omega
      have hne2 : ¬ cap = i + 1 := by omega
      go_region_law (refine step_copy_splice rfl (.tmp 17) (.tmp 21) 27 27 rfl 3 Try.underlying27 Try.sizeI (some ⟨w.heap.size, 0, none⟩) (some ⟨b, off + (i + 1), none⟩) 0 0 0 (cap - (i + 1)) (by simp [Act.eval, Act.put]) (by simp [Act.eval, Act.put]) w.heap.size i _ 3 HDL.out X2 (by show _ = min _ _; rw [HL2.out]; omega) (fun h => absurd h (by rw [HL2.out]; omega)) (by rw [HCL.out, HL2.out]; omega) H2S.out w.heap.size w HBD.out (Nat.le_refl _) ?_; intro w4 hg4 hb4)
      have HG4 := Lib.hid (HE.out _ hg4.out)
      have HB4 := Lib.hid hb4
      clear hg4 hb4
      go_wp2
      go_ret
      exact ownOut_mk HG4.out HB4.out

end Go.Proofs.Ytipfckfjelignaa

