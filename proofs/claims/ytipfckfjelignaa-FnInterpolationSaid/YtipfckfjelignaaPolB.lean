/- Sums of polynomials. -/
import Derived.Test.YtipfckfjelignaaPolA
import Derived.Laws.CopyOwn
namespace Go.Proofs.Ytipfckfjelignaa
open Go.RowKit

theorem Try.sizeI : (Try.prog.info? 3).map (·.size) = some 1 := by kernel_rfl

/-- A row of one's own whose length is its capacity: the whole block. -/
theorem row_full {w : World} {B g n : Nat} {zs : List Int} (h : w.ownsRow B 3 1 (.slice (some ⟨g, 0, none⟩) n n) n (zs.map (Value.int .i64))) :
    w.heap[g]? = some (.cells (zs.map (Value.int .i64)).toArray 3 (0, 0)) ∧ B ≤ g ∧ zs.length = n := by
  have hn : zs.length = n := by have := h.1; simpa using this
  rcases h.2 with ⟨h1, _⟩ | ⟨g', cap', cur, h1, h2, h3, _, _, h6, h7⟩
  · cases h1
  · simp only [Value.slice.injEq, Option.some.injEq, Addr.mk.injEq, and_true, true_and] at h1
    obtain ⟨rfl, rfl⟩ := h1
    refine ⟨?_, h2, hn⟩
    rw [Nat.mul_one] at h6 h7
    rw [List.take_of_length_le (by simp [h6])] at h7
    rw [h3, ← h7]
theorem row_mk {w : World} {B g n : Nat} {zs : List Int} (h : w.heap[g]? = some (.cells (zs.map (Value.int .i64)).toArray 3 (0, 0))) (hB : B ≤ g) (hn : zs.length = n) (hl : n ≤ 1000000) :
    w.ownsRow B 3 1 (.slice (some ⟨g, 0, none⟩) n n) n (zs.map (Value.int .i64)) := by
  refine ⟨by simp [hn], .inr ⟨g, n, _, rfl, hB, h, Nat.le_refl _, by unfold maxLen; omega, by simp [hn], ?_⟩⟩
  rw [List.take_of_length_le (by simp [hn])]
theorem made_zeros {w : World} {B g n : Nat} (h : w.ownsRow B 3 1 (.slice (some ⟨g, 0, none⟩) n n) n (madeCells (Value.cells (.int .i64 0)) (n * 1)).toList) :
    w.ownsRow B 3 1 (.slice (some ⟨g, 0, none⟩) n n) n ((List.replicate n (0 : Int)).map (Value.int .i64)) := by
  rw [show Value.cells (.int .i64 0) = #[.int .i64 0] from rfl, Nat.mul_one, toList_madeCells_one] at h
  simpa using h
theorem ints_copy {w : World} {ad : Option Addr} {zs : List Int} (h : IsInts w ad zs) {cs : List Value} (hc : cs = zs.map (Value.int .i64)) (h0 : 0 < cs.length) :
    ∃ a, ad = some a ∧ ∀ j v, cs[j]? = some v → w.cell? (a.add j) = some v := by
  subst hc
  rcases h with rfl | ⟨b, off, rfl, _, hcell⟩
  · simp at h0
  · refine ⟨_, rfl, fun j v hv => ?_⟩
    rw [List.getElem?_map] at hv
    have hj : j < zs.length := by
      rcases Nat.lt_or_ge j zs.length with h | h
      · exact h
      · rw [List.getElem?_eq_none h] at hv; cases hv
    have := hcell j hj
    simp only [hj, List.getElem?_eq_getElem, Option.map_some, Option.some.injEq] at hv
    have e : Addr.add ⟨b, off, none⟩ j = ⟨b, off + j, none⟩ := by simp [Addr.add]
    rw [e, this, ← hv]
    simp [hj]
theorem ints_one {zs : List Int} : ∀ v ∈ zs.map (Value.int .i64), v.oneCell' = true := by
  intro v hv; obtain ⟨z, _, rfl⟩ := List.mem_map.1 hv; rfl

theorem splice_fill {N : Nat} {fs : List Int} : splice ((List.replicate N (0 : Int)).map (Value.int .i64)) 0 (fs.map (Value.int .i64)) = (fs ++ List.replicate (N - fs.length) 0).map (Value.int .i64) := by
  unfold splice
  simp
def addRes (q : Int) (fs gs : List Int) : List Int := if fieldB q [fs, gs] then pAdd q fs gs else []
theorem field_two {q : Int} {fs gs : List Int} (h : fieldB q [fs, gs] = true) : isPr q = true ∧ shortB fs q = true ∧ shortB gs q = true := by
  simpa [fieldB] using h
theorem field_one {q : Int} {fs : List Int} (h : fieldB q [fs] = true) : isPr q = true ∧ shortB fs q = true := by
  simpa [fieldB] using h

end Go.Proofs.Ytipfckfjelignaa

