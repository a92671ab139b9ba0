/- A list of lists that comes into a law. -/
import Derived.Test.YtdaekpfngphefaaTyI
import Derived.Deep.Matrix
namespace Go.Proofs.Ytdaekpfngphefaa
open Go.RowKit Go.Deep

theorem inS_open {H : Type} {enc : TypeId × Value → H} {W : World} {held : Bool} {fuel len cap : Nat} {a : Option Addr} {x : DataW H × List MemPlace}
    (hf : DataW.trod enc Try.prog W 0 (fun _ => true) held fuel 24 (Value.cells (.slice a len cap)).toList = some x) :
    ∃ zss, InS W.heap.size W (.slice a len cap) zss ∧ zss.length ≤ maxLen ∧ ∀ z ∈ zss, z.length ≤ maxLen := by
  rcases open_int_rows Try.underlying24 Try.underlying25 Try.underlying3 (by kernel_rfl) (by kernel_rfl) hf with ⟨hcs, _⟩ | ⟨x, l, c, A, L, C, Z, hcs, _, hl, hm, _, hc⟩
  · simp [Value.cells] at hcs
    obtain ⟨rfl, rfl, rfl⟩ := hcs
    exact ⟨[], ⟨Nat.le_refl _, none, 0, rfl, fun _ => rfl, .inl rfl⟩, by simp, by simp⟩
  · simp [Value.cells] at hcs
    obtain ⟨rfl, rfl, rfl⟩ := hcs
    have row : ∀ r, r < cap → InI W.heap.size W (.slice (A r) (L r) (C r)) ((Z r).take (L r)) ∧ ((Z r).take (L r)).length ≤ maxLen := by
      intro r hr
      obtain ⟨h1, h2, h3, h4, h5, h6, h7⟩ := hc r hr
      have hrow : (A r = none ∧ L r = 0 ∧ C r = 0 ∧ Z r = []) ∨ ∃ x, A r = some x ∧ L r ≤ C r ∧ C r ≤ maxLen ∧ (Z r).length = C r ∧ (∀ i, i < (Z r).length → W.cell? (x.add i) = some (.int .i64 ((Z r).getD i 0))) ∧ ∀ n ∈ Z r, (Lit.int .i64 n).wf = true := by
        cases hA : A r with
        | none =>
          have := h6 hA
          exact .inl ⟨rfl, by omega, this, List.length_eq_zero_iff.1 (by omega)⟩
        | some y => exact .inr ⟨y, rfl, h2, h3, h4, fun i hi => (h7 y hA).2 i (by omega), h5⟩
      obtain ⟨q1, q2, q3⟩ := inI_of_row hrow
      exact ⟨q1, by omega⟩
    refine ⟨(List.range len).map fun r => (Z r).take (L r), ⟨Nat.le_refl _, some x, cap, by simp, (fun h => by cases h), ?_⟩, by simp; omega, ?_⟩
    · by_cases h0 : len = 0
      · subst h0; exact .inl (by simp)
      · obtain ⟨b, off, spot⟩ := x
        have h0' := (hc 0 (by omega)).1
        have hspot : spot = none := by simpa [Addr.add] using World.cell?_spot h0'
        subst hspot
        have hb : b < W.heap.size := by
          have := World.block_lt_of_cell? W _ h0'
          simpa [Addr.add] using this
        refine .inr ⟨b, off, rfl, hb, hb, fun i z hz => ?_⟩
        simp only [List.getElem?_map, Option.map_eq_some_iff] at hz
        obtain ⟨r, hr, rfl⟩ := hz
        obtain ⟨hr1, hr2⟩ := List.getElem?_eq_some_iff.1 hr
        have hil : i < len := by simpa using hr1
        have hri : r = i := by simpa using hr2.symm
        subst hri
        have e : (⟨b, off, none⟩ : Addr).add r = ⟨b, off + r, none⟩ := by
          unfold Addr.add; split
          · subst_vars; rfl
          · rfl
        have h1 := (hc r (by omega)).1
        rw [e] at h1
        exact ⟨_, h1, (row r (by omega)).1⟩
    · intro z hz
      obtain ⟨r, hr, rfl⟩ := List.mem_map.1 hz
      exact (row r (by have := List.mem_range.1 hr; omega)).2

end Go.Proofs.Ytdaekpfngphefaa

