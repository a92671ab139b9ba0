/- Slices of pairs that a law compares and marks. -/
import Derived.Test.YtkpfmpndaenclaaFac
import Derived.Deep.RegionHeld3
namespace Go.Proofs.Ytkpfmpndaenclaa
open Go.RowKit

/-- The k-th pair of a flat list. -/
theorem IsInts.pair {w : World} {ad : Option Addr} {zs : List Int} (h : IsInts w ad zs) {k n : Nat} (hk : k < n) (hn : zs.length = n * 2) :
    ∃ b off p q, ad = some ⟨b, off, none⟩ ∧ b < w.heap.size ∧ w.cell? ⟨b, off + k * 2, none⟩ = some (.int .i64 p) ∧ w.cell? ⟨b, off + k * 2 + 1, none⟩ = some (.int .i64 q) ∧ zs.drop (k * 2) = p :: q :: zs.drop ((k + 1) * 2) := by
  obtain ⟨b, off, p, rfl, hb, hp, hd⟩ := h.at (k := k * 2) (by omega)
  obtain ⟨b', off', q, hq', _, hq, hd'⟩ := h.at (k := k * 2 + 1) (by omega)
  simp only [Option.some.injEq, Addr.mk.injEq, and_true] at hq'
  obtain ⟨rfl, rfl⟩ := hq'
  exact ⟨b, off, p, q, rfl, hb, hp, hq, by rw [hd, hd', show k * 2 + 1 + 1 = (k + 1) * 2 by omega]⟩

theorem ints_of_own2 {w : World} {base n cap : Nat} {ad : Option Addr} {zs : List Int} {e : TypeId} (h : w.ownsRow base e 2 (.slice ad n cap) n (zs.map (Value.int .i64))) :
    IsInts w ad zs ∧ zs.length = n * 2 ∧ ∀ a, ad = some a → base ≤ a.block ∧ a.block < w.heap.size := by
  have hn : zs.length = n * 2 := by have := h.1; simpa using this
  rcases h.2 with ⟨h1, h2⟩ | ⟨g, cap', cur, h1, _⟩
  · simp only [Value.slice.injEq] at h1
    obtain ⟨rfl, _, _⟩ := h1
    subst h2
    exact ⟨.inl (List.length_eq_zero_iff.1 hn), hn, by simp⟩
  · simp only [Value.slice.injEq] at h1
    obtain ⟨rfl, _, _⟩ := h1
    have hl := World.ownsRow.lt h g rfl
    refine ⟨.inr ⟨g, 0, rfl, hl.2, fun i hi => ?_⟩, hn, by rintro a ⟨⟩; exact hl⟩
    rw [World.ownsRow.cellAt h (0 + i) (by omega)]
    simp [hi]

theorem keep2 {w : World} {b off : Nat} {v : Value} (hb : b < w.heap.size) (h : w.cell? ⟨b, off, none⟩ = some v) (o1 o2 : Array Value) (t : TypeId) :
    ((w.alloc (.cells o1 t)).alloc (.cells o2 t)).drew.cell? ⟨b, off, none⟩ = some v := by
  have hB := ((((Below.refl w.heap.size w).alloc (Nat.le_refl _) (.cells o1 t)).alloc (by simp) (.cells o2 t)).drew).cell (p := ⟨b, off, none⟩) hb
  rw [hB, h]

end Go.Proofs.Ytkpfmpndaenclaa

