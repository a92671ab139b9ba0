/- Slices of pairs that a law compares and marks. -/
import Derived.Test.YtdeedblemcfllaaFac
import Derived.Deep.RegionHeld3
namespace Go.Proofs.Ytdeedblemcfllaa
open Go.RowKit

/-- The k-th pair of a flat list. -/
theorem IsInts.pair {w : World} {ad : Option Addr} {zs : List Int} (h : IsInts w ad zs) {k n : Nat} (hk : k < n) (hn : zs.length = n * 2) :
    ∃ b off p q, ad = some ⟨b, off, none⟩ ∧ b < w.heap.size ∧ w.cell? ⟨b, off + k * 2, none⟩ = some (.int .i64 p) ∧ w.cell? ⟨b, off + k * 2 + 1, none⟩ = some (.int .i64 q) ∧ zs.drop (k * 2) = p :: q :: zs.drop ((k + 1) * 2) := by
  obtain ⟨b, off, p, rfl, hb, hp, hd⟩ := h.at (k := k * 2) (by omega)
  obtain ⟨b', off', q, hq', _, hq, hd'⟩ := h.at (k := k * 2 + 1) (by omega)
  simp only [Option.some.injEq, Addr.mk.injEq, and_true] at hq'
  obtain ⟨rfl, rfl⟩ := hq'
  exact ⟨b, off, p, q, rfl, hb, hp, hq, by rw [hd, hd', show k * 2 + 1 + 1 = (k + 1) * 2 by omega]⟩

theorem ints_of_own2 {w : World} {base n cap : Nat} {ad : Option Addr} {zs : List Int} {e : TypeId} (h : w.ownsRow base e 2 (.slice ad n cap) n (zs.map (Value.int .i64))) :
    IsInts w ad zs ∧ zs.length = n * 2 ∧ ∀ a, ad = some a → base ≤ a.block ∧ a.block < w.heap.size := by
  have hn : zs.length = n * 2 := by have := h.1; simpa using this
  rcases h.2 with ⟨h1, h2⟩ | ⟨g, cap', cur, h1, _⟩
  · simp only [Value.slice.injEq] at h1
    obtain ⟨rfl, _, _⟩ := h1
    subst h2
    exact ⟨.inl (List.length_eq_zero_iff.1 hn), hn, by simp⟩
  · simp only [Value.slice.injEq] at h1
    obtain ⟨rfl, _, _⟩ := h1
    have hl := World.ownsRow.lt h g rfl
    refine ⟨.inr ⟨g, 0, rfl, hl.2, fun i hi => ?_⟩, hn, by rintro a ⟨⟩; exact hl⟩
    rw [World.ownsRow.cellAt h (0 + i) (by omega)]
    simp [hi]

theorem ints_of_pairs {w : World} {base n cap : Nat} {ad : Option Addr} {zs : List Int} (h : PairsOwn w base (.slice ad n cap) n zs) :
    IsInts w ad zs ∧ zs.length = n * 2 ∧ ∀ a, ad = some a → base ≤ a.block ∧ a.block < w.heap.size := ints_of_own2 h

theorem keep2 {w : World} {b off : Nat} {v : Value} (hb : b < w.heap.size) (h : w.cell? ⟨b, off, none⟩ = some v) (o1 o2 : Array Value) (t : TypeId) :
    ((w.alloc (.cells o1 t)).alloc (.cells o2 t)).drew.cell? ⟨b, off, none⟩ = some v := by
  have hB := ((((Below.refl w.heap.size w).alloc (Nat.le_refl _) (.cells o1 t)).alloc (by simp) (.cells o2 t)).drew).cell (p := ⟨b, off, none⟩) hb
  rw [hB, h]

theorem pairs_cell {wr : World} {B g n cap j : Nat} {zs : List Int} (hown : PairsOwn wr B (.slice (some ⟨g, 0, none⟩) n cap) n zs) (hj : j < n * 2) :
    (∃ u : Int, wr.cell? ⟨g, j, none⟩ = some (.int .i64 u)) ∧ wr.frozen? ⟨g, j, none⟩ = false := by
  refine ⟨⟨zs.getD j 0, ?_⟩, World.ownsRow.frozenAt hown j⟩
  rw [World.ownsRow.cellAt hown j hj]
  have hl : zs.length = n * 2 := by have := hown.1; simpa using this
  have hk' : j < zs.length := by omega
  simp [hk']

def PMarkPost (w : World) (base : Nat) (ad : Option Addr) (n cap : Nat) (k : Int) (e : Ending) (w' : World) : Prop :=
  e = .returned (.int .i64 (k + (n * 2 : Nat))) ∧ PairsOwn w' base (.slice ad n cap) n (marks k (n * 2)) ∧ w.grownBy w' (Value.slice ad n cap).ownBlock

theorem pmark_one {wr : World} {B g n cap j : Nat} {zs : List Int} {k : Int} (hown : PairsOwn wr B (.slice (some ⟨g, 0, none⟩) n cap) n (over (marks k (n * 2)) zs j)) (hj : j < n * 2) (hz : zs.length = n * 2) :
    PairsOwn (wr.setCell ⟨g, j, none⟩ (.int .i64 (k + j))) B (.slice (some ⟨g, 0, none⟩) n cap) n (over (marks k (n * 2)) zs (j + 1)) ∧ wr.grownBy (wr.setCell ⟨g, j, none⟩ (.int .i64 (k + j))) (some g) := by
  have := World.ownsRow.stored hown j (.int .i64 (k + j))
  rw [← List.map_set] at this
  have e := over_step (xs := marks k (n * 2)) (ys := zs) (j := j) (by rw [marks_length]; omega) (by omega)
  rw [marks_get] at e
  rwa [e] at this

theorem pmark_round {wr : World} {B g n cap j : Nat} {zs : List Int} {k : Int} (hown : PairsOwn wr B (.slice (some ⟨g, 0, none⟩) n cap) n (over (marks k (n * 2)) zs (j * 2))) (hj : j < n) (hz : zs.length = n * 2) :
    PairsOwn ((wr.setCell ⟨g, j * 2, none⟩ (.int .i64 (k + (j : Int) * 2))).setCell ⟨g, j * 2 + 1, none⟩ (.int .i64 (k + (j : Int) * 2 + 1))) B (.slice (some ⟨g, 0, none⟩) n cap) n (over (marks k (n * 2)) zs ((j + 1) * 2)) ∧
    wr.grownBy ((wr.setCell ⟨g, j * 2, none⟩ (.int .i64 (k + (j : Int) * 2))).setCell ⟨g, j * 2 + 1, none⟩ (.int .i64 (k + (j : Int) * 2 + 1))) (some g) ∧
    (∃ u : Int, (wr.setCell ⟨g, j * 2, none⟩ (.int .i64 (k + (j : Int) * 2))).cell? ⟨g, j * 2 + 1, none⟩ = some (.int .i64 u)) ∧ (wr.setCell ⟨g, j * 2, none⟩ (.int .i64 (k + (j : Int) * 2))).frozen? ⟨g, j * 2 + 1, none⟩ = false := by
  obtain ⟨o1, g1⟩ := pmark_one hown (by omega) hz
  obtain ⟨o2, g2⟩ := pmark_one (j := j * 2 + 1) o1 (by omega) hz
  obtain ⟨c1, c2⟩ := pairs_cell (j := j * 2 + 1) o1 (by omega)
  rw [show (((j * 2 : Nat)) : Int) = (j : Int) * 2 by simp] at *
  rw [show k + ((j * 2 + 1 : Nat) : Int) = k + (j : Int) * 2 + 1 by omega, show j * 2 + 1 + 1 = (j + 1) * 2 by omega] at *
  exact ⟨o2, grown_trans g1 g2, c1, c2⟩

end Go.Proofs.Ytdeedblemcfllaa

