/- A list of ciphertexts that comes into a law. -/
import Derived.Test.YtafoenoilcgjdaaTyI
import Derived.Deep.SlicePairs
namespace Go.Proofs.Ytafoenoilcgjdaa
open Go.RowKit Go.Deep

theorem flat_len (f : Nat → Int × Int) : ∀ n : Nat, ((List.range n).flatMap fun i => [(f i).1, (f i).2]).length = n * 2
  | 0 => rfl
  | n + 1 => by rw [List.range_succ, List.flatMap_append, List.length_append, flat_len f n]; simp; omega
theorem flat_get (f : Nat → Int × Int) : ∀ (len k : Nat), k < len → (((List.range len).flatMap fun i => [(f i).1, (f i).2])[k * 2]? = some (f k).1 ∧ ((List.range len).flatMap fun i => [(f i).1, (f i).2])[k * 2 + 1]? = some (f k).2)
  | 0, k, h => by omega
  | n + 1, k, h => by
    have hl := flat_len f n
    rw [List.range_succ, List.flatMap_append]
    by_cases hk : k < n
    · obtain ⟨h1, h2⟩ := flat_get f n k hk
      rw [List.getElem?_append_left (by omega), List.getElem?_append_left (by omega)]
      exact ⟨h1, h2⟩
    · obtain rfl : k = n := by omega
      rw [List.getElem?_append_right (by omega), List.getElem?_append_right (by omega), hl]
      simp

theorem inC_open {H : Type} {enc : TypeId × Value → H} {W : World} {held : Bool} {fuel len cap : Nat} {a : Option Addr} {x : DataW H × List MemPlace}
    (hf : DataW.trod enc Try.prog W 0 (fun _ => true) held fuel 50 (Value.cells (.slice a len cap)).toList = some x) :
    ∃ zs, InC W.heap.size W (.slice a len cap) zs ∧ zs.length ≤ 2 * maxLen := by
  rcases open_slice_pairs Try.underlying50 Try.underlying66 (by kernel_rfl) rfl rfl (by kernel_rfl) (by kernel_rfl) hf with ⟨hcs, _⟩ | ⟨x, l, c, m, n, V0, V1, D0, D1, P0, P1, hcs, _, hl, hm, hmm, _, hc⟩
  · simp [Value.cells] at hcs
    obtain ⟨rfl, rfl, rfl⟩ := hcs
    exact ⟨[], ⟨Nat.le_refl _, none, 0, 0, rfl, rfl, .inl rfl, fun _ => rfl⟩, by simp⟩
  · simp [Value.cells] at hcs
    obtain ⟨rfl, rfl, rfl⟩ := hcs
    simp only [if_true] at hmm
    subst hmm
    have each : ∀ i, i < m → ∃ y : Int × Int, W.cell? (x.add (i * 2)) = some (.int .i64 y.1) ∧ W.cell? (x.add (i * 2 + 1)) = some (.int .i64 y.2) := by
      intro i hi
      obtain ⟨h1, h2, h3, h4⟩ := hc i hi
      obtain ⟨n0, e0, _, _⟩ := DataW.trod_int Try.underlying3 h3
      obtain ⟨n1, e1, _, _⟩ := DataW.trod_int Try.underlying3 h4
      refine ⟨(n0, n1), ?_, ?_⟩
      · rw [h1, (List.cons.inj e0).1]
      · rw [h2, (List.cons.inj e1).1]
    obtain ⟨f, hf⟩ := choose_lt each
    have hlen := flat_len f len
    refine ⟨(List.range len).flatMap fun i => [(f i).1, (f i).2], ⟨Nat.le_refl _, some x, len, m, rfl, hlen, ?_, fun h => by cases h⟩, by rw [hlen]; omega⟩
    by_cases h0 : len = 0
    · subst h0; exact .inl (by simp)
    · obtain ⟨b, off, spot⟩ := x
      have h0' := (hf 0 (by omega)).1
      have hspot : spot = none := by simpa [Addr.add] using World.cell?_spot h0'
      subst hspot
      have hb : b < W.heap.size := by
        have := World.block_lt_of_cell? W _ h0'
        simpa [Addr.add] using this
      have e : ∀ i, (⟨b, off, none⟩ : Addr).add i = ⟨b, off + i, none⟩ := fun i => by
        unfold Addr.add; split
        · subst_vars; rfl
        · rfl
      refine .inr ⟨b, off, rfl, hb, hb, fun i hi => ?_⟩
      rw [hlen] at hi
      obtain ⟨g1, g2⟩ := flat_get f len (i / 2) (by omega)
      have hh := hf (i / 2) (by omega)
      rw [e, e] at hh
      rcases Nat.mod_two_eq_zero_or_one i with h | h
      · rw [show i / 2 * 2 = i by omega] at g1 hh
        rw [List.getD_eq_getElem?_getD, g1]
        exact hh.1
      · rw [show i / 2 * 2 + 1 = i by omega] at g2 hh
        rw [List.getD_eq_getElem?_getD, g2]
        exact hh.2

end Go.Proofs.Ytafoenoilcgjdaa

