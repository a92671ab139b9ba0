/- ElGamal: the contracts on lists of ciphertexts as a law holds them. -/
import Derived.Test.YtafoenoilcgjdaaElM
import Derived.Test.YtafoenoilcgjdaaOpC
namespace Go.Proofs.Ytafoenoilcgjdaa
open Go.RowKit


theorem GR.mid {w w' : World} {b A B : Nat} {P Q G : Int} (h : GR w b P Q G) (hm : Mid A B w w') (hb : b < A) : GR w' b P Q G := by
  have hl := h.lt
  have he := hm.block b hl (.inl hb)
  obtain ⟨c0, c1, c2⟩ := h
  refine ⟨?_, ?_, ?_⟩
  · rw [World.cell?_of_block (a := ⟨b, 0, none⟩) he]; exact c0
  · rw [World.cell?_of_block (a := ⟨b, 1, none⟩) he]; exact c1
  · rw [World.cell?_of_block (a := ⟨b, 2, none⟩) he]; exact c2

theorem sMulCiphers_in (P Q G : Int) {B : Nat} {w : World} {v : Value} {zs : List Int} (h : InC B w v zs) (hl : zs.length ≤ 4000000) :
    Calls Try.prog 40 #[gv P Q G, v] w fun e w' => e = .returned (.tuple #[cv (mcA P Q G zs) (mcM P Q G zs), .bool (mcB P Q G zs)]) ∧ Below w.heap.size w w' := by
  obtain ⟨_, ad, n, cap, rfl, hn, h1, _⟩ := h
  exact sMulCiphers_any P Q G ad n cap zs hn (by omega) w h1.ints
theorem sCipherSum_in (P Q G : Int) {B : Nat} {w : World} {v : Value} {zs : List Int} (h : InC B w v zs) (hl : zs.length ≤ 4000000) :
    Calls Try.prog 48 #[gv P Q G, v] w fun e w' => e = .returned (.tuple #[cv (suA P Q G zs) (suM P Q G zs), .bool (suB P Q G zs)]) ∧ Below w.heap.size w w' := by
  obtain ⟨_, ad, n, cap, rfl, hn, h1, _⟩ := h
  exact sCipherSum_any P Q G ad n cap zs hn (by omega) w h1.ints
theorem sWeightedProduct_in (P Q G : Int) {B B2 : Nat} {w : World} {v v2 : Value} {zs es : List Int} (h : InC B w v zs) (h2 : InI B2 w v2 es) (hl : zs.length ≤ 4000000) (hl2 : es.length ≤ 2000000) :
    Calls Try.prog 46 #[gv P Q G, v, v2] w fun e w' => e = .returned (.tuple #[cv (wpA P Q G zs es) (wpM P Q G zs es), .bool (wpB P Q G zs es)]) ∧ Below w.heap.size w w' := by
  obtain ⟨_, ad, n, cap, rfl, hn, h1, _⟩ := h
  obtain ⟨_, ad2, cap2, rfl, h3, _⟩ := h2
  exact sWeightedProduct_any P Q G ad ad2 n es.length cap cap2 zs es hn rfl (by omega) (by omega) w h1.ints h3.ints
theorem sReencryptAll_in (P Q G key : Int) {B B2 : Nat} {w : World} {v v2 : Value} {zs es : List Int} (h : InC B w v zs) (h2 : InI B2 w v2 es) (hl : zs.length ≤ 4000000) (hl2 : es.length ≤ 2000000) :
    Calls Try.prog 33 #[gv P Q G, .int .i64 key, v, v2] w (AnsE w (raV P Q G key zs es) (raB P Q G key zs es)) := by
  obtain ⟨_, ad, n, cap, rfl, hn, h1, _⟩ := h
  obtain ⟨_, ad2, cap2, rfl, h3, _⟩ := h2
  exact sReencryptAll_any P Q G key ad ad2 n es.length cap cap2 zs es hn rfl (by omega) (by omega) w h1.ints h3.ints
theorem iMulCiphers_in (P Q G : Int) {B : Nat} {w : World} {v : Value} {zs : List Int} (h : InC B w v zs) (hl : zs.length ≤ 4000000) :
    Calls Try.prog 41 #[gv P Q G, v] w fun e w' => e = .returned (.tuple #[cv (mcA P Q G zs) (mcM P Q G zs), .bool (mcB P Q G zs)]) ∧ Below w.heap.size w w' := by
  obtain ⟨_, ad, n, cap, rfl, hn, h1, _⟩ := h
  exact mulCiphers_any P Q G ad n cap zs hn (by omega) w h1.ints
theorem iCipherSum_in (P Q G : Int) {B : Nat} {w : World} {v : Value} {zs : List Int} (h : InC B w v zs) (hl : zs.length ≤ 4000000) :
    Calls Try.prog 49 #[gv P Q G, v] w fun e w' => e = .returned (.tuple #[cv (suA P Q G zs) (suM P Q G zs), .bool (suB P Q G zs)]) ∧ Below w.heap.size w w' := by
  obtain ⟨_, ad, n, cap, rfl, hn, h1, _⟩ := h
  exact cipherSum_any P Q G ad n cap zs hn (by omega) w h1.ints
theorem iWeightedProduct_in (P Q G : Int) {B B2 : Nat} {w : World} {v v2 : Value} {zs es : List Int} (h : InC B w v zs) (h2 : InI B2 w v2 es) (hl : zs.length ≤ 4000000) (hl2 : es.length ≤ 2000000) :
    Calls Try.prog 47 #[gv P Q G, v, v2] w fun e w' => e = .returned (.tuple #[cv (wpA P Q G zs es) (wpM P Q G zs es), .bool (wpB P Q G zs es)]) ∧ Below w.heap.size w w' := by
  obtain ⟨_, ad, n, cap, rfl, hn, h1, _⟩ := h
  obtain ⟨_, ad2, cap2, rfl, h3, _⟩ := h2
  exact weightedProduct_any P Q G ad ad2 n es.length cap cap2 zs es hn rfl (by omega) (by omega) w h1.ints h3.ints
theorem iReencryptAll_in (P Q G key : Int) {B B2 : Nat} {w : World} {v v2 : Value} {zs es : List Int} (h : InC B w v zs) (h2 : InI B2 w v2 es) (hl : zs.length ≤ 4000000) (hl2 : es.length ≤ 2000000) :
    Calls Try.prog 35 #[gv P Q G, .int .i64 key, v, v2] w (AnsE w (raV P Q G key zs es) (raB P Q G key zs es)) := by
  obtain ⟨_, ad, n, cap, rfl, hn, h1, _⟩ := h
  obtain ⟨_, ad2, cap2, rfl, h3, _⟩ := h2
  exact reencryptAll_any P Q G key ad ad2 n es.length cap cap2 zs es hn rfl (by omega) (by omega) w h1.ints h3.ints

theorem raV_length (P Q G key : Int) (zs es : List Int) : (raV P Q G key zs es).length ≤ 48 := by
  unfold raV
  split
  · rename_i h
    rw [ra_iff] at h
    simp only [Bool.and_eq_true, decide_eq_true_eq] at h
    rw [flatRe_length P G key es zs h.1.2]
    exact (cs_rng h.1.1.2).1
  · simp


end Go.Proofs.Ytafoenoilcgjdaa

