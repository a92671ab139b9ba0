/- Polynomials with given roots: PolyFromRoots of both. -/
import Derived.Test.YtchlnkdlnfjijaaGreatPolF
import Derived.Deep.RegionLaw
namespace Go.Proofs.YtchlnkdlnfjijaaGreat
open Go.RowKit

/-- What is still to be multiplied with P. -/
def RootsAt (q : Int) (rs : List Int) (k : Nat) (P : List Int) : Prop := P.length = k + 1 ∧ (∀ z ∈ P, 0 ≤ z ∧ z < q) ∧ rootsFrom q P (rs.drop k) = pRoots q rs
theorem rootsAt_zero {q : Int} {rs : List Int} (hq : 1 < q) : RootsAt q rs 0 [1] := ⟨rfl, by intro z hz; simp at hz; omega, rfl⟩
theorem rootsAt_step {q r : Int} {rs rest P : List Int} {k : Nat} (hq : 0 < q) (h : RootsAt q rs k P) (hd : rs.drop k = r :: rest) : RootsAt q rs (k + 1) (pMul q P [(-r) % q, 1]) := by
  obtain ⟨h1, _, h3⟩ := h
  refine ⟨by rw [pMul_length]; simp; omega, pMul_res hq _ _, ?_⟩
  have e : rs.drop (k + 1) = rest := by rw [← List.drop_drop, hd]; rfl
  rw [e, ← h3, hd]; rfl
theorem rootsAt_end {q : Int} {rs P : List Int} {k : Nat} (h : RootsAt q rs k P) (hk : rs.length ≤ k) : P = pRoots q rs := by
  have := h.2.2
  rwa [List.drop_of_length_le hk] at this
theorem lin_res {q r : Int} (hq : 1 < q) : ∀ z ∈ [(-r) % q, 1], 0 ≤ z ∧ z < q := by
  intro z hz
  simp only [List.mem_cons, List.not_mem_nil, or_false] at hz
  rcases hz with rfl | rfl
  · exact ⟨Int.emod_nonneg _ (by omega), Int.emod_lt_of_pos _ (by omega)⟩
  · omega

theorem nMod_mod (a m : Int) (h0 : -m < a) (h1 : a < m) (h2 : 2 ≤ m) (h3 : m ≤ 2000000000) (w : World) :
    Calls Tryz.prog 98 #[.int .i64 a, .int .i64 m] w fun e w' => e = .returned (.int .i64 (a % m)) ∧ w = w' := by
  have e : (if a < 0 then a + m else a) = a % m := by
    split
    · rw [← Int.add_emod_right, Int.emod_eq_of_lt (by omega) (by omega)]
    · rw [Int.emod_eq_of_lt (by omega) (by omega)]
  have h := nMod_any a m h0 h1 h2 h3 w
  rwa [e] at h

def rootsB (q : Int) (rs : List Int) : Bool := fieldB q [rs] && decide (rs.length ≤ 23)
def rootsRes (q : Int) (rs : List Int) : List Int := if rootsB q rs then pRoots q rs else []
theorem rootsRes_le (q : Int) (rs : List Int) : (rootsRes q rs).length ≤ 24 := by
  unfold rootsRes
  split
  · rename_i h
    simp only [rootsB, Bool.and_eq_true, decide_eq_true_eq] at h
    rw [pRoots_length]; omega
  · simp

end Go.Proofs.YtchlnkdlnfjijaaGreat

/- A list without one element; lists whose elements are different. -/
namespace Go.Proofs.YtchlnkdlnfjijaaGreat
open Go.RowKit

def wo (l : List Int) (i : Nat) : List Int := l.take i ++ l.drop (i + 1)
theorem wo_length {l : List Int} {i : Nat} (h : i < l.length) : (wo l i).length = l.length - 1 := by simp [wo]; omega
theorem wo_mem {l : List Int} {i : Nat} {z : Int} (h : z ∈ wo l i) : z ∈ l := by
  rcases List.mem_append.1 h with h | h
  · exact List.mem_of_mem_take h
  · exact List.mem_of_mem_drop h
theorem IsInts.take {w : World} {ad : Option Addr} {zs : List Int} (h : IsInts w ad zs) (k : Nat) : IsInts w ad (zs.take k) := by
  rcases h with rfl | ⟨b, off, rfl, hb, hc⟩
  · exact .inl (by simp)
  · refine .inr ⟨b, off, rfl, hb, fun i hi => ?_⟩
    simp only [List.length_take] at hi
    rw [hc i (by omega)]
    simp [List.getD, show i < k by omega]
theorem IsInts.drop {w : World} {b off : Nat} {zs : List Int} (h : IsInts w (some ⟨b, off, none⟩) zs) (k : Nat) : IsInts w (some ⟨b, off + k, none⟩) (zs.drop k) := by
  rcases h with rfl | ⟨b', off', e, hb, hc⟩
  · exact .inl (by simp)
  · simp only [Option.some.injEq, Addr.mk.injEq, and_true] at e
    obtain ⟨rfl, rfl⟩ := e
    refine .inr ⟨b, off + k, rfl, hb, fun i hi => ?_⟩
    simp only [List.length_drop] at hi
    rw [Nat.add_assoc, hc (k + i) (by omega)]
    simp [List.getD, List.getElem?_drop]

end Go.Proofs.YtchlnkdlnfjijaaGreat

/- Lists whose elements are different: both tests. The factor of a list of roots: a closure. -/
namespace Go.Proofs.YtchlnkdlnfjijaaGreat
open Go.RowKit

theorem mem_take_step {zs rest : List Int} {z x : Int} {k : Nat} (h : zs.drop k = z :: rest) (hn : x ∉ zs.take k) (hz : x ≠ z) : x ∉ zs.take (k + 1) := by
  obtain ⟨hk, he⟩ := head_of_drop h
  rw [List.take_succ_eq_append_getElem hk, he]
  simp [hn, hz]
theorem nodup_step {zs rest : List Int} {z : Int} {k : Nat} (h : zs.drop k = z :: rest) (hn : (zs.take k).Nodup) (hz : z ∉ zs.take k) : (zs.take (k + 1)).Nodup := by
  obtain ⟨hk, he⟩ := head_of_drop h
  rw [List.take_succ_eq_append_getElem hk, he, List.nodup_append]
  refine ⟨hn, by simp, ?_⟩
  intro a ha b hb hab
  simp only [List.mem_singleton] at hb
  subst hb; subst hab
  exact hz ha
theorem not_nodup {zs rest : List Int} {z : Int} {k : Nat} (h : zs.drop k = z :: rest) (hz : z ∈ zs.take k) : ¬ zs.Nodup := by
  intro hn
  rw [← List.take_append_drop k zs, h, List.nodup_append] at hn
  exact hn.2.2 z hz z (by simp) rfl

def IdxPost (zs : List Int) (x : Int) (w : World) (e : Ending) (w' : World) : Prop := ∃ r : Int, e = .returned (.int .i64 r) ∧ -1 ≤ r ∧ r ≤ 1152921504606846976 ∧ (0 ≤ r ↔ x ∈ zs) ∧ w = w'

def ptsB (q : Int) (xs : List Int) : Bool := decide (xs.length ≠ 0) && fieldB q [xs] && decide xs.Nodup

end Go.Proofs.YtchlnkdlnfjijaaGreat

/- Lagrange coefficients of the program. -/
namespace Go.Proofs.YtchlnkdlnfjijaaGreat
open Go.RowKit

theorem quietlyP {P : Program} {f : FuncId} {args : Array Value} {w : World} {n : Nat} {v : Value}
    (h : Calls P f args (w.drewN n) fun e w' => e = .returned v ∧ w.drewN n = w') : Calls P f args (w.drewN n) fun e w'' => e = .returned v ∧ ∃ m, w'' = w.drewN m :=
  h.mono fun _ _ ⟨he, hm⟩ => ⟨he, n, hm.symm⟩

theorem facFrom_step {q x acc t r : Int} {rs rest : List Int} {k : Nat} (h : rs.drop k = r :: rest) (hb : t = facFrom q x acc (rs.drop k)) : t = facFrom q x (acc * ((x - r) % q) % q) rest := by
  rw [hb, h]; rfl

/-- The coefficients. -/
def coefAt (q x : Int) (xs : List Int) (i : Nat) : Int := fac q x (wo xs i) * Num.inv (fac q (xs[i]?.getD 0) (wo xs i)) q % q
def lagr (q x : Int) (xs : List Int) : List Int := (List.range xs.length).map (coefAt q x xs)
theorem lagr_length (q x : Int) (xs : List Int) : (lagr q x xs).length = xs.length := by simp [lagr]
theorem lagr_get {q x : Int} {xs : List Int} {i : Nat} (h : i < (lagr q x xs).length) : (lagr q x xs)[i] = coefAt q x xs i := by simp [lagr]
theorem not_mem_wo {xs rest : List Int} {z : Int} {k : Nat} (h : xs.drop k = z :: rest) (hn : xs.Nodup) : z ∉ wo xs k := by
  have e : xs.drop (k + 1) = rest := by rw [← List.drop_drop, h]; rfl
  rw [← List.take_append_drop k xs, h, List.nodup_append] at hn
  obtain ⟨_, h2, h3⟩ := hn
  unfold wo
  rw [List.mem_append, e]
  rintro (h' | h')
  · exact h3 z h' z (by simp) rfl
  · exact (List.nodup_cons.1 h2).1 h'
theorem at_of_drop {xs rest : List Int} {z : Int} {k : Nat} (h : xs.drop k = z :: rest) : xs[k]?.getD 0 = z := by
  obtain ⟨hk, he⟩ := head_of_drop h
  simp [hk, he]
theorem fac_inv {q z : Int} {xs rest : List Int} {k : Nat} (hq : isPr q = true) (hr : ∀ z ∈ xs, 0 ≤ z ∧ z < q) (hn : xs.Nodup) (hd : xs.drop k = z :: rest) : 0 < fac q z (wo xs k) ∧ Num.invOk (fac q z (wo xs k)) q = true := by
  obtain ⟨h2, h3, _⟩ := isPr_num hq
  have hz := hr z (mem_drop hd)
  have h0 := fac_ne hq hz.1 hz.2 (wo xs k) 1 (fun r h => hr r (wo_mem h)) (not_mem_wo hd hn) (by omega) (by omega)
  exact ⟨h0, invOk_pr hq h0 (fac_range (by omega) _).2⟩

def lagB (q x : Int) (xs : List Int) : Bool := ptsB q xs && resB x q
def lagRes (q x : Int) (xs : List Int) : List Int := if lagB q x xs then lagr q x xs else []
theorem pts_of {q : Int} {xs : List Int} (h : ptsB q xs = true) : isPr q = true ∧ shortB xs q = true ∧ xs.Nodup ∧ xs.length ≠ 0 := by
  simp only [ptsB, Bool.and_eq_true, decide_eq_true_eq] at h
  obtain ⟨⟨h1, h2⟩, h3⟩ := h
  exact ⟨(field_one h2).1, (field_one h2).2, h3, h1⟩
theorem lagRes_le (q x : Int) (xs : List Int) : (lagRes q x xs).length ≤ 24 := by
  unfold lagRes
  split
  · rename_i h
    simp only [lagB, Bool.and_eq_true] at h
    rw [lagr_length]
    exact (shortB_of (pts_of h.1).2.1).2.2.1
  · simp

end Go.Proofs.YtchlnkdlnfjijaaGreat

/- Lagrange coefficients of the reference; ValueFrom of both. -/
namespace Go.Proofs.YtchlnkdlnfjijaaGreat
open Go.RowKit

/-- What is left of a list without its i-th element from the j-th on. -/
def remW (xs : List Int) (i j : Nat) : List Int := if j ≤ i then wo (xs.drop j) (i - j) else xs.drop j
theorem remW_zero (xs : List Int) (i : Nat) : remW xs i 0 = wo xs i := by simp [remW]
theorem remW_step {xs : List Int} {z : Int} {i j : Nat} (h : xs.drop j = z :: xs.drop (j + 1)) (hne : j ≠ i) : remW xs i j = z :: remW xs i (j + 1) := by
  unfold remW
  rcases Nat.lt_or_gt_of_ne hne with hlt | hgt
  · rw [if_pos (by omega), if_pos (by omega), h]
    obtain ⟨s, hs⟩ : ∃ s, i - j = s + 1 := ⟨i - j - 1, by omega⟩
    rw [hs, show i - (j + 1) = s by omega]
    simp [wo]
  · rw [if_neg (by omega), if_neg (by omega), h]
theorem remW_skip {xs : List Int} {z : Int} {i : Nat} (h : xs.drop i = z :: xs.drop (i + 1)) : remW xs i i = remW xs i (i + 1) := by
  unfold remW
  rw [if_pos (Nat.le_refl _), if_neg (by omega), Nat.sub_self, h]
  simp [wo]
theorem remW_end {xs : List Int} {i j : Nat} (hi : i < xs.length) (hj : xs.length ≤ j) : remW xs i j = [] := by
  unfold remW
  rw [if_neg (by omega), List.drop_of_length_le hj]
theorem lagr_take {q x : Int} {xs : List Int} {k : Nat} (h : k < xs.length) : (lagr q x xs).take (k + 1) = (lagr q x xs).take k ++ [coefAt q x xs k] := by
  rw [List.take_succ_eq_append_getElem (by rw [lagr_length]; exact h), lagr_get]

end Go.Proofs.YtchlnkdlnfjijaaGreat

/- LagrangeCoefs of the reference; tables; ValueFrom of both. -/
namespace Go.Proofs.YtchlnkdlnfjijaaGreat
open Go.RowKit

theorem resB_in {x q : Int} (h2 : 2 ≤ q) (h3 : q ≤ 2000000000) : resB x q = inB x 0 (q - 1) := by
  cases h : inB x 0 (q - 1)
  · rw [resB_false]
    rcases inB_false.1 h with h | h
    · exact .inr (.inl h)
    · exact .inr (.inr (by omega))
  · obtain ⟨a, b⟩ := inB_true.1 h
    exact resB_true.2 ⟨h2, h3, a, by omega⟩

end Go.Proofs.YtchlnkdlnfjijaaGreat

