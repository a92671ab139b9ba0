/- Tables; ValueFrom of both. -/
import Derived.Test.YtchlnkdlnfjijaaGreatPolH
namespace Go.Proofs.YtchlnkdlnfjijaaGreat
open Go.RowKit

/-- Points with as many values. -/
def tabB (q : Int) (xs ys : List Int) : Bool := decide (xs.length = ys.length) && ptsB q xs && fieldB q [ys]
theorem tabB_eq (q : Int) (xs ys : List Int) : tabB q xs ys = (fieldB q [xs, ys] && decide xs.Nodup && decide (0 < xs.length) && decide (xs.length = ys.length)) := by
  unfold tabB ptsB fieldB
  simp only [List.all_cons, List.all_nil, Bool.and_true]
  have e : decide (xs.length ≠ 0) = decide (0 < xs.length) := decide_eq_decide.2 Nat.pos_iff_ne_zero.symm
  rw [e]
  cases decide (xs.length = ys.length) <;> cases decide (0 < xs.length) <;> cases isPr q <;> cases shortB xs q <;> cases shortB ys q <;> cases decide xs.Nodup <;> rfl
theorem tab_of {q : Int} {xs ys : List Int} (h : tabB q xs ys = true) : xs.length = ys.length ∧ isPr q = true ∧ shortB xs q = true ∧ xs.Nodup ∧ xs.length ≠ 0 ∧ shortB ys q = true := by
  simp only [tabB, Bool.and_eq_true, decide_eq_true_eq] at h
  obtain ⟨⟨h1, h2⟩, h3⟩ := h
  obtain ⟨a, b, c, d⟩ := pts_of h2
  exact ⟨h1, a, b, c, d, (field_one h3).2⟩

def valB (q x : Int) (xs ys : List Int) : Bool := tabB q xs ys && resB x q
def valRes (q x : Int) (xs ys : List Int) : Int := if valB q x xs ys then dotFrom q 0 (lagr q x xs) ys else 0
theorem lagr_res {q x : Int} (hq : 0 < q) (xs : List Int) : ∀ z ∈ lagr q x xs, 0 ≤ z ∧ z < q := by
  intro z hz
  obtain ⟨i, _, rfl⟩ := List.mem_map.1 hz
  exact ⟨Int.emod_nonneg _ (by omega), Int.emod_lt_of_pos _ hq⟩
theorem val_no {q x : Int} {xs ys : List Int} (h : lagB q x xs = false) : valB q x xs ys = false := by
  unfold lagB at h
  unfold valB tabB
  cases hp : ptsB q xs
  · simp
  · rw [hp, Bool.true_and] at h; rw [h]; simp
theorem val_dot {q x : Int} {xs ys : List Int} (h : lagB q x xs = true) : dotB (lagr q x xs) ys q = valB q x xs ys := by
  simp only [lagB, Bool.and_eq_true] at h
  obtain ⟨hp, hr⟩ := h
  obtain ⟨hpr, hs, hnd, h0⟩ := pts_of hp
  obtain ⟨h2, h3, hl, _⟩ := shortB_of hs
  unfold dotB valB tabB fieldB
  rw [hp, hr, hpr, lagr_length, listB_of h2 h3 (by rw [lagr_length]; omega) (lagr_res (by omega) xs)]
  simp only [List.all_cons, List.all_nil, Bool.and_true, Bool.true_and]
  by_cases hn : xs.length = ys.length
  · rw [short_list (by omega)]
  · rw [decide_eq_false hn]; rfl
theorem val_res {q x : Int} {xs ys : List Int} (h : lagB q x xs = true) : dotMod (lagr q x xs) ys q = valRes q x xs ys := by
  unfold dotMod valRes; rw [val_dot h]

end Go.Proofs.YtchlnkdlnfjijaaGreat

/- Values by the reference; Interpolate of the program. -/
namespace Go.Proofs.YtchlnkdlnfjijaaGreat
open Go.RowKit

theorem pev_step {q x c : Int} {f rest : List Int} {k : Nat} (h : f.drop k = c :: rest) : pev q x (f.drop k) = (pev q x (f.drop (k + 1)) * x + c) % q := by
  have e : f.drop (k + 1) = rest := by rw [← List.drop_drop, h]; rfl
  rw [h, e, pev]

set_option maxHeartbeats 1600000 in
theorem yEval_any (q : Int) (ad : Option Addr) (n cap : Nat) (f : List Int) (x : Int) (hn : f.length = n) (hl : n ≤ 17592186044416) (h2 : 2 ≤ q) (h3 : q ≤ 2000000000) (hx0 : 0 ≤ x) (hx1 : x < q) (hr : ∀ z ∈ f, 0 ≤ z ∧ z < q) (w : World) (hz : IsInts w ad f) :
    Calls Tryz.prog 37 #[.int .i64 q, .slice ad n cap, .int .i64 x] w fun e w' => e = .returned (.int .i64 (pev q x f)) ∧ w = w' := by
  have HN := Lib.hid hn
  have HR := Lib.hid hr
  clear hn hr
  go_enter Tryz.func37, Tryz.ntmps37
  go_wp2_with fail
  go_loop [7, 8] (fun A K => ∃ (i a : Int), (-1 ≤ i ∧ i < n) ∧ (0 ≤ a ∧ a < q) ∧ A = .int .i64 a ∧ K = .int .i64 i ∧ a = pev q x (f.drop (i + 1).toNat)) (fun _ K => (intOf K + 1).toNat)
  case atStart => exact ⟨(n : Int) - 1, 0, ⟨by omega, by omega⟩, ⟨by omega, by omega⟩, rfl, rfl, by rw [List.drop_of_length_le (by have := HN.out; omega)]; rfl⟩
  case round =>
    obtain ⟨i, a, ⟨hi0, hi1⟩, ⟨ha0, ha1⟩, rfl, rfl, he⟩ := hrel
    by_cases hi : 0 ≤ i
    · obtain ⟨k, rfl⟩ := Int.eq_ofNat_of_zero_le hi
      obtain ⟨b, off, c, rfl, hb, hc, hd⟩ := hz.at (k := k) (by have := HN.out; omega)
      obtain ⟨hc0, hc1⟩ := HR.out c (mem_drop hd)
      obtain ⟨m0, m1⟩ := mul_res h3 ha0 ha1 hx0 hx1
      have hE : (a * x + c) % q = pev q x (f.drop k) := by
        rw [pev_step hd, he]; rfl
      have HE := Lib.hid hE
      have hp0 : 0 ≤ (a * x + c) % q := Int.emod_nonneg _ (by omega)
      have hp1 : (a * x + c) % q < q := Int.emod_lt_of_pos _ (by omega)
      clear he hd hE
      go_wp2_with fail
      go_round
      case rel => exact ⟨(k : Int) - 1, _, ⟨by omega, by omega⟩, ⟨hp0, hp1⟩, rfl, rfl, by rw [HE.out]; congr 2; omega⟩
      case measure => simp only [intOf]; omega
    · have HE := Lib.hid he
      have hi' : i < 0 := by omega
      clear he
      go_wp2
      go_ret
      refine ⟨?_, rfl⟩
      rw [HE.out, show (i + 1).toNat = 0 by omega]; rfl

/-! ### Interpolation -/
/-- What one value adds. -/
def itpC (q : Int) (xs : List Int) (i : Nat) (y : Int) : Int := y * Num.inv (fac q (xs[i]?.getD 0) (wo xs i)) q % q
def itpFrom (q : Int) (xs : List Int) : Nat → List Int → List Int → List Int
  | _, [], P => P
  | i, y :: ys, P => itpFrom q xs (i + 1) ys (axpy q P (itpC q xs i y) (pRoots q (wo xs i)))
def itp (q : Int) (xs ys : List Int) : List Int := itpFrom q xs 0 ys (List.replicate xs.length 0)
theorem itpFrom_length (q : Int) (xs : List Int) : ∀ (ys : List Int) (i : Nat) (P : List Int), (itpFrom q xs i ys P).length = P.length
  | [], _, _ => rfl
  | y :: ys, i, P => by rw [itpFrom, itpFrom_length q xs ys, axpy_length]
theorem itp_length (q : Int) (xs ys : List Int) : (itp q xs ys).length = xs.length := by simp [itp, itpFrom_length]
theorem itpFrom_res {q : Int} (hq : 0 < q) (xs : List Int) : ∀ (ys : List Int) (i : Nat) (P : List Int), (∀ z ∈ P, 0 ≤ z ∧ z < q) → ∀ z ∈ itpFrom q xs i ys P, 0 ≤ z ∧ z < q
  | [], _, _, h => h
  | y :: ys, i, P, h => by rw [itpFrom]; exact itpFrom_res hq xs ys (i + 1) _ (axpy_res hq _ _ h)
theorem itp_res {q : Int} (hq : 0 < q) (xs ys : List Int) : ∀ z ∈ itp q xs ys, 0 ≤ z ∧ z < q := itpFrom_res hq xs ys 0 _ (zeros_res hq _)
def ItpAt (q : Int) (xs ys : List Int) (n k : Nat) (P : List Int) : Prop := P.length = n ∧ (∀ z ∈ P, 0 ≤ z ∧ z < q) ∧ itpFrom q xs k (ys.drop k) P = itp q xs ys
theorem itpAt_zero {q : Int} {xs ys : List Int} {n : Nat} (hq : 0 < q) (hn : xs.length = n) : ItpAt q xs ys n 0 (List.replicate n 0) := by
  subst hn
  exact ⟨by simp, zeros_res hq _, rfl⟩
theorem itpAt_step {q y : Int} {xs ys rest P : List Int} {n k : Nat} (hq : 0 < q) (h : ItpAt q xs ys n k P) (hd : ys.drop k = y :: rest) : ItpAt q xs ys n (k + 1) (axpy q P (itpC q xs k y) (pRoots q (wo xs k))) := by
  obtain ⟨h1, h2, h3⟩ := h
  refine ⟨by rw [axpy_length]; exact h1, axpy_res hq _ _ h2, ?_⟩
  have e : ys.drop (k + 1) = rest := by rw [← List.drop_drop, hd]; rfl
  rw [e, ← h3, hd]; rfl
theorem itpAt_end {q : Int} {xs ys P : List Int} {n k : Nat} (h : ItpAt q xs ys n k P) (hk : ys.length ≤ k) : P = itp q xs ys := by
  have := h.2.2
  rwa [List.drop_of_length_le hk, itpFrom] at this
def itpRes (q : Int) (xs ys : List Int) : List Int := if tabB q xs ys then itp q xs ys else []
theorem itpRes_le (q : Int) (xs ys : List Int) : (itpRes q xs ys).length ≤ 24 := by
  unfold itpRes
  split
  · rename_i h
    rw [itp_length]
    exact (shortB_of (tab_of h).2.2.1).2.2.1
  · simp
theorem itpC_range {q : Int} (hq : 0 < q) (xs : List Int) (i : Nat) (y : Int) : 0 ≤ itpC q xs i y ∧ itpC q xs i y < q := ⟨Int.emod_nonneg _ (by omega), Int.emod_lt_of_pos _ hq⟩

end Go.Proofs.YtchlnkdlnfjijaaGreat

/- Interpolate of the reference. -/
namespace Go.Proofs.YtchlnkdlnfjijaaGreat
open Go.RowKit

theorem pRoots_fac {q x : Int} (hq : 1 < q) (rs : List Int) : pev q x (pRoots q rs) = fac q x rs := pRoots_pev hq rs

end Go.Proofs.YtchlnkdlnfjijaaGreat

/- Interpolate of the reference, and both answers. -/
namespace Go.Proofs.YtchlnkdlnfjijaaGreat
open Go.RowKit

end Go.Proofs.YtchlnkdlnfjijaaGreat

