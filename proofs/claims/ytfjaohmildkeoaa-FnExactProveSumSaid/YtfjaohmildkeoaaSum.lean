/- SumMod of the program and of the reference. -/
import Derived.Test.YtfjaohmildkeoaaCopy
namespace Go.Proofs.Ytfjaohmildkeoaa
open Go.RowKit

/-- The closure of SumMod; m lies in the captured variable. -/
theorem sumStep_any (a x m : Int) (h0 : 0 ≤ a) (h1 : a ≤ 2000000000) (h2 : 0 ≤ x) (h3 : x ≤ 2000000000) (h4 : 2 ≤ m) (B : Nat) (w : World) (hc : w.cell? ⟨B, 0, none⟩ = some (.int .i64 m)) :
    Calls Try.prog 142 #[.int .i64 a, .int .i64 x, .pointer (some ⟨B, 0, none⟩)] w fun e w' => e = .returned (.int .i64 ((a + x) % m)) ∧ w = w' := by
  go_enter Try.func142, Try.ntmps142
  go_wp2
  go_ret
  exact ⟨rfl, rfl⟩

set_option maxHeartbeats 800000 in
theorem foldSum_any (ad : Option Addr) (n cap : Nat) (zs : List Int) (m : Int) (hn : zs.length = n) (hl : n ≤ 1152921504606846976) (h2 : 2 ≤ m) (h3 : m ≤ 2000000000) (hr : ∀ z ∈ zs, 0 ≤ z ∧ z < m) (B : Nat) (w : World)
    (hz : IsInts w ad zs) (hcm : w.cell? ⟨B, 0, none⟩ = some (.int .i64 m)) :
    Calls Try.prog 143 #[.int .i64 0, .func (.func 142) #[] #[.pointer (some ⟨B, 0, none⟩)], .slice ad n cap] w fun e w' => e = .returned (.int .i64 (sumFrom m 0 zs)) ∧ w = w' := by
  have HR := Lib.hid hr
  clear hr
  go_enter Try.func143, Try.ntmps143
  go_wp2
  go_loop [7, 9, 13] (fun A _ K => ∃ (k : Nat) (a : Int), k ≤ n ∧ (0 ≤ a ∧ a < m) ∧ A = .int .i64 a ∧ K = .int .i64 k ∧ sumFrom m 0 zs = sumFrom m a (zs.drop k)) (fun _ _ K => n - (intOf K).toNat)
  case atStart => exact ⟨0, 0, Nat.zero_le _, ⟨Int.le_refl _, by omega⟩, rfl, rfl, rfl⟩
  case round =>
    obtain ⟨k, a, hk, ⟨ha0, ha1⟩, rfl, rfl, he⟩ := hrel
    by_cases hkn : k < n
    · obtain ⟨b, off, z, rfl, hb, hc, hd⟩ := hz.at (k := k) (by omega)
      have HS := Lib.hid (sumFrom_step hd he)
      obtain ⟨hz0, hz1⟩ := HR.out z (mem_drop hd)
      clear he hd
      have hp1 : 0 ≤ (a + z) % m := Int.emod_nonneg _ (by omega)
      have hp2 : (a + z) % m < m := Int.emod_lt_of_pos _ (by omega)
      go_wp2_with (go_at_call 142; refine (sumStep_any _ _ _ (by omega) (by omega) (by omega) (by omega) (by omega) _ _ hcm).mono ?_; rintro e w' ⟨rfl, rfl⟩)
      go_round
      case rel => exact ⟨k + 1, _, by omega, ⟨hp1, hp2⟩, rfl, by go_num, HS.out⟩
      case measure => simp only [intOf]; omega
    · have HE := Lib.hid he
      clear he
      go_wp2
      go_ret
      refine ⟨?_, rfl⟩
      rw [HE.out, List.drop_of_length_le (by omega)]; rfl

theorem new_cell (w : World) (v : Value) (t : TypeId) : (w.alloc (.cells #[v] t)).cell? ⟨w.heap.size, 0, none⟩ = some v := by
  rw [World.cell?_alloc_at _ _ _ _ rfl]; rfl

/-- What SumMod answers. -/
def sumMod (zs : List Int) (m : Int) : Int := if listB zs m then sumFrom m 0 zs else 0

set_option maxHeartbeats 800000 in
theorem sumMod_any (ad : Option Addr) (n cap : Nat) (zs : List Int) (m : Int) (hn : zs.length = n) (hl : n ≤ 1152921504606846976) (w : World) (hz : IsInts w ad zs) :
    Calls Try.prog 98 #[.slice ad n cap, .int .i64 m] w fun e w' => e = .returned (.tuple #[.int .i64 (sumMod zs m), .bool (listB zs m)]) ∧ Below w.heap.size w w' := by
  have hz1 : ∀ o, IsInts (w.alloc o) ad zs := fun o => hz.below ((Below.refl _ _).alloc (Nat.le_refl _) o) (Nat.le_refl _)
  have HN := Lib.hid hn
  clear hn
  cases hr : listB zs m
  · have e1 : sumMod zs m = 0 := by simp [sumMod, hr]
    rw [e1]
    have HR := Lib.hid hr
    clear hr e1
    go_enter Try.func98, Try.ntmps98
    go_wp2_with (go_at_call 141; refine (areResidues_any _ _ _ _ _ HN.out hl _ (hz1 _)).mono ?_; rintro e w' ⟨rfl, rfl⟩; rw [HR.out])
    go_ret2
    exact ⟨rfl, (Below.refl _ _).alloc (Nat.le_refl _) _⟩
  · have e1 : sumMod zs m = sumFrom m 0 zs := by simp [sumMod, hr]
    rw [e1]
    obtain ⟨h2, h3, h4, h5⟩ := res_of_list hr
    have H5 := Lib.hid h5
    have HR := Lib.hid hr
    clear hr e1 h5
    go_enter Try.func98, Try.ntmps98
    go_wp2_with (first | (go_at_call 141; refine (areResidues_any _ _ _ _ _ HN.out hl _ (hz1 _)).mono ?_; rintro e w' ⟨rfl, rfl⟩; rw [HR.out]) | (go_at_call 143; refine (foldSum_any _ _ _ _ _ HN.out hl h2 h3 H5.out _ _ (hz1 _) (new_cell _ _ _)).mono ?_; rintro e w' ⟨rfl, rfl⟩))
    go_ret2
    exact ⟨rfl, (Below.refl _ _).alloc (Nat.le_refl _) _⟩

end Go.Proofs.Ytfjaohmildkeoaa

