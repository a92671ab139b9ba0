/- A number's decimal text, as the reference writes it. -/
import Derived.Test.YtmiohdibbpckaaaDoorBas
import Derived.Lib.ItoaNum
import Derived.Laws.BytesString
import Derived.Laws.IdiomStrings
import Derived.Laws.Concat
import Derived.BigRegion
namespace Go.Proofs.YtmiohdibbpckaaaDoor
open Go.RowKit

theorem lit_str {b : Nat} {wr : World} {v : Int} {c : UInt8} (hv : v = c.toNat) (h : wr.cell? ⟨b, 0, none⟩ = some (.int .u8 v)) :
    (convert 22 9 (.slice (some ⟨b, 0, none⟩) 1 1)).run Tryd.prog wr = .ok (.string ⟨#[c]⟩) wr :=
  run_convert_bytes_back (P := Tryd.prog) wr 22 9 5 ⟨b, 0, none⟩ 1 [c] Tryd.underlying22 Tryd.underlying5 Tryd.underlying9 (fun j hj => by
    have : j = 0 := by simpa using hj
    subst this
    rw [show (⟨b, 0, none⟩ : Addr).add 0 = ⟨b, 0, none⟩ from rfl, h, hv]; rfl)
theorem lit_cell (w : World) (v : Value) (t : TypeId) : (w.alloc (.cells #[v] t)).cell? ⟨w.heap.size, 0, none⟩ = some v := by
  simp
theorem lit_kept {w w1 : World} {v : Value} {t : TypeId} (h : Below (w.drew.alloc (.cells #[v] t)).heap.size (w.drew.alloc (.cells #[v] t)) w1) : w1.cell? ⟨w.heap.size, 0, none⟩ = some v := by
  have h1 := h.block w.heap.size (by simp)
  have h2 := lit_cell w.drew v t
  unfold World.cell? at h2 ⊢
  rw [show w.drew.heap.size = w.heap.size from rfl] at h2
  rw [h1]; exact h2
theorem dec_c {m : Nat} (h : m < 10) : (48 + (m : Int)) = (((UInt8.ofNat (48 + m)).toNat : Nat) : Int) := by
  rw [UInt8.toNat_ofNat']; omega

theorem dec_le (u : Nat) : (Lib.decDigits u).length ≤ u + 1 := by
  induction u using Nat.strongRecOn with
  | _ u ih =>
    rw [Lib.decDigits]
    split
    · simp
    · have := ih (u / 10) (by omega); simp; omega

set_option maxRecDepth 100000 in
set_option maxHeartbeats 1600000 in
theorem l1Num_any (n : Nat) : n ≤ 9223372036854775807 → ∀ w : World,
    Calls Tryd.prog 101 #[.int .i64 n] w fun e w' => e = .returned (.string ⟨(Lib.decDigits n).toArray⟩) ∧ Below w.heap.size w w' := by
  induction n using Nat.strongRecOn with
  | _ n ih =>
    intro hn w
    have IH := Lib.hid ih
    clear ih
    by_cases h : n < 10
    · have hi : (n : Int) < 10 := by omega
      have hcv := lit_str (c := UInt8.ofNat (48 + n)) (dec_c h) (lit_cell w (.int .u8 (48 + (n : Int))) 5)
      rw [Lib.decDigits, dif_pos h]
      generalize UInt8.ofNat (48 + n) = c at hcv ⊢
      go_enter Tryd.func101, Tryd.ntmps101
      go_wp2
      go_ret
      exact ⟨rfl, ba w _⟩
    · have hi : ¬ (n : Int) < 10 := by omega
      have hq : (n : Int).tdiv 10 = ((n / 10 : Nat) : Int) := by rw [Int.tdiv_eq_ediv_of_nonneg (by omega)]; omega
      have hm : (n : Int).tmod 10 = ((n % 10 : Nat) : Int) := by rw [Int.tmod_eq_emod_of_nonneg (by omega)]; omega
      have hm10 : n % 10 < 10 := Nat.mod_lt _ (by omega)
      have hcv := fun (b : Nat) (wr : World) (hc : wr.cell? ⟨b, 0, none⟩ = some (.int .u8 (48 + ((n % 10 : Nat) : Int)))) => lit_str (c := UInt8.ofNat (48 + n % 10)) (dec_c hm10) hc
      have hq0 : n / 10 < n := by omega
      have hn10 : n / 10 ≤ 9223372036854775807 := by omega
      have hw8 : IntKind.u8.wrap (48 + ((n % 10 : Nat) : Int)) = 48 + ((n % 10 : Nat) : Int) := by rw [IntKind.wrap_u8]; omega
      rw [Lib.decDigits, dif_neg h]
      generalize UInt8.ofNat (48 + n % 10) = c at hcv ⊢
      generalize hr : n % 10 = r at *
      generalize hk : n / 10 = k at *
      have hqw : IntKind.i64.wrap ((n : Int).tdiv 10) = (k : Int) := by rw [hq, IntKind.wrap_i64]; omega
      have hqw2 : IntKind.i64.wrap (k : Int) = (k : Int) := by rw [IntKind.wrap_i64]; omega
      have hdl := dec_le k
      have hsz : ¬ 9223372036854775807 < (Lib.decDigits k).length + 1 := by omega
      have hsw : IntKind.i64.wrap (48 + (r : Int)) = 48 + (r : Int) := by rw [IntKind.wrap_i64]; omega
      clear hm10 hdl
      go_enter Tryd.func101, Tryd.ntmps101
      go_wp2_with fail
      go_region_with (first | (go_loud (go_at_call 101; (with_reducible refine (IH.out k hq0 hn10 _).mono ?_); rintro e w1 ⟨rfl, hb⟩; (first | (have hb3 : Below w.heap.size w w1 := bt (Below.refl _ w).drew hb) | (have hb3 : Below w.heap.size w w1 := bt (bt (Below.refl _ w).drew (ba w.drew (.cells #[.int .u8 (48 + (r : Int))] 5))) hb)); (try have hck := lit_kept hb); clear hb)))
      all_goals (
        go_wp2
        go_ret
        refine ⟨rfl, ?_⟩
        first | exact hb3 | exact bt hb3 (ba _ _))

end Go.Proofs.YtmiohdibbpckaaaDoor

