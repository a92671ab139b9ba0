/- strconv.FormatInt at base 16, of the program's textOfDigest. -/
import Derived.Test.YtkpfmpndaenclaaDoorHexA
namespace Go.Proofs.YtkpfmpndaenclaaDoor
open Go.RowKit

/-- The one cell of the table that is read. -/
def TzAt (w : World) : Prop := w.cell? ⟨4, 15, none⟩ = some (.int .u8 4)
theorem TzAt.below {w w' : World} (h : TzAt w) (hb : Below w.heap.size w w') : TzAt w' := by
  unfold TzAt World.cell? at *
  have hl : 4 < w.heap.size := by
    cases e : w.heap[4]? with
    | none => rw [e] at h; cases h
    | some x => exact (Array.getElem?_eq_some_iff.1 e).1
  rw [hb.block _ hl]; exact h

theorem isPow_16 (w : World) :
    Calls Tryd.prog 88 #[.int .i64 16] w fun e w' => e = .returned (.bool true) ∧ w = w' := by
  have hb : bits BinOp.and IntKind.i64 16 15 = 0 := by decide
  go_enter Tryd.func88, Tryd.ntmps88
  go_wp2_with (simp only [hb])
  go_ret
  exact ⟨rfl, rfl⟩

theorem tz64_16 (w : World) (h : TzAt w) :
    Calls Tryd.prog 94 #[.int .u64 16] w fun e w' => e = .returned (.int .i64 4) ∧ w = w' := by
  unfold TzAt at h
  have hb : IntKind.u64.wrap (bits BinOp.and IntKind.u64 16 (IntKind.u64.wrap (-16)) * 285870213051353865) / 288230376151711744 = 15 := by decide
  go_enter Tryd.func94, Tryd.ntmps94
  go_wp2_with (simp only [hb])
  go_ret
  exact ⟨rfl, rfl⟩

theorem tz_16 (w : World) (h : TzAt w) :
    Calls Tryd.prog 89 #[.int .u64 16] w fun e w' => e = .returned (.int .i64 4) ∧ w = w' := by
  go_enter Tryd.func89, Tryd.ntmps89
  go_wp2_with fail
  refine (tz64_16 _ h).mono ?_
  rintro e w' ⟨rfl, rfl⟩
  go_wp2
  go_ret
  exact ⟨rfl, rfl⟩

theorem zero65 : Tryd.zeroCells106 = Array.replicate 65 (.int .u8 0) := by rfl
theorem row65 (w : World) (n : Nat) : (w.alloc (.cells Tryd.zeroCells106 106)).rowIs w.heap.size 106 65 (hexRow 65 0 n) := by
  have h := World.rowIs_alloc w Tryd.zeroCells106 106 (hexRow 65 0 n) (fun i hi => by
    rw [zero65] at hi ⊢
    rw [Array.size_replicate] at hi
    rw [hexRow_zero _ _ _ hi]
    simp [hi])
  rwa [show (Tryd.zeroCells106).size = 65 from by rw [zero65]; simp] at h

set_option maxRecDepth 100000 in
set_option maxHeartbeats 1600000 in
theorem formatBits_16 (n : Nat) (hn : n < 4611686018427387904) (w : World) (h : TzAt w) :
    Calls Tryd.prog 75 #[.slice none 0 0, .int .u64 n, .int .i64 16, .bool false, .bool false] w fun e w' =>
      (∃ k, 1 ≤ k ∧ k ≤ 16 ∧ n < 16 ^ k ∧ e = .returned (.tuple #[.slice none 0 0, .string (hexS k n)])) ∧ Below w.heap.size w w' := by
  go_enter Tryd.func75, Tryd.ntmps75
  go_wp2_with fail
  refine (isPow_16 _).mono ?_
  rintro e w' ⟨rfl, rfl⟩
  go_wp2_with fail
  refine (tz_16 _ (h.below ((Below.refl _ _).alloc (Nat.le_refl _) _))).mono ?_
  rintro e w' ⟨rfl, rfl⟩
  have hrow := row65 w n
  have HB := Lib.hid ((Below.refl w.heap.size w).alloc (Nat.le_refl _) (.cells Tryd.zeroCells106 106))
  go_wp2
  go_loopw [1, 13] (fun U I wr => ∃ k : Nat, k ≤ 15 ∧ U = .int .u64 ((n / 16 ^ k : Nat) : Int) ∧ I = .int .i64 (65 - k) ∧ wr.rowIs w.heap.size 106 65 (hexRow 65 k n) ∧ Below w.heap.size w wr) (fun U _ _ => (intOf U).toNat)
  case atStart => exact ⟨0, by omega, by simp, rfl, hrow, HB.out⟩
  case round =>
    obtain ⟨k, hk, rfl, rfl, hr, hb⟩ := hrel
    have hu : n / 16 ^ k < 18446744073709551616 := Nat.lt_of_le_of_lt (Nat.div_le_self _ _) (by omega)
    have h15 := and15 _ hu
    have hs4 := shr4 (n / 16 ^ k)
    have hc : wr.cell? ⟨w.heap.size, 64 - k, none⟩ = _ := hr.cell (i := 64 - k) (by omega)
    have hf : wr.frozen? ⟨w.heap.size, 64 - k, none⟩ = false := hr.frozen _
    have hto : ((65 : Int) - k - 1).toNat = 64 - k := by omega
    have HR := Lib.hid hr
    have HB := Lib.hid hb
    have HK := Lib.hid (pow_next n k)
    clear hr hb
    generalize hU : n / 16 ^ k = u at *
    have HU := Lib.hid hU
    clear hU
    by_cases hge : 16 ≤ u
    · have hgi : (16 : Int) ≤ (u : Int) := by omega
      go_wp2_with (first | simp only [h15] | simp only [hs4] | simp only [hto])
      go_roundw
      case rel =>
        have hlt : k ≠ 15 := by
          intro hk15
          subst hk15
          have := HU.out
          have h2 : n / 16 ^ 15 < 16 := by
            apply Nat.div_lt_of_lt_mul
            omega
          omega
        refine ⟨k + 1, by omega, by rw [← HK.out]; congr 1, by congr 1; omega, row_hex HR.out (by omega) (by omega) ?_, ?_⟩
        · rw [dig36 _ (Nat.mod_lt _ (by decide)), HU.out]
        · exact HB.out.setCell (Nat.le_refl _) _
      case measure => simp only [intOf]; omega
    · have hu2 : u < 16 := by omega
      have hr2 := row_hex (w := wr) (v := .int .u8 ((dig u : Nat) : Int)) HR.out (by omega) (i := 64 - k) (by omega) (by rw [HU.out, Nat.mod_eq_of_lt hu2])
      have hcv := run_convert_bytes_back (P := Tryd.prog) (wr.setCell ⟨w.heap.size, 64 - k, none⟩ (.int .u8 ((dig u : Nat) : Int))) 28 9 5 ⟨w.heap.size, 65 - (k + 1), none⟩ (k + 1) (hexK (k + 1) n) Tryd.underlying28 Tryd.underlying5 Tryd.underlying9 (fun j hj => hex_cell hr2 (by omega) j hj)
      rw [hexK_length, show 65 - (k + 1) = 64 - k from by omega] at hcv
      have HCV := Lib.hid hcv
      have hal : Tryd.prog.arrayLen 106 = 65 := by rfl
      have hsl : ∀ W, (Instr.sliceAt 106 (.pointer (some ⟨w.heap.size, 0, none⟩)) (some (.int .i64 (65 - (k : Int) - 1))) none none).run Tryd.prog W = .ok (.slice (some ⟨w.heap.size, 64 - k, none⟩) (k + 1) (k + 1)) W := fun W => by
        rw [run_sliceAt_array_l W 106 ⟨w.heap.size, 0, none⟩ Tryd.underlying106 .i64 (65 - (k : Int) - 1) (by omega) (by rw [hal]; omega)]
        rw [hal, hto]
        go_simp
        omega
      clear hcv hr2
      go_wp2_with (first | simp only [hto])
      rw [dig36 u hu2, HCV.out]
      go_wp2
      go_ret2
      refine ⟨⟨k + 1, by omega, by omega, ?_, rfl⟩, HB.out.setCell (Nat.le_refl _) _⟩
      have h3 : n / 16 ^ k < 16 := by rw [HU.out]; exact hu2
      rw [Nat.pow_succ, Nat.mul_comm]
      have h4 := (Nat.div_lt_iff_lt_mul (Nat.pow_pos (by decide) : 0 < 16 ^ k)).1 h3
      exact h4
end Go.Proofs.YtkpfmpndaenclaaDoor

