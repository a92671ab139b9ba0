/- DigestText of the program and of the reference. -/
import Derived.Test.YtkpfmpndaenclaaDoorHexB
namespace Go.Proofs.YtkpfmpndaenclaaDoor
open Go.RowKit

theorem iFormatInt_16 (n : Nat) (hn : n < 4611686018427387904) (w : World) (h : TzAt w) :
    Calls Tryd.prog 57 #[.int .i64 n, .int .i64 16] w fun e w' =>
      (∃ k, 1 ≤ k ∧ k ≤ 16 ∧ n < 16 ^ k ∧ e = .returned (.string (hexS k n))) ∧ Below w.heap.size w w' := by
  have hw : IntKind.u64.wrap (n : Int) = n := by rw [IntKind.wrap_u64]; omega
  have hneg : ¬ ((n : Int) < 0) := by omega
  go_enter Tryd.func57, Tryd.ntmps57
  go_wp2_with fail
  refine (formatBits_16 n hn _ h).mono ?_
  rintro e w' ⟨⟨k, k1, k2, k3, rfl⟩, hb⟩
  go_wp2
  go_ret
  exact ⟨⟨k, k1, k2, k3, rfl⟩, hb⟩

theorem formatInt_16 (n : Nat) (hn : n < 4611686018427387904) (w : World) (h : TzAt w) :
    Calls Tryd.prog 39 #[.int .i64 n, .int .i64 16] w fun e w' =>
      (∃ k, 1 ≤ k ∧ k ≤ 16 ∧ n < 16 ^ k ∧ e = .returned (.string (hexS k n))) ∧ Below w.heap.size w w' := by
  go_enter Tryd.func39, Tryd.ntmps39
  go_wp2_with fail
  refine (iFormatInt_16 n hn _ h).mono ?_
  rintro e w' ⟨⟨k, k1, k2, k3, rfl⟩, hb⟩
  go_wp2
  go_ret
  exact ⟨⟨k, k1, k2, k3, rfl⟩, hb⟩

theorem textOfDigest_any (n : Nat) (hn : n < 4611686018427387904) (w : World) (h : TzAt w) :
    Calls Tryd.prog 21 #[.int .i64 n] w fun e w' =>
      e = .returned (.string (hexS 16 n)) ∧ Below w.heap.size w w' := by
  go_enter Tryd.func21, Tryd.ntmps21
  go_wp2_with fail
  refine (formatInt_16 n hn _ h).mono ?_
  rintro e w1 ⟨⟨k, k1, k2, k3, rfl⟩, hb⟩
  go_wp2
  go_loopw [3] (fun S wr => ∃ j : Nat, j ≤ 16 ∧ n < 16 ^ j ∧ S = .string (hexS j n) ∧ wr = w1) (fun S _ => match S with | .string s => 16 - s.size | _ => 0)
  case atStart => exact ⟨k, k2, k3, rfl, rfl⟩
  case round =>
    obtain ⟨j, hj, hjn, rfl, rfl⟩ := hrel
    have hsz := hexS_size j n
    have hz := hexS_zero hjn
    by_cases hlt : j < 16
    · have hi : (j : Int) < 16 := by omega
      go_wp2_with (simp only [hsz])
      refine ⟨⟨j + 1, by omega, Nat.lt_of_lt_of_le hjn (Nat.pow_le_pow_right (by decide) (by omega)), rfl, trivial⟩, ?_⟩
      simp only [hexS_size]; omega
    · have hi : ¬ ((j : Int) < 16) := by omega
      go_wp2_with (simp only [hsz])
      go_ret
      obtain rfl : j = 16 := by omega
      exact ⟨rfl, hb⟩

theorem Tryd.info5 : (Tryd.prog.info? 5).map (fun i => (i.zero, i.size, i.bytes)) = some (some (.int .u8 0), 1, 1) := by kernel_rfl
theorem make16 (w : World) : (Instr.makeSlice 28 (.int .i64 16) (.int .i64 16)).run Tryd.prog w = .ok (.slice (some ⟨w.heap.size, 0, none⟩) 16 16) (w.alloc (.cells (madeCells #[.int .u8 0] 16) 5)) := by
  obtain ⟨i0, hi, hz0, hz1, hz2⟩ := info_parts Tryd.info5
  have h := run_makeSlice (P := Tryd.prog) w 28 5 i0 (.int .u8 0) Tryd.underlying28 hi hz0 .i64 .i64 16 16 (by omega) (by omega) (by rw [hz1]; decide) (by rw [hz2]; decide) (by omega)
  rw [hz1] at h
  exact h
theorem tdiv16 (u : Nat) : Int.tdiv (u : Int) 16 = ((u / 16 : Nat) : Int) := by
  rw [Int.tdiv_eq_ediv_of_nonneg (by omega)]; omega
theorem tmod16 (u : Nat) : Int.tmod (u : Int) 16 = ((u % 16 : Nat) : Int) := by
  rw [Int.tmod_eq_emod_of_nonneg (by omega)]; omega

set_option maxRecDepth 100000 in
set_option maxHeartbeats 1600000 in
theorem sDigestText_any (d : Int) (w : World) :
    Calls Tryd.prog 6 #[.int .i64 d] w fun e w' =>
      e = .returned (.tuple #[.string (if digB d then hexS 16 d.toNat else ⟨#[]⟩), .bool (digB d)]) ∧ Below w.heap.size w w' := by
  cases hd : digB d
  · have HD := Lib.hid hd
    clear hd
    go_enter Tryd.func6, Tryd.ntmps6
    go_wp2_with fail
    refine (l3Digest_any _ _).mono ?_
    rw [HD.out]
    rintro e w' ⟨rfl, rfl⟩
    go_wp2
    go_ret2
    exact ⟨rfl, Below.refl _ _⟩
  · obtain ⟨h0, h1⟩ := digB_true.1 hd
    obtain ⟨n, rfl⟩ : ∃ n : Nat, d = n := ⟨d.toNat, by omega⟩
    have HD := Lib.hid hd
    clear hd
    go_enter Tryd.func6, Tryd.ntmps6
    go_wp2_with fail
    refine (l3Digest_any _ _).mono ?_
    rw [HD.out]
    rintro e w' ⟨rfl, rfl⟩
    have hmk := make16
    have hrow : (w.alloc (.cells (madeCells #[.int .u8 0] 16) 5)).rowIs w.heap.size 5 16 (hexRow 16 0 n) := (World.rowIs_made w (.int .u8 0) 16 5).congr fun i hi => (hexRow_zero _ _ _ hi).symm
    have HROW := Lib.hid hrow
    clear hrow
    go_wp2
    go_loopw [0, 5] (fun U I wr => ∃ k : Nat, k ≤ 16 ∧ U = .int .i64 ((n / 16 ^ k : Nat) : Int) ∧ I = .int .i64 (15 - k) ∧ wr.rowIs w.heap.size 5 16 (hexRow 16 k n) ∧ Below w.heap.size w wr) (fun _ I _ => (intOf I + 1).toNat)
    case atStart => exact ⟨0, by omega, by simp, rfl, HROW.out, (Below.refl _ _).alloc (Nat.le_refl _) _⟩
    case round =>
      obtain ⟨k, hk, rfl, rfl, hr, hb⟩ := hrel
      have HB := Lib.hid hb
      have HK := Lib.hid (pow_next n k)
      have hu : n / 16 ^ k ≤ n := Nat.div_le_self _ _
      by_cases hlt : k < 16
      · have hc : wr.cell? ⟨w.heap.size, 15 - k, none⟩ = _ := hr.cell (i := 15 - k) (by omega)
        have hf : wr.frozen? ⟨w.heap.size, 15 - k, none⟩ = false := hr.frozen _
        have hto : ((15 : Int) - k).toNat = 15 - k := by omega
        have HR := Lib.hid hr
        clear hr hb
        generalize hU : n / 16 ^ k = u at *
        have HU := Lib.hid hU
        clear hU
        have hd := tdiv16 u
        have hm := tmod16 u
        have hge : (0 : Int) ≤ 15 - (k : Int) := by omega
        go_wp2_with (first | simp only [hto] | simp only [hm] | simp only [hd])
        go_roundw
        case rel =>
          refine ⟨k + 1, by omega, by rw [← HK.out]; congr 1, by congr 1; omega, row_hex HR.out (by omega) (by omega) ?_, HB.out.setCell (Nat.le_refl _) _⟩
          rw [dig16 _ (Nat.mod_lt _ (by decide)), HU.out]
        case measure => simp only [intOf]; omega
      · obtain rfl : k = 16 := by omega
        have hcv := run_convert_bytes_back (P := Tryd.prog) wr 28 9 5 ⟨w.heap.size, 0, none⟩ 16 (hexK 16 n) Tryd.underlying28 Tryd.underlying5 Tryd.underlying9 (fun j hj => hex_cell (N := 16) hr (Nat.le_refl _) j hj)
        rw [hexK_length] at hcv
        have HU := Lib.hid hu
        clear hu hr hb
        generalize n / 16 ^ 16 = u at *
        go_wp2
        go_ret2
        exact ⟨rfl, HB.out⟩

theorem digestText_any (d : Int) (w : World) (h : TzAt w) :
    Calls Tryd.prog 7 #[.int .i64 d] w fun e w' =>
      e = .returned (.tuple #[.string (if digB d then hexS 16 d.toNat else ⟨#[]⟩), .bool (digB d)]) ∧ Below w.heap.size w w' := by
  cases hd : digB d
  · have HD := Lib.hid hd
    clear hd
    go_enter Tryd.func7, Tryd.ntmps7
    go_wp2_with fail
    refine (isDigest_any _ _).mono ?_
    rw [HD.out]
    rintro e w' ⟨rfl, rfl⟩
    go_wp2
    go_ret2
    exact ⟨rfl, Below.refl _ _⟩
  · obtain ⟨h0, h1⟩ := digB_true.1 hd
    obtain ⟨n, rfl⟩ : ∃ n : Nat, d = n := ⟨d.toNat, by omega⟩
    have HD := Lib.hid hd
    clear hd
    go_enter Tryd.func7, Tryd.ntmps7
    go_wp2_with fail
    refine (isDigest_any _ _).mono ?_
    rw [HD.out]
    rintro e w' ⟨rfl, rfl⟩
    go_wp2_with fail
    refine (textOfDigest_any n (by omega) _ h).mono ?_
    rintro e w' ⟨rfl, hb⟩
    have HB := Lib.hid hb
    clear hb
    go_wp2
    go_ret2
    exact ⟨rfl, HB.out⟩

/-! ### The law -/
theorem FnExactDigestText_true (d : Int) (w : World) (h : TzAt w) :
    Calls Tryd.prog 3 #[.int .i64 d] w fun e w' => e = .returned (.bool true) ∧ Below w.heap.size w w' := by
  have c1 := sDigestText_any d
  have c2 := digestText_any d
  obtain ⟨s, hs⟩ : ∃ s : ByteArray, s = (if digB d then hexS 16 d.toNat else ⟨#[]⟩) := ⟨_, rfl⟩
  rw [← hs] at c1 c2
  clear hs
  generalize digB d = b at c1 c2
  have C1 := Lib.hid c1
  have C2 := Lib.hid c2
  clear c1 c2
  go_enter Tryd.func3, Tryd.ntmps3
  go_wp2_with fail
  refine (C1.out _).mono ?_
  rintro e w1 ⟨rfl, hb1⟩
  have HB1 := Lib.hid hb1
  clear hb1
  go_wp2_with fail
  refine (C2.out _ (h.below HB1.out)).mono ?_
  rintro e w2 ⟨rfl, hb2⟩
  have HB2 := Lib.hid (bt HB1.out hb2)
  clear hb2
  go_wp2
  go_ret
  exact ⟨rfl, HB2.out⟩
end Go.Proofs.YtkpfmpndaenclaaDoor

