/- Hexadecimal texts: plain facts, and strconv.FormatInt at base 16. -/
import Derived.Test.YtmiohdibbpckaaaDoorHshB
import Derived.Deep.OwnRows
import Derived.Laws.Bits64b
import Derived.Laws.IdiomStrings
namespace Go.Proofs.YtmiohdibbpckaaaDoor
open Go.RowKit

def dig (m : Nat) : Nat := if m < 10 then 48 + m else 87 + m
def hx (m : Nat) : UInt8 := UInt8.ofNat (dig m)
theorem hx_nat {m : Nat} (h : m < 16) : (hx m).toNat = dig m := by
  have hd : dig m < 256 := by unfold dig; split <;> omega
  exact UInt8.toNat_ofNat_of_lt hd
def hexK : Nat → Nat → List UInt8
  | 0, _ => []
  | k + 1, n => hx (n / 16 ^ k % 16) :: hexK k n
theorem hexK_length (k n : Nat) : (hexK k n).length = k := by
  induction k with
  | zero => rfl
  | succ k ih => simp [hexK, ih]
theorem hexK_get (k n j : Nat) (h : j < (hexK k n).length) : (hexK k n)[j] = hx (n / 16 ^ (k - 1 - j) % 16) := by
  induction k generalizing j with
  | zero => simp [hexK] at h
  | succ k ih =>
    cases j with
    | zero => simp [hexK]
    | succ j =>
      simp only [hexK, List.getElem_cons_succ]
      rw [ih, show k + 1 - 1 - (j + 1) = k - 1 - j from by omega]
theorem hexK_zero {k n : Nat} (h : n < 16 ^ k) : hexK (k + 1) n = 48 :: hexK k n := by
  show hx (n / 16 ^ k % 16) :: hexK k n = _
  rw [Nat.div_eq_of_lt h]; rfl
def hexS (k n : Nat) : ByteArray := ⟨(hexK k n).toArray⟩
theorem hexS_size (k n : Nat) : (hexS k n).size = k := by
  show (hexK k n).toArray.size = k
  simp [hexK_length]
theorem hexS_zero {k n : Nat} (h : n < 16 ^ k) : (⟨#[48]⟩ : ByteArray) ++ hexS k n = hexS (k + 1) n := by
  unfold hexS
  rw [hexK_zero h]
  apply ByteArray.ext
  simp

/-- A row of bytes whose last k cells are n's last k digits. -/
def hexRow (N k n : Nat) (i : Nat) : Value := .int .u8 (if N - k ≤ i then ((dig (n / 16 ^ (N - 1 - i) % 16) : Nat) : Int) else 0)
theorem hexRow_zero (N n i : Nat) (h : i < N) : hexRow N 0 n i = .int .u8 0 := by
  unfold hexRow; rw [if_neg (by omega)]
theorem row_hex {w : World} {g N k n : Nat} {t : TypeId} (h : w.rowIs g t N (hexRow N k n)) (hk : k < N) {i : Nat} (hi : i = N - 1 - k) {v : Value} (hv : v = .int .u8 ((dig (n / 16 ^ k % 16) : Nat) : Int)) :
    (w.setCell ⟨g, i, none⟩ v).rowIs g t N (hexRow N (k + 1) n) := by
  refine (h.set i v).congr fun j hj => ?_
  subst hi hv
  by_cases e : j = N - 1 - k
  · subst e
    rw [if_pos rfl]
    unfold hexRow
    rw [if_pos (by omega)]
    congr 3
    have : N - 1 - (N - 1 - k) = k := by omega
    rw [this]
  · rw [if_neg e]
    unfold hexRow
    by_cases h2 : N - k ≤ j
    · rw [if_pos h2, if_pos (by omega)]
    · rw [if_neg h2, if_neg (by omega)]
theorem hex_cell {w : World} {g N k n : Nat} {t : TypeId} (h : w.rowIs g t N (hexRow N k n)) (hk : k ≤ N) (j : Nat) (hj : j < (hexK k n).length) :
    w.cell? ((⟨g, N - k, none⟩ : Addr).add j) = some (.int .u8 ((hexK k n)[j].toNat : Int)) := by
  have e1 : (⟨g, N - k, none⟩ : Addr).add j = ⟨g, N - k + j, none⟩ := by
    unfold Addr.add; split
    · subst_vars; rfl
    · rfl
  rw [hexK_length] at hj
  rw [e1, h.cell (by omega), hexK_get, hx_nat (Nat.mod_lt _ (by decide))]
  unfold hexRow
  rw [if_pos (by omega)]
  congr 4
  have : N - 1 - (N - k + j) = k - 1 - j := by omega
  rw [this]

theorem dig36 (z : Nat) (h : z < 16) (hs) : ((⟨#[48, 49, 50, 51, 52, 53, 54, 55, 56, 57, 97, 98, 99, 100, 101, 102, 103, 104, 105, 106, 107, 108, 109, 110, 111, 112, 113, 114, 115, 116, 117, 118, 119, 120, 121, 122]⟩ : ByteArray)[z]'hs).toNat = dig z := by
  have : ∀ z : Fin 16, ∀ hs, ((⟨#[48, 49, 50, 51, 52, 53, 54, 55, 56, 57, 97, 98, 99, 100, 101, 102, 103, 104, 105, 106, 107, 108, 109, 110, 111, 112, 113, 114, 115, 116, 117, 118, 119, 120, 121, 122]⟩ : ByteArray)[z.val]'hs).toNat = dig z.val := by decide
  exact this ⟨z, h⟩ hs
theorem dig16 (z : Nat) (h : z < 16) (hs) : ((⟨#[48, 49, 50, 51, 52, 53, 54, 55, 56, 57, 97, 98, 99, 100, 101, 102]⟩ : ByteArray)[z]'hs).toNat = dig z := by
  have : ∀ z : Fin 16, ∀ hs, ((⟨#[48, 49, 50, 51, 52, 53, 54, 55, 56, 57, 97, 98, 99, 100, 101, 102]⟩ : ByteArray)[z.val]'hs).toNat = dig z.val := by decide
  exact this ⟨z, h⟩ hs
theorem and15 (u : Nat) (h : u < 18446744073709551616) : bits BinOp.and IntKind.u64 (u : Int) 15 = ((u % 16 : Nat) : Int) := by
  have := bits_and_u64_nat u 15 h (by decide)
  rw [show ((15 : Nat) : Int) = 15 from rfl] at this
  rw [this, Nat.and_two_pow_sub_one_eq_mod u 4]
theorem shr4 (u : Nat) : (u : Int) / 2 ^ (4 : Int).toNat = ((u / 16 : Nat) : Int) := by
  show (u : Int) / 16 = _
  omega
theorem pow_next (n k : Nat) : n / 16 ^ k / 16 = n / 16 ^ (k + 1) := by
  rw [Nat.div_div_eq_div_mul, Nat.pow_succ]
end Go.Proofs.YtmiohdibbpckaaaDoor

/- strconv.FormatInt at base 16, of the program's textOfDigest. -/
namespace Go.Proofs.YtmiohdibbpckaaaDoor
open Go.RowKit

/-- The one cell of the table that is read. -/
def TzAt (w : World) : Prop := w.cell? ⟨5, 15, none⟩ = some (.int .u8 4)
theorem TzAt.below {w w' : World} (h : TzAt w) (hb : Below w.heap.size w w') : TzAt w' := by
  unfold TzAt World.cell? at *
  have hl : 5 < w.heap.size := by
    cases e : w.heap[5]? with
    | none => rw [e] at h; cases h
    | some x => exact (Array.getElem?_eq_some_iff.1 e).1
  rw [hb.block _ hl]; exact h

theorem isPow_16 (w : World) :
    Calls Tryd.prog 135 #[.int .i64 16] w fun e w' => e = .returned (.bool true) ∧ w = w' := by
  have hb : bits BinOp.and IntKind.i64 16 15 = 0 := by decide
  go_enter Tryd.func135, Tryd.ntmps135
  go_wp2_with (simp only [hb])
  go_ret
  exact ⟨rfl, rfl⟩

theorem tz64_16 (w : World) (h : TzAt w) :
    Calls Tryd.prog 140 #[.int .u64 16] w fun e w' => e = .returned (.int .i64 4) ∧ w = w' := by
  unfold TzAt at h
  have hb : IntKind.u64.wrap (bits BinOp.and IntKind.u64 16 (IntKind.u64.wrap (-16)) * 285870213051353865) / 288230376151711744 = 15 := by decide
  go_enter Tryd.func140, Tryd.ntmps140
  go_wp2_with (simp only [hb])
  go_ret
  exact ⟨rfl, rfl⟩

theorem tz_16 (w : World) (h : TzAt w) :
    Calls Tryd.prog 136 #[.int .u64 16] w fun e w' => e = .returned (.int .i64 4) ∧ w = w' := by
  go_enter Tryd.func136, Tryd.ntmps136
  go_wp2_with fail
  refine (tz64_16 _ h).mono ?_
  rintro e w' ⟨rfl, rfl⟩
  go_wp2
  go_ret
  exact ⟨rfl, rfl⟩

theorem zero65 : Tryd.zeroCells150 = Array.replicate 65 (.int .u8 0) := by rfl
theorem row65 (w : World) (n : Nat) : (w.alloc (.cells Tryd.zeroCells150 150)).rowIs w.heap.size 150 65 (hexRow 65 0 n) := by
  have h := World.rowIs_alloc w Tryd.zeroCells150 150 (hexRow 65 0 n) (fun i hi => by
    rw [zero65] at hi ⊢
    rw [Array.size_replicate] at hi
    rw [hexRow_zero _ _ _ hi]
    simp [hi])
  rwa [show (Tryd.zeroCells150).size = 65 from by rw [zero65]; simp] at h

set_option maxRecDepth 100000 in
set_option maxHeartbeats 1600000 in
theorem formatBits_16 (n : Nat) (hn : n < 4611686018427387904) (w : World) (h : TzAt w) :
    Calls Tryd.prog 121 #[.slice none 0 0, .int .u64 n, .int .i64 16, .bool false, .bool false] w fun e w' =>
      (∃ k, 1 ≤ k ∧ k ≤ 16 ∧ n < 16 ^ k ∧ e = .returned (.tuple #[.slice none 0 0, .string (hexS k n)])) ∧ Below w.heap.size w w' := by
  go_enter Tryd.func121, Tryd.ntmps121
  go_wp2_with fail
  refine (isPow_16 _).mono ?_
  rintro e w' ⟨rfl, rfl⟩
  go_wp2_with fail
  refine (tz_16 _ (h.below ((Below.refl _ _).alloc (Nat.le_refl _) _))).mono ?_
  rintro e w' ⟨rfl, rfl⟩
  have hrow := row65 w n
  have HB := Lib.hid ((Below.refl w.heap.size w).alloc (Nat.le_refl _) (.cells Tryd.zeroCells150 150))
  go_wp2
  go_loopw [1, 13] (fun U I wr => ∃ k : Nat, k ≤ 15 ∧ U = .int .u64 ((n / 16 ^ k : Nat) : Int) ∧ I = .int .i64 (65 - k) ∧ wr.rowIs w.heap.size 150 65 (hexRow 65 k n) ∧ Below w.heap.size w wr) (fun U _ _ => (intOf U).toNat)
  case atStart => exact ⟨0, by omega, by simp, rfl, hrow, HB.out⟩
  case round =>
    obtain ⟨k, hk, rfl, rfl, hr, hb⟩ := hrel
    have hu : n / 16 ^ k < 18446744073709551616 := Nat.lt_of_le_of_lt (Nat.div_le_self _ _) (by omega)
    have h15 := and15 _ hu
    have hs4 := shr4 (n / 16 ^ k)
    have hc : wr.cell? ⟨w.heap.size, 64 - k, none⟩ = _ := hr.cell (i := 64 - k) (by omega)
    have hf : wr.frozen? ⟨w.heap.size, 64 - k, none⟩ = false := hr.frozen _
    have hto : ((65 : Int) - k - 1).toNat = 64 - k := by omega
    have HR := Lib.hid hr
    have HB := Lib.hid hb
    have HK := Lib.hid (pow_next n k)
    clear hr hb
    generalize hU : n / 16 ^ k = u at *
    have HU := Lib.hid hU
    clear hU
    by_cases hge : 16 ≤ u
    · have hgi : (16 : Int) ≤ (u : Int) := by omega
      go_wp2_with (first | simp only [h15] | simp only [hs4] | simp only [hto])
      go_roundw
      case rel =>
        have hlt : k ≠ 15 := by
          intro hk15
          subst hk15
          have := HU.out
          have h2 : n / 16 ^ 15 < 16 := by
            apply Nat.div_lt_of_lt_mul
            omega
          omega
        refine ⟨k + 1, by omega, by rw [← HK.out]; congr 1, by congr 1; omega, row_hex HR.out (by omega) (by omega) ?_, ?_⟩
        · rw [dig36 _ (Nat.mod_lt _ (by decide)), HU.out]
        · exact HB.out.setCell (Nat.le_refl _) _
      case measure => simp only [intOf]; omega
    · have hu2 : u < 16 := by omega
      have hr2 := row_hex (w := wr) (v := .int .u8 ((dig u : Nat) : Int)) HR.out (by omega) (i := 64 - k) (by omega) (by rw [HU.out, Nat.mod_eq_of_lt hu2])
      have hcv := run_convert_bytes_back (P := Tryd.prog) (wr.setCell ⟨w.heap.size, 64 - k, none⟩ (.int .u8 ((dig u : Nat) : Int))) 22 9 5 ⟨w.heap.size, 65 - (k + 1), none⟩ (k + 1) (hexK (k + 1) n) Tryd.underlying22 Tryd.underlying5 Tryd.underlying9 (fun j hj => hex_cell hr2 (by omega) j hj)
      rw [hexK_length, show 65 - (k + 1) = 64 - k from by omega] at hcv
      have HCV := Lib.hid hcv
      have hal : Tryd.prog.arrayLen 150 = 65 := by rfl
      have hsl : ∀ W, (Instr.sliceAt 150 (.pointer (some ⟨w.heap.size, 0, none⟩)) (some (.int .i64 (65 - (k : Int) - 1))) none none).run Tryd.prog W = .ok (.slice (some ⟨w.heap.size, 64 - k, none⟩) (k + 1) (k + 1)) W := fun W => by
        rw [run_sliceAt_array_l W 150 ⟨w.heap.size, 0, none⟩ Tryd.underlying150 .i64 (65 - (k : Int) - 1) (by omega) (by rw [hal]; omega)]
        rw [hal, hto]
        go_simp
        omega
      clear hcv hr2
      go_wp2_with (first | simp only [hto])
      rw [dig36 u hu2, HCV.out]
      go_wp2
      go_ret2
      refine ⟨⟨k + 1, by omega, by omega, ?_, rfl⟩, HB.out.setCell (Nat.le_refl _) _⟩
      have h3 : n / 16 ^ k < 16 := by rw [HU.out]; exact hu2
      rw [Nat.pow_succ, Nat.mul_comm]
      have h4 := (Nat.div_lt_iff_lt_mul (Nat.pow_pos (by decide) : 0 < 16 ^ k)).1 h3
      exact h4
end Go.Proofs.YtmiohdibbpckaaaDoor

/- DigestText of the program and of the reference. -/
namespace Go.Proofs.YtmiohdibbpckaaaDoor
open Go.RowKit

theorem iFormatInt_16 (n : Nat) (hn : n < 4611686018427387904) (w : World) (h : TzAt w) :
    Calls Tryd.prog 102 #[.int .i64 n, .int .i64 16] w fun e w' =>
      (∃ k, 1 ≤ k ∧ k ≤ 16 ∧ n < 16 ^ k ∧ e = .returned (.string (hexS k n))) ∧ Below w.heap.size w w' := by
  have hw : IntKind.u64.wrap (n : Int) = n := by rw [IntKind.wrap_u64]; omega
  have hneg : ¬ ((n : Int) < 0) := by omega
  go_enter Tryd.func102, Tryd.ntmps102
  go_wp2_with fail
  refine (formatBits_16 n hn _ h).mono ?_
  rintro e w' ⟨⟨k, k1, k2, k3, rfl⟩, hb⟩
  go_wp2
  go_ret
  exact ⟨⟨k, k1, k2, k3, rfl⟩, hb⟩

theorem formatInt_16 (n : Nat) (hn : n < 4611686018427387904) (w : World) (h : TzAt w) :
    Calls Tryd.prog 83 #[.int .i64 n, .int .i64 16] w fun e w' =>
      (∃ k, 1 ≤ k ∧ k ≤ 16 ∧ n < 16 ^ k ∧ e = .returned (.string (hexS k n))) ∧ Below w.heap.size w w' := by
  go_enter Tryd.func83, Tryd.ntmps83
  go_wp2_with fail
  refine (iFormatInt_16 n hn _ h).mono ?_
  rintro e w' ⟨⟨k, k1, k2, k3, rfl⟩, hb⟩
  go_wp2
  go_ret
  exact ⟨⟨k, k1, k2, k3, rfl⟩, hb⟩

theorem textOfDigest_any (n : Nat) (hn : n < 4611686018427387904) (w : World) (h : TzAt w) :
    Calls Tryd.prog 48 #[.int .i64 n] w fun e w' =>
      e = .returned (.string (hexS 16 n)) ∧ Below w.heap.size w w' := by
  go_enter Tryd.func48, Tryd.ntmps48
  go_wp2_with fail
  refine (formatInt_16 n hn _ h).mono ?_
  rintro e w1 ⟨⟨k, k1, k2, k3, rfl⟩, hb⟩
  go_wp2
  go_loopw [3] (fun S wr => ∃ j : Nat, j ≤ 16 ∧ n < 16 ^ j ∧ S = .string (hexS j n) ∧ wr = w1) (fun S _ => match S with | .string s => 16 - s.size | _ => 0)
  case atStart => exact ⟨k, k2, k3, rfl, rfl⟩
  case round =>
    obtain ⟨j, hj, hjn, rfl, rfl⟩ := hrel
    have hsz := hexS_size j n
    have hz := hexS_zero hjn
    by_cases hlt : j < 16
    · have hi : (j : Int) < 16 := by omega
      go_wp2_with (simp only [hsz])
      refine ⟨⟨j + 1, by omega, Nat.lt_of_lt_of_le hjn (Nat.pow_le_pow_right (by decide) (by omega)), rfl, trivial⟩, ?_⟩
      simp only [hexS_size]; omega
    · have hi : ¬ ((j : Int) < 16) := by omega
      go_wp2_with (simp only [hsz])
      go_ret
      obtain rfl : j = 16 := by omega
      exact ⟨rfl, hb⟩

theorem Tryd.info5 : (Tryd.prog.info? 5).map (fun i => (i.zero, i.size, i.bytes)) = some (some (.int .u8 0), 1, 1) := by kernel_rfl
theorem make16 (w : World) : (Instr.makeSlice 22 (.int .i64 16) (.int .i64 16)).run Tryd.prog w = .ok (.slice (some ⟨w.heap.size, 0, none⟩) 16 16) (w.alloc (.cells (madeCells #[.int .u8 0] 16) 5)) := by
  obtain ⟨i0, hi, hz0, hz1, hz2⟩ := info_parts Tryd.info5
  have h := run_makeSlice (P := Tryd.prog) w 22 5 i0 (.int .u8 0) Tryd.underlying22 hi hz0 .i64 .i64 16 16 (by omega) (by omega) (by rw [hz1]; decide) (by rw [hz2]; decide) (by omega)
  rw [hz1] at h
  exact h
theorem tdiv16 (u : Nat) : Int.tdiv (u : Int) 16 = ((u / 16 : Nat) : Int) := by
  rw [Int.tdiv_eq_ediv_of_nonneg (by omega)]; omega
theorem tmod16 (u : Nat) : Int.tmod (u : Int) 16 = ((u % 16 : Nat) : Int) := by
  rw [Int.tmod_eq_emod_of_nonneg (by omega)]; omega

theorem digestText_any (d : Int) (w : World) (h : TzAt w) :
    Calls Tryd.prog 10 #[.int .i64 d] w fun e w' =>
      e = .returned (.tuple #[.string (if digB d then hexS 16 d.toNat else ⟨#[]⟩), .bool (digB d)]) ∧ Below w.heap.size w w' := by
  cases hd : digB d
  · have HD := Lib.hid hd
    clear hd
    go_enter Tryd.func10, Tryd.ntmps10
    go_wp2_with fail
    refine (isDigest_any _ _).mono ?_
    rw [HD.out]
    rintro e w' ⟨rfl, rfl⟩
    go_wp2
    go_ret2
    exact ⟨rfl, Below.refl _ _⟩
  · obtain ⟨h0, h1⟩ := digB_true.1 hd
    obtain ⟨n, rfl⟩ : ∃ n : Nat, d = n := ⟨d.toNat, by omega⟩
    have HD := Lib.hid hd
    clear hd
    go_enter Tryd.func10, Tryd.ntmps10
    go_wp2_with fail
    refine (isDigest_any _ _).mono ?_
    rw [HD.out]
    rintro e w' ⟨rfl, rfl⟩
    go_wp2_with fail
    refine (textOfDigest_any n (by omega) _ h).mono ?_
    rintro e w' ⟨rfl, hb⟩
    have HB := Lib.hid hb
    clear hb
    go_wp2
    go_ret2
    exact ⟨rfl, HB.out⟩

/-! ### The law -/
end Go.Proofs.YtmiohdibbpckaaaDoor

