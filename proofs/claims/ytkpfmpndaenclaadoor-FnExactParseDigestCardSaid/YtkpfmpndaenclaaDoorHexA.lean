/- Hexadecimal texts: plain facts, and strconv.FormatInt at base 16. -/
import Derived.Test.YtkpfmpndaenclaaDoorHshB
import Derived.Deep.OwnRows
import Derived.Laws.Bits64b
import Derived.Laws.IdiomStrings
namespace Go.Proofs.YtkpfmpndaenclaaDoor
open Go.RowKit

def dig (m : Nat) : Nat := if m < 10 then 48 + m else 87 + m
def hx (m : Nat) : UInt8 := UInt8.ofNat (dig m)
theorem hx_nat {m : Nat} (h : m < 16) : (hx m).toNat = dig m := by
  have hd : dig m < 256 := by unfold dig; split <;> omega
  exact UInt8.toNat_ofNat_of_lt hd
def hexK : Nat → Nat → List UInt8
  | 0, _ => []
  | k + 1, n => hx (n / 16 ^ k % 16) :: hexK k n
theorem hexK_length (k n : Nat) : (hexK k n).length = k := by
  induction k with
  | zero => rfl
  | succ k ih => simp [hexK, ih]
theorem hexK_get (k n j : Nat) (h : j < (hexK k n).length) : (hexK k n)[j] = hx (n / 16 ^ (k - 1 - j) % 16) := by
  induction k generalizing j with
  | zero => simp [hexK] at h
  | succ k ih =>
    cases j with
    | zero => simp [hexK]
    | succ j =>
      simp only [hexK, List.getElem_cons_succ]
      rw [ih, show k + 1 - 1 - (j + 1) = k - 1 - j from by omega]
theorem hexK_zero {k n : Nat} (h : n < 16 ^ k) : hexK (k + 1) n = 48 :: hexK k n := by
  show hx (n / 16 ^ k % 16) :: hexK k n = _
  rw [Nat.div_eq_of_lt h]; rfl
def hexS (k n : Nat) : ByteArray := ⟨(hexK k n).toArray⟩
theorem hexS_size (k n : Nat) : (hexS k n).size = k := by
  show (hexK k n).toArray.size = k
  simp [hexK_length]
theorem hexS_zero {k n : Nat} (h : n < 16 ^ k) : (⟨#[48]⟩ : ByteArray) ++ hexS k n = hexS (k + 1) n := by
  unfold hexS
  rw [hexK_zero h]
  apply ByteArray.ext
  simp

/-- A row of bytes whose last k cells are n's last k digits. -/
def hexRow (N k n : Nat) (i : Nat) : Value := .int .u8 (if N - k ≤ i then ((dig (n / 16 ^ (N - 1 - i) % 16) : Nat) : Int) else 0)
theorem hexRow_zero (N n i : Nat) (h : i < N) : hexRow N 0 n i = .int .u8 0 := by
  unfold hexRow; rw [if_neg (by omega)]
theorem row_hex {w : World} {g N k n : Nat} {t : TypeId} (h : w.rowIs g t N (hexRow N k n)) (hk : k < N) {i : Nat} (hi : i = N - 1 - k) {v : Value} (hv : v = .int .u8 ((dig (n / 16 ^ k % 16) : Nat) : Int)) :
    (w.setCell ⟨g, i, none⟩ v).rowIs g t N (hexRow N (k + 1) n) := by
  refine (h.set i v).congr fun j hj => ?_
  subst hi hv
  by_cases e : j = N - 1 - k
  · subst e
    rw [if_pos rfl]
    unfold hexRow
    rw [if_pos (by omega)]
    congr 3
    have : N - 1 - (N - 1 - k) = k := by omega
    rw [this]
  · rw [if_neg e]
    unfold hexRow
    by_cases h2 : N - k ≤ j
    · rw [if_pos h2, if_pos (by omega)]
    · rw [if_neg h2, if_neg (by omega)]
theorem hex_cell {w : World} {g N k n : Nat} {t : TypeId} (h : w.rowIs g t N (hexRow N k n)) (hk : k ≤ N) (j : Nat) (hj : j < (hexK k n).length) :
    w.cell? ((⟨g, N - k, none⟩ : Addr).add j) = some (.int .u8 ((hexK k n)[j].toNat : Int)) := by
  have e1 : (⟨g, N - k, none⟩ : Addr).add j = ⟨g, N - k + j, none⟩ := by
    unfold Addr.add; split
    · subst_vars; rfl
    · rfl
  rw [hexK_length] at hj
  rw [e1, h.cell (by omega), hexK_get, hx_nat (Nat.mod_lt _ (by decide))]
  unfold hexRow
  rw [if_pos (by omega)]
  congr 4
  have : N - 1 - (N - k + j) = k - 1 - j := by omega
  rw [this]

theorem dig36 (z : Nat) (h : z < 16) (hs) : ((⟨#[48, 49, 50, 51, 52, 53, 54, 55, 56, 57, 97, 98, 99, 100, 101, 102, 103, 104, 105, 106, 107, 108, 109, 110, 111, 112, 113, 114, 115, 116, 117, 118, 119, 120, 121, 122]⟩ : ByteArray)[z]'hs).toNat = dig z := by
  have : ∀ z : Fin 16, ∀ hs, ((⟨#[48, 49, 50, 51, 52, 53, 54, 55, 56, 57, 97, 98, 99, 100, 101, 102, 103, 104, 105, 106, 107, 108, 109, 110, 111, 112, 113, 114, 115, 116, 117, 118, 119, 120, 121, 122]⟩ : ByteArray)[z.val]'hs).toNat = dig z.val := by decide
  exact this ⟨z, h⟩ hs
theorem dig16 (z : Nat) (h : z < 16) (hs) : ((⟨#[48, 49, 50, 51, 52, 53, 54, 55, 56, 57, 97, 98, 99, 100, 101, 102]⟩ : ByteArray)[z]'hs).toNat = dig z := by
  have : ∀ z : Fin 16, ∀ hs, ((⟨#[48, 49, 50, 51, 52, 53, 54, 55, 56, 57, 97, 98, 99, 100, 101, 102]⟩ : ByteArray)[z.val]'hs).toNat = dig z.val := by decide
  exact this ⟨z, h⟩ hs
theorem and15 (u : Nat) (h : u < 18446744073709551616) : bits BinOp.and IntKind.u64 (u : Int) 15 = ((u % 16 : Nat) : Int) := by
  have := bits_and_u64_nat u 15 h (by decide)
  rw [show ((15 : Nat) : Int) = 15 from rfl] at this
  rw [this, Nat.and_two_pow_sub_one_eq_mod u 4]
theorem shr4 (u : Nat) : (u : Int) / 2 ^ (4 : Int).toNat = ((u / 16 : Nat) : Int) := by
  show (u : Int) / 16 = _
  omega
theorem pow_next (n k : Nat) : n / 16 ^ k / 16 = n / 16 ^ (k + 1) := by
  rw [Nat.div_div_eq_div_mul, Nat.pow_succ]
end Go.Proofs.YtkpfmpndaenclaaDoor

