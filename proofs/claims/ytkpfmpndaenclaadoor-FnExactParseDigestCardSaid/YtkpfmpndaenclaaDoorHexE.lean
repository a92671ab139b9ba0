/- Hexadecimal texts that are read: plain facts; strconv.ParseUint at base 16 and 62 bits. -/
import Derived.Test.YtkpfmpndaenclaaDoorHexD
import Derived.Test.YtkpfmpndaenclaaDoorShf
import Derived.Test.YtkpfmpndaenclaaDoorHshC
import Derived.Lib.IfaceEq
import Derived.Lib.ConvBytes
import Derived.Laws.Closers25
import Derived.Laws.Closers25b
import Derived.Laws.Strings3
import Derived.Lib.Strings
import Derived.Lib.Walk
import Derived.Lib.AtoiAllMem
namespace Go.Proofs.YtkpfmpndaenclaaDoor
open Go.RowKit

def dval (c : UInt8) : Nat := if c.toNat ≤ 57 then c.toNat - 48 else c.toNat - 87
theorem dval_hx {m : Nat} (h : m < 16) : dval (hx m) = m := by
  unfold dval
  rw [hx_nat h]
  unfold dig
  split <;> split <;> omega
theorem hx_cases {m : Nat} (h : m < 16) : (48 ≤ (hx m).toNat ∧ (hx m).toNat ≤ 57 ∧ m = (hx m).toNat - 48) ∨ (97 ≤ (hx m).toNat ∧ (hx m).toNat ≤ 102 ∧ m = (hx m).toNat - 87) := by
  rw [hx_nat h]
  unfold dig
  split <;> omega
def valL : List UInt8 → Nat
  | [] => 0
  | c :: l => dval c * 16 ^ l.length + valL l
theorem valL_hexK (k n : Nat) : valL (hexK k n) = n % 16 ^ k := by
  induction k with
  | zero => simp [hexK, valL, Nat.mod_one]
  | succ k ih =>
    show dval (hx (n / 16 ^ k % 16)) * 16 ^ (hexK k n).length + valL (hexK k n) = _
    rw [hexK_length, ih, dval_hx (Nat.mod_lt _ (by decide)), Nat.pow_succ, Nat.mod_mul, Nat.mul_comm, Nat.add_comm]
theorem hexK_snoc (k m d : Nat) (h : d < 16) : hexK (k + 1) (16 * m + d) = hexK k m ++ [hx d] := by
  induction k with
  | zero =>
    show [hx ((16 * m + d) / 16 ^ 0 % 16)] = [hx d]
    rw [Nat.pow_zero, Nat.div_one, show (16 * m + d) % 16 = d from by omega]
  | succ k ih =>
    show hx ((16 * m + d) / 16 ^ (k + 1) % 16) :: hexK (k + 1) (16 * m + d) = hx (m / 16 ^ k % 16) :: hexK k m ++ [hx d]
    rw [ih]
    have : (16 * m + d) / 16 ^ (k + 1) = m / 16 ^ k := by
      rw [Nat.pow_succ, Nat.mul_comm (16 ^ k) 16, ← Nat.div_div_eq_div_mul, show (16 * m + d) / 16 = m from by omega]
    rw [this]; rfl

/-- What a text reads as. -/
def pdN (s : ByteArray) : Nat := valL s.data.toList
def pdB (s : ByteArray) : Bool := decide (pdN s < 4611686018427387904) && decide (hexK 16 (pdN s) = s.data.toList)
def pdV (s : ByteArray) : Int := if pdB s then (pdN s : Int) else 0
theorem hexS_list {s : ByteArray} {n : Nat} (h : s.data.toList = hexK 16 n) : s = hexS 16 n := by
  unfold hexS
  rw [← h]
theorem pd_yes {s : ByteArray} {n : Nat} (h : n < 4611686018427387904) (hs : s.data.toList = hexK 16 n) : pdB s = true ∧ pdN s = n ∧ pdV s = n := by
  have e : pdN s = n := by
    unfold pdN
    rw [hs, valL_hexK, Nat.mod_eq_of_lt (Nat.lt_trans h (by decide))]
  have b : pdB s = true := by
    unfold pdB
    rw [e, hs]
    simp [h]
  exact ⟨b, e, by unfold pdV; rw [b, e]; rfl⟩
theorem pd_no {s : ByteArray} (h : ∀ n, n < 4611686018427387904 → s.data.toList ≠ hexK 16 n) : pdB s = false ∧ pdV s = 0 := by
  have b : pdB s = false := by
    cases e : pdB s with
    | false => rfl
    | true =>
      unfold pdB at e
      rw [Bool.and_eq_true, decide_eq_true_eq, decide_eq_true_eq] at e
      exact absurd e.2.symm (h _ e.1)
  exact ⟨b, by unfold pdV; rw [b]; rfl⟩
theorem pd_true {s : ByteArray} (h : pdB s = true) : pdN s < 4611686018427387904 ∧ s.data.toList = hexK 16 (pdN s) ∧ pdV s = pdN s := by
  have h0 := h
  unfold pdB at h
  rw [Bool.and_eq_true, decide_eq_true_eq, decide_eq_true_eq] at h
  exact ⟨h.1, h.2.symm, by unfold pdV; rw [h0]; rfl⟩

/-- What the first k digits of a text of n come to. -/
def Upto (bs : List UInt8) (a : Int) (k : Nat) : Prop := ∀ n, n < 4611686018427387904 → bs = hexK 16 n → a = ((n / 16 ^ (16 - k) : Nat) : Int)
theorem upto_zero (bs : List UInt8) : Upto bs 0 0 := fun n hn _ => by
  rw [Nat.div_eq_of_lt (Nat.lt_trans hn (by decide))]; rfl
theorem upto_char {bs : List UInt8} {a : Int} {k : Nat} {c : UInt8} (h : Upto bs a k) (hk : k < bs.length) (hc : bs[k] = c) {n : Nat} (hn : n < 4611686018427387904) (e : bs = hexK 16 n) :
    ∃ m, m < 16 ∧ c = hx m ∧ a * 16 + m = ((n / 16 ^ (16 - (k + 1)) : Nat) : Int) ∧ n / 16 ^ (16 - (k + 1)) ≤ n := by
  have hl : k < 16 := by rw [e, hexK_length] at hk; exact hk
  refine ⟨n / 16 ^ (16 - (k + 1)) % 16, Nat.mod_lt _ (by decide), ?_, ?_, Nat.div_le_self _ _⟩
  · subst e
    rw [← hc, hexK_get, show 16 - 1 - k = 16 - (k + 1) from by omega]
  · rw [h n hn e]
    have e2 : 16 - k = 16 - (k + 1) + 1 := by omega
    rw [e2, ← pow_next]
    omega
/-- The next digit. -/
theorem upto_next {bs : List UInt8} {a : Int} {k : Nat} {c : UInt8} (h : Upto bs a k) (hk : k < bs.length) (hc : bs[k] = c) {d : Int} (hd : (c.toNat ≤ 57 ∧ d = (c.toNat : Int) - 48) ∨ (97 ≤ c.toNat ∧ d = (c.toNat : Int) - 87) ∨ 102 < c.toNat ∨ (c.toNat < 97 ∧ 57 < c.toNat) ∨ c.toNat < 48) :
    Upto bs (a * 16 + d) (k + 1) := fun n hn e => by
  obtain ⟨m, hm, rfl, h1, _⟩ := upto_char h hk hc hn e
  rcases hx_cases hm with ⟨g1, g2, g3⟩ | ⟨g1, g2, g3⟩ <;> omega
/-- No text of a digest goes on like this. -/
theorem upto_none {bs : List UInt8} {a : Int} {k : Nat} {c : UInt8} (h : Upto bs a k) (hk : k < bs.length) (hc : bs[k] = c)
    (hb : (48 ≤ c.toNat ∧ c.toNat ≤ 57 ∧ 4611686018427387904 ≤ a * 16 + ((c.toNat : Int) - 48)) ∨ (97 ≤ c.toNat ∧ c.toNat ≤ 102 ∧ 4611686018427387904 ≤ a * 16 + ((c.toNat : Int) - 87)) ∨ c.toNat < 48 ∨ (57 < c.toNat ∧ c.toNat < 97) ∨ 102 < c.toNat) :
    ∀ n, n < 4611686018427387904 → bs ≠ hexK 16 n := fun n hn e => by
  obtain ⟨m, hm, rfl, h1, h2⟩ := upto_char h hk hc hn e
  rcases hx_cases hm with ⟨g1, g2, g3⟩ | ⟨g1, g2, g3⟩ <;> omega
theorem upto_end {bs : List UInt8} {a : Int} {k : Nat} (h : Upto bs a k) (hk : k = bs.length) {n : Nat} (hn : n < 4611686018427387904) (e : bs = hexK 16 n) : a = n := by
  have := h n hn e
  rw [e, hexK_length] at hk
  rw [this, hk]; simp
end Go.Proofs.YtkpfmpndaenclaaDoor

