/- ElGamal: all ciphertexts of a list combined, and a ciphertext combined with itself e times. -/
import Derived.Test.YtdnofcpobpoehaaElB
import Derived.Test.YtdnofcpobpoehaaGrG
import Derived.Test.YtdnofcpobpoehaaG4
namespace Go.Proofs.Ytdnofcpobpoehaa
open Go.RowKit


theorem pwp_ex {r q m : Nat} (hr : r < m) (hq : q < m) (h3 : m ≤ 2000000000) : ∃ x : Nat, (r : Int) * q % m = (x : Int) ∧ x < m ∧ r * q % m = x := by
  obtain ⟨_, _, h1, _, h2, _⟩ := pow_facts (r := r) (q := q) (m := m) (by omega) (by omega) (by omega)
  exact ⟨_, h1, h2, rfl⟩

end Go.Proofs.Ytdnofcpobpoehaa

/- ElGamal: the program's functions on single ciphertexts. -/
namespace Go.Proofs.Ytdnofcpobpoehaa
open Go.RowKit

/-- EncryptExp's condition and what it answers. -/
def eeB (P Q G key v r : Int) : Bool := keyB P Q G v && encB P Q G key (Num.pow G v P) r
def eeA (P Q G key v r : Int) : Int := if keyB P Q G v then encA P Q G key (Num.pow G v P) r else 0
def eeM (P Q G key v r : Int) : Int := if keyB P Q G v then encM P Q G key (Num.pow G v P) r else 0
theorem ee_on {P Q G key v r : Int} (h : keyB P Q G v = true) : eeB P Q G key v r = encB P Q G key (Num.pow G v P) r ∧ eeA P Q G key v r = encA P Q G key (Num.pow G v P) r ∧ eeM P Q G key v r = encM P Q G key (Num.pow G v P) r := by simp [eeB, eeA, eeM, h]
theorem ee_off {P Q G key v r : Int} (h : keyB P Q G v = false) : eeB P Q G key v r = false ∧ eeA P Q G key v r = 0 ∧ eeM P Q G key v r = 0 := by simp [eeB, eeA, eeM, h]
theorem key_val {P Q G s : Int} (h : keyB P Q G s = true) : keyV P Q G s = Num.pow G s P := by simp [keyV, h]
theorem key_off {P Q G s : Int} (h : keyB P Q G s = false) : keyV P Q G s = 0 := by simp [keyV, h]

/-- Reencrypt's answers. -/
def rrA (P Q G key a b r : Int) : Int := if reB P Q G key a b r then reA P G a r else 0
def rrM (P Q G key a b r : Int) : Int := if reB P Q G key a b r then reM P key b r else 0
theorem rr_off {P Q G key a b r : Int} (h : reB P Q G key a b r = false) : rrA P Q G key a b r = 0 ∧ rrM P Q G key a b r = 0 := by simp [rrA, rrM, h]
theorem rr_on {P Q G key a b r : Int} (h : reB P Q G key a b r = true) : rrA P Q G key a b r = reA P G a r ∧ rrM P Q G key a b r = reM P key b r := by simp [rrA, rrM, h]
theorem enc_rng {P Q G key r : Int} (h : encB P Q G key 1 r = true) : (0 ≤ encA P Q G key 1 r ∧ encA P Q G key 1 r < P) ∧ 0 ≤ encM P Q G key 1 r ∧ encM P Q G key 1 r < P := by
  have h' := encB_true.1 h
  have hm := good_mo h'.1.1.1
  rw [encM_one h, (enc_on h).1]
  exact ⟨pow_lt G r P hm.1.1, pow_lt key r P hm.1.1⟩

end Go.Proofs.Ytdnofcpobpoehaa

