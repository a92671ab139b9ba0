/- Hashes: the plain facts, over integers and lists. No Go in sight. -/
import Derived.Test.YtdnofcpobpoehaaCopy
namespace Go.Proofs.Ytdnofcpobpoehaa
open Go.RowKit

/-- One part of an element is absorbed into one of the two remainders. -/
def hw (c s k : Int) : Int := (c * s + k + 1) % 2147483647
theorem hw_bd (c s k : Int) : 0 ≤ hw c s k ∧ hw c s k < 2147483647 := by
  unfold hw
  exact ⟨Int.emod_nonneg _ (by decide), Int.emod_lt_of_pos _ (by decide)⟩
/-- An element: the remainder, then the quotient. -/
def hab (c s x : Int) : Int := hw c (hw c s (x % 2147483648)) (x / 2147483648)
theorem hab_bd (c s x : Int) : 0 ≤ hab c s x ∧ hab c s x < 2147483647 := hw_bd _ _ _
/-- A list. -/
def hfold (c s : Int) (xs : List Int) : Int := xs.foldl (hab c) s
theorem hfold_step {c s t : Int} {zs rest : List Int} {z : Int} {k : Nat} (h : zs.drop k = z :: rest) (hb : t = hfold c s (zs.drop k)) : t = hfold c (hab c s z) rest := by
  rw [hb, h]; rfl
theorem hfold_append (c s : Int) (xs ys : List Int) : hfold c s (xs ++ ys) = hfold c (hfold c s xs) ys := by
  unfold hfold; rw [List.foldl_append]
theorem hfold_bd (c : Int) : ∀ (xs : List Int) (s : Int), 0 ≤ s ∧ s < 2147483647 → 0 ≤ hfold c s xs ∧ hfold c s xs < 2147483647
  | [], _, h => h
  | x :: xs, s, _ => hfold_bd c xs (hab c s x) (hab_bd _ _ _)
/-- The digest of a list. -/
def hdig (xs : List Int) : Int := 2147483648 * hfold 48271 1 xs + hfold 69621 2 xs
theorem hdig_bd (xs : List Int) : 0 ≤ hdig xs ∧ hdig xs ≤ 4611686018427387903 := by
  unfold hdig
  have h1 := hfold_bd 48271 xs 1 (by decide)
  have h2 := hfold_bd 69621 xs 2 (by decide)
  omega

/-- A digest; a list of digests. -/
def digB (z : Int) : Bool := inB z 0 4611686018427387903
theorem digB_true {z : Int} : digB z = true ↔ 0 ≤ z ∧ z ≤ 4611686018427387903 := inB_true
def digsB (zs : List Int) : Bool := zs.all digB
theorem digsB_true {zs : List Int} : digsB zs = true ↔ ∀ z ∈ zs, 0 ≤ z ∧ z ≤ 4611686018427387903 := by
  unfold digsB; simp only [List.all_eq_true, digB_true]
theorem digs_in (zs : List Int) : allIn zs 0 4611686018427387903 = digsB zs := rfl

/-- What is hashed for a list, and for a label and a list. -/
def hlist (zs : List Int) : Int := hdig ((zs.length : Int) :: zs)
def lbl (s : ByteArray) : List Int := s.data.toList.map fun b => (b.toNat : Int)
theorem lbl_length (s : ByteArray) : (lbl s).length = s.size := by unfold lbl; simp
theorem lbl_mem {s : ByteArray} {z : Int} (h : z ∈ lbl s) : 0 ≤ z ∧ z ≤ 255 := by
  unfold lbl at h
  obtain ⟨b, _, rfl⟩ := List.mem_map.1 h
  have := b.toNat_lt
  omega
def hwith (s : ByteArray) (zs : List Int) : List Int := (s.size : Int) :: (lbl s ++ zs)
theorem hwith_length (s : ByteArray) (zs : List Int) : (hwith s zs).length = 1 + s.size + zs.length := by
  unfold hwith; simp [lbl_length]; omega
def hlab (s : ByteArray) (zs : List Int) : Int := hlist (hwith s zs)

/-- A label that can be hashed with n integers. -/
def labB (s : ByteArray) (n : Int) : Bool := decide ((s.size : Int) ≤ 40) && decide (1 + (s.size : Int) + n ≤ 400)
def hashB (zs : List Int) : Bool := decide (zs.length ≤ 400) && digsB zs
def hashL (s : ByteArray) (zs : List Int) (more : Int) : Bool := labB s (zs.length + more) && digsB zs

/-- What HashInts and HashLabelled answer. -/
def hashV (zs : List Int) : Int := if hashB zs then hlist zs else 0
def hashLV (s : ByteArray) (zs : List Int) : Int := if hashL s zs 0 then hlab s zs else 0
end Go.Proofs.Ytdnofcpobpoehaa

