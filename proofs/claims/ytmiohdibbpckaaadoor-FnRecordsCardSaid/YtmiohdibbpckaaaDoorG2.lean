/- Contracts of layer 2 over lists: elements, exponents, products. -/
import Derived.Test.YtmiohdibbpckaaaDoorG1
import Derived.Test.YtmiohdibbpckaaaDoorInvAll
import Derived.Test.YtmiohdibbpckaaaDoorSum
namespace Go.Proofs.YtmiohdibbpckaaaDoor
open Go.RowKit

def allEl (P Q : Int) (zs : List Int) : Bool := zs.all fun z => elB P Q z

/-- A list of elements that is not too long. -/
def elsB (P Q : Int) (zs : List Int) : Bool := decide (zs.length ≤ 24) && allEl P Q zs

/-- An exponent. -/
def exB (Q e : Int) : Bool := inB e 0 (Q - 1)
theorem exB_true {Q e : Int} : exB Q e = true ↔ 0 ≤ e ∧ e < Q := by unfold exB; rw [inB_true]; omega
/-- A callee that leaves the world as it was, met in a region whose order is open. -/
theorem quietly {P : Program} {f : FuncId} {args : Array Value} {w : World} {n : Nat} {v : Value}
    (h : Calls P f args (w.drewN n) fun e w' => e = .returned v ∧ w.drewN n = w') : Calls P f args (w.drewN n) fun e w'' => e = .returned v ∧ ∃ m, w'' = w.drewN m :=
  h.mono fun _ _ ⟨he, hm⟩ => ⟨he, n, hm.symm⟩

theorem gExp_any (P Q G x e : Int) (h1 : 0 ≤ x) (h2 : x ≤ 2000000000) (h3 : 0 ≤ e) (h4 : e < Q) (h5 : 2 ≤ P) (h6 : P ≤ 2000000000) (h7 : 2 ≤ Q) (h8 : Q ≤ 2000000000) (w : World) :
    Calls Tryd.prog 111 #[gv P Q G, .int .i64 x, .int .i64 e] w fun e' w' => e' = .returned (.int .i64 (Num.pow x e P)) ∧ Below w.heap.size w w' := by
  go_enter Tryd.func111, Tryd.ntmps111
  go_wp2_with fail
  go_quiet (first | (go_at_call 124; refine quietly (nMod_nn _ _ h3 h4 h7 h8 _)) | (go_at_call 91; refine quietly (nPower_any _ _ _ h1 h2 h3 (by omega) h5 h6 _)))
  go_wp2
  go_ret
  exact ⟨rfl, below_drewN (ba _ _) _⟩

/-! ### Products -/
def mulFrom (m acc : Int) (zs : List Int) : Int := zs.foldl (fun s x => s * x % m) acc
theorem mulFrom_step {m acc t : Int} {zs rest : List Int} {z : Int} {k : Nat} (h : zs.drop k = z :: rest) (hb : t = mulFrom m acc (zs.drop k)) : t = mulFrom m (acc * z % m) rest := by
  rw [hb, h]; rfl
theorem els_range {P Q : Int} {zs : List Int} (h : allEl P Q zs = true) : ∀ z ∈ zs, (1 ≤ z ∧ z < P) ∧ Num.pow z Q P = 1 := by
  unfold allEl at h
  rw [List.all_eq_true] at h
  exact fun z hz => elB_true.1 (h z hz)
theorem prod_bd {a z : Int} (h0 : 0 ≤ a) (h1 : a ≤ 2000000000) (h2 : 0 ≤ z) (h3 : z ≤ 2000000000) : 0 ≤ a * z ∧ a * z ≤ 4000000000000000000 := by
  obtain ⟨a, rfl⟩ := Int.eq_ofNat_of_zero_le h0
  obtain ⟨z, rfl⟩ := Int.eq_ofNat_of_zero_le h2
  have := Num.mul_bound (a := a) (b := z) (by omega) (by omega)
  rw [← Int.natCast_mul]; omega

/-- MulOf's condition and what it answers. -/
def mulB (P Q G : Int) (zs : List Int) : Bool := goodB P Q G && elsB P Q zs
def mulV (P Q G : Int) (zs : List Int) : Int := if mulB P Q G zs then mulFrom P 1 zs else 0

end Go.Proofs.YtmiohdibbpckaaaDoor

