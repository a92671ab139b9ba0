/- ProductOfPowers and ExpOf of the program and of the reference. -/
import Derived.Test.YtblclghbabhdlaaG6b
import Derived.Deep.RegionHeld
namespace Go.Proofs.Ytblclghbabhdlaa
open Go.RowKit

/-- ProductOfPowers' condition and what it answers. -/
def popB (P Q G : Int) (zs es : List Int) : Bool := goodB P Q G && decide (es.length = zs.length) && decide (zs.length ≤ 24) && powsOk P Q zs es
def popV (P Q G : Int) (zs es : List Int) : Int := if popB P Q G zs es then powsFrom P 1 zs es else 0
theorem pop_off {P Q G : Int} {zs es : List Int} (h : popB P Q G zs es = false) : popV P Q G zs es = 0 := by simp [popV, h]

/-- ExpOf's condition and what it answers. -/
def expB (P Q G x e : Int) : Bool := goodB P Q G && (elB P Q x && exB Q e)
def expV (P Q G x e : Int) : Int := if expB P Q G x e then Num.pow x e P else 0
theorem pop_one (P Q G x e : Int) : popB P Q G [x] [e] = expB P Q G x e ∧ popV P Q G [x] [e] = expV P Q G x e := by
  have h1 : popB P Q G [x] [e] = expB P Q G x e := by simp [popB, expB, powsOk]
  refine ⟨h1, ?_⟩
  unfold popV expV
  rw [h1]
  cases h : expB P Q G x e
  · rfl
  · simp only [if_true, powsFrom]
    unfold expB at h
    rw [Bool.and_eq_true] at h
    obtain ⟨⟨p0, p1⟩, _⟩ := good_mo h.1
    have := pow_lt x e P p0
    rw [Int.one_mul]
    exact Int.emod_eq_of_lt this.1 this.2

theorem ints_spot7 (w : World) (b : Nat) (hb : w.heap.size = b) (zs : List Int) (t : TypeId) : IsInts (w.alloc (.cells (zs.map (Value.int .i64)).toArray t)) (some ⟨b, 0, none⟩) zs := by
  subst hb; exact ints_lit w zs t

theorem exps_iff {Q : Int} {es : List Int} (h : allIn es 0 (Q - 1) = true) : ∀ e ∈ es, 0 ≤ e ∧ e < Q := by
  unfold allIn at h
  rw [List.all_eq_true] at h
  exact fun e he => by have := inB_true.1 (h e he); omega
theorem powsFrom_step {P acc t : Int} {z e : Int} {zs es : List Int} {k : Nat} (h : zs.drop k = z :: zs.drop (k + 1)) (h' : es.drop k = e :: es.drop (k + 1)) (ht : t = powsFrom P acc (zs.drop k) (es.drop k)) :
    t = powsFrom P (acc * Num.pow z e P % P) (zs.drop (k + 1)) (es.drop (k + 1)) := by
  rw [h, h'] at ht; exact ht

theorem gExp_ex (P Q G x e : Int) (h1 : 0 ≤ x) (h2 : x ≤ 2000000000) (h3 : 0 ≤ e) (h4 : e < Q) (h5 : 2 ≤ P) (h6 : P ≤ 2000000000) (h7 : 2 ≤ Q) (h8 : Q ≤ 2000000000) (w : World) :
    Calls Try.prog 64 #[gv P Q G, .int .i64 x, .int .i64 e] w fun e' w' => e' = .returned (.int .i64 (Num.pow x e P)) ∧ Below w.heap.size w w' := gExp_any P Q G x e h1 h2 h3 h4 h5 h6 h7 h8 w

theorem pows_all {P Q G : Int} {zs es : List Int} (hg : goodB P Q G = true) (h24 : zs.length ≤ 24) (hl : es.length = zs.length) : popB P Q G zs es = (allEl P Q zs && allIn es 0 (Q - 1)) := by
  unfold popB
  rw [hg, decide_eq_true hl, decide_eq_true h24, powsOk_all P Q zs es hl.symm]; rfl

end Go.Proofs.Ytblclghbabhdlaa

