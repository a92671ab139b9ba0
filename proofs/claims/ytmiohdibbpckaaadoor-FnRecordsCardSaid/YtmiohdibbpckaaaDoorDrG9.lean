/- What the laws of layer 2 draw: lists of elements and of exponents. -/
import Derived.Test.YtmiohdibbpckaaaDoorDrG5
import Derived.Test.YtmiohdibbpckaaaDoorHshC
import Derived.Deep.RegionHeld3
namespace Go.Proofs.YtmiohdibbpckaaaDoor
open Go.RowKit

/-- A drawn list, in a row of the call's own. -/
def ElsPost (w : World) (g k most : Nat) (e : Ending) (w' : World) : Prop :=
  ∃ (ad : Option Addr) (n cap : Nat) (zs : List Int), e = .returned (.slice ad n cap) ∧ w'.ownsRow (w.heap.size + 1) 3 1 (.slice ad n cap) n (zs.map (Value.int .i64)) ∧ n ≤ most ∧ Cur w' g k ∧ w.grownBy w' (some g)

/-- A drawn list of m numbers. -/
def CoinsPost (w : World) (g k m : Nat) (e : Ending) (w' : World) : Prop :=
  ∃ (ad : Option Addr) (cap : Nat) (zs : List Int), e = .returned (.slice ad m cap) ∧ w'.ownsRow (w.heap.size + 1) 3 1 (.slice ad m cap) m (zs.map (Value.int .i64)) ∧ Cur w' g k ∧ w.grownBy w' (some g)

theorem GR.above {w w' : World} {b B : Nat} {P Q G : Int} {r : Option Nat} (h : GR w b P Q G) (hg : w.grownBy w' r) (hB : b < B) (hr : ∀ q, r = some q → B ≤ q) : GR w' b P Q G := by
  obtain ⟨c0, c1, c2⟩ := h
  have hne : some b ≠ r := by rintro rfl; have := hr b rfl; omega
  exact ⟨hg.cell (a := ⟨b, 0, none⟩) c0 hne, hg.cell (a := ⟨b, 1, none⟩) c1 hne, hg.cell (a := ⟨b, 2, none⟩) c2 hne⟩

end Go.Proofs.YtmiohdibbpckaaaDoor

/- What the laws of layer 2 draw: exponents that may be bent. -/
namespace Go.Proofs.YtmiohdibbpckaaaDoor
open Go.RowKit

/-- A drawn list that is only read. -/
def ReadPost (w : World) (g k most : Nat) (e : Ending) (w' : World) : Prop :=
  ∃ (ad : Option Addr) (n cap : Nat) (zs : List Int), e = .returned (.slice ad n cap) ∧ IsInts w' ad zs ∧ zs.length = n ∧ n ≤ most ∧ (∀ a, ad = some a → w.heap.size ≤ a.block) ∧ Cur w' g k ∧ w.grownBy w' (some g)

theorem lit_grown {w w' : World} {g : Nat} (zs : List Int) (t : TypeId) (hg : (w.alloc (.cells (zs.map (Value.int .i64)).toArray t)).grownBy w' (some g)) (hl : g < w.heap.size) : IsInts w' (some ⟨w.heap.size, 0, none⟩) zs :=
  (ints_spot w _ rfl zs t).grown hg (by rintro _ ⟨⟩; simp; omega)

theorem own_up {w : World} {base n cap size : Nat} {ad : Option Addr} {e : TypeId} {xs : List Value} (h : w.ownsRow (base + 1) e size (.slice ad n cap) n xs) : ∀ a, ad = some a → base ≤ a.block := fun a ha => by
  have := (h.lt a.block (by subst ha; rfl)).1
  omega
theorem ints_set {w : World} {ad : Option Addr} {zs : List Int} (h : IsInts w ad zs) (a : Addr) (v : Value) (hne : ∀ x, ad = some x → x.block ≠ a.block) : IsInts (w.setCell a v) ad zs :=
  h.grown (grown_cell w a v) (fun x hx => by simpa using hne x hx)

theorem tail_ints {w : World} {b : Nat} {zs : List Int} (h : IsInts w (some ⟨b, 0, none⟩) zs) : IsInts w (some ⟨b, 1, none⟩) (zs.drop 1) := by
  rcases h with rfl | ⟨b', off, h1, hl, hc⟩
  · exact .inl rfl
  · obtain ⟨rfl, rfl⟩ : b = b' ∧ 0 = off := by simpa using h1
    refine .inr ⟨b, 1, rfl, hl, fun i hi => ?_⟩
    have := hc (i + 1) (by simp at hi; omega)
    rw [Nat.zero_add, Nat.add_comm i 1] at this
    rw [this]
    simp [List.getD, Nat.add_comm]

end Go.Proofs.YtmiohdibbpckaaaDoor

/- What the laws of layer 2 draw: DrawProductOfPowers, DrawLogOf. -/
namespace Go.Proofs.YtmiohdibbpckaaaDoor
open Go.RowKit

theorem results_cell_tmp2 {fn : Func} {p u v : Tmp} {ty : TypeId} (h : fn.results = #[.cell p ty, .tmp u, .tmp v]) (tmps : Array Value) (P : Program) (w : World) :
    (results fn tmps).run P w =
      ((asAddr (tmps.getD p undef)).run P w).andThen fun a w₁ => ((loadVar ty a).run P w₁).andThen fun x w₂ => .ok (.tuple #[x, tmps.getD u undef, tmps.getD v undef]) w₂ := by
  simp only [results, h]
  simp [Sem.run_bind, Result.andThen]
theorem results_cell_tmp3 {fn : Func} {p u v y : Tmp} {ty : TypeId} (h : fn.results = #[.cell p ty, .tmp u, .tmp v, .tmp y]) (tmps : Array Value) (P : Program) (w : World) :
    (results fn tmps).run P w =
      ((asAddr (tmps.getD p undef)).run P w).andThen fun a w₁ => ((loadVar ty a).run P w₁).andThen fun x w₂ => .ok (.tuple #[x, tmps.getD u undef, tmps.getD v undef, tmps.getD y undef]) w₂ := by
  simp only [results, h]
  simp [Sem.run_bind, Result.andThen]

def DrawPop (w : World) (e : Ending) (w' : World) : Prop :=
  ∃ (P Q G : Int) (ad : Option Addr) (n cap : Nat) (zs : List Int) (ad' : Option Addr) (n' cap' : Nat) (es : List Int), e = .returned (.tuple #[gv P Q G, .slice ad n cap, .slice ad' n' cap']) ∧ DB P Q G ∧
    (IsInts w' ad zs ∧ zs.length = n ∧ n ≤ 25) ∧ (IsInts w' ad' es ∧ es.length = n' ∧ n' ≤ 31) ∧ Below w.heap.size w w'
theorem ints_set3 {w : World} {ad : Option Addr} {zs : List Int} {b : Nat} (h : IsInts w ad zs) (x y z : Value) (hne : ∀ a, ad = some a → b + 1 ≤ a.block) : IsInts (((w.setCell ⟨b, 0, none⟩ x).setCell ⟨b, 1, none⟩ y).setCell ⟨b, 2, none⟩ z) ad zs := by
  have hn : ∀ a, ad = some a → a.block ≠ b := fun a ha => by have := hne a ha; omega
  exact ints_set (ints_set (ints_set h _ _ hn) _ _ hn) _ _ hn

end Go.Proofs.YtmiohdibbpckaaaDoor

