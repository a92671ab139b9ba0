/- Products of powers, of the program (a deferred closure hands the product out) and of the reference. -/
import Derived.Test.YtdnofcpobpoehaaG3
import Derived.Defers
import Derived.RegionTactic
import Derived.BigRegion
import Derived.Deep.RegionHeld3
namespace Go.Proofs.Ytdnofcpobpoehaa
open Go.RowKit

/-- A variable of one cell that is one's own. -/
def Box (w : World) (b : Nat) (v : Value) : Prop := w.cell? ⟨b, 0, none⟩ = some v ∧ w.frozen? ⟨b, 0, none⟩ = false
theorem box_new (w : World) (v : Value) (t : TypeId) : Box (w.alloc (.cells #[v] t)) w.heap.size v :=
  ⟨by rw [World.cell?_alloc_at _ _ _ _ rfl]; rfl, World.frozen?_alloc_at _ _ _ _ rfl⟩
theorem Box.lt {w : World} {b : Nat} {v : Value} (h : Box w b v) : b < w.heap.size := World.block_lt_of_cell? w _ h.1
theorem Box.below {w w' : World} {b : Nat} {v : Value} (h : Box w b v) (hb : Below w.heap.size w w') : Box w' b v :=
  ⟨by rw [hb.cell (p := ⟨b, 0, none⟩) h.lt]; exact h.1, by rw [hb.frozen (p := ⟨b, 0, none⟩) h.lt]; exact h.2⟩
theorem Box.set {w : World} {b : Nat} {v : Value} (h : Box w b v) (x : Value) : Box (w.setCell ⟨b, 0, none⟩ x) b x :=
  ⟨World.cell?_setCell_same _ _ _ h.1, by rw [World.frozen?_setCell]; exact h.2⟩
theorem Box.other {w : World} {b : Nat} {v : Value} (h : Box w b v) (a : Addr) (x : Value) (hne : a.block ≠ b) : Box (w.setCell a x) b v :=
  ⟨by rw [World.cell?_setCell_other _ _ _ _ (fun e => hne (by rw [e]))]; exact h.1, by rw [World.frozen?_setCell]; exact h.2⟩
theorem GR.other {w : World} {b : Nat} {P Q G : Int} (h : GR w b P Q G) (a : Addr) (x : Value) (hne : a.block ≠ b) : GR (w.setCell a x) b P Q G := by
  obtain ⟨c0, c1, c2⟩ := h
  refine ⟨?_, ?_, ?_⟩
  · rw [World.cell?_setCell_other _ _ _ _ (fun e => hne (by rw [e]))]; exact c0
  · rw [World.cell?_setCell_other _ _ _ _ (fun e => hne (by rw [e]))]; exact c1
  · rw [World.cell?_setCell_other _ _ _ _ (fun e => hne (by rw [e]))]; exact c2

/-- The elements and the exponents of two lists; the product of the powers from 'acc' on. -/
def powsOk (P Q : Int) : List Int → List Int → Bool
  | x :: xs, e :: es => elB P Q x && exB Q e && powsOk P Q xs es
  | _, _ => true
def powsFrom (P acc : Int) : List Int → List Int → Int
  | x :: xs, e :: es => powsFrom P (acc * Num.pow x e P % P) xs es
  | _, _ => acc
theorem pows_step {P Q acc z e t : Int} {u : Bool} {zs es : List Int} {k : Nat} (h : zs.drop k = z :: zs.drop (k + 1)) (h' : es.drop k = e :: es.drop (k + 1))
    (hu : u = powsOk P Q (zs.drop k) (es.drop k)) (ht : t = powsFrom P acc (zs.drop k) (es.drop k)) :
    (elB P Q z = false → u = false) ∧ (exB Q e = false → u = false) ∧ (elB P Q z = true → exB Q e = true → u = powsOk P Q (zs.drop (k + 1)) (es.drop (k + 1))) ∧ t = powsFrom P (acc * Num.pow z e P % P) (zs.drop (k + 1)) (es.drop (k + 1)) := by
  rw [h, h'] at hu ht
  refine ⟨fun h1 => ?_, fun h1 => ?_, fun h1 h2 => ?_, ht⟩
  · rw [hu]; simp [powsOk, h1]
  · rw [hu]; simp [powsOk, h1]
  · rw [hu]; simp [powsOk, h1, h2]
theorem powsOk_all (P Q : Int) : ∀ (zs es : List Int), zs.length = es.length → powsOk P Q zs es = (allEl P Q zs && allIn es 0 (Q - 1))
  | [], [], _ => rfl
  | x :: xs, e :: es, h => by
    have ih := powsOk_all P Q xs es (by simpa using h)
    simp only [powsOk, allEl, allIn, List.all_cons, exB] at ih ⊢
    rw [ih]
    cases elB P Q x <;> cases inB e 0 (Q - 1) <;> cases (xs.all fun z => elB P Q z) <;> rfl

theorem handOut_any (w : World) (a b c : Nat) (r : Value) (s : Int) (k : Bool) (hk : Box w a (.bool k)) (hp : Box w b (.int .i64 s)) (hr : Box w c r) (u : FrameMode) :
    CallsD Try.prog 171 #[.pointer (some ⟨a, 0, none⟩), .pointer (some ⟨b, 0, none⟩), .pointer (some ⟨c, 0, none⟩)] u w fun e u' w' => u' = u ∧ (e = .returned (.tuple #[]) ∧ w' = if k then w.setCell ⟨c, 0, none⟩ (.int .i64 s) else w) := by
  obtain ⟨k0, k1⟩ := hk
  obtain ⟨p0, p1⟩ := hp
  obtain ⟨r0, r1⟩ := hr
  cases k
  · go_enter_d Try.func171, Try.ntmps171
    go_wp2
    go_end0
    exact ⟨rfl, rfl⟩
  · go_enter_d Try.func171, Try.ntmps171
    go_wp2
    go_end0
    exact ⟨rfl, rfl⟩

/-- The door: the deferred closure hands the product out, then the results are read. -/
theorem door {R : Ending → World → Prop} (tmps : Array Value) (W : World) (b : Nat) (r s : Int) (k : Bool) (h1 : Box W (b + 1) (.int .i64 r)) (h2 : Box W (b + 1 + 1) (.bool k)) (h3 : Box W (b + 1 + 1 + 1) (.int .i64 s))
    (t6 : tmps.getD 6 undef = .pointer (some ⟨b + 1, 0, none⟩)) (t7 : tmps.getD 7 undef = .pointer (some ⟨b + 1 + 1, 0, none⟩))
    (hR : R (.returned (.tuple #[.int .i64 (if k then s else r), .bool k])) (if k then W.setCell ⟨b + 1, 0, none⟩ (.int .i64 s) else W)) :
    bodyPostD Try.prog Try.f150 R Exit.ret { tmps := tmps, defers := [{ target := Target.fn (Fn.func 171) #[.pointer (some ⟨b + 1 + 1, 0, none⟩), .pointer (some ⟨b + 1 + 1 + 1, 0, none⟩), .pointer (some ⟨b + 1, 0, none⟩)], args := #[] }] } W := by
  refine leaves_cons (f := 171) (args := #[.pointer (some ⟨b + 1 + 1, 0, none⟩), .pointer (some ⟨b + 1 + 1 + 1, 0, none⟩), .pointer (some ⟨b + 1, 0, none⟩)]) (by simp) (by simp [go_sem]) ?_
  refine (handOut_any W _ _ _ _ s k h2 h3 h1 _).mono ?_
  rintro e u' w'' ⟨rfl, rfl, rfl⟩
  have t6' : tmps[6]?.getD undef = .pointer (some ⟨b + 1, 0, none⟩) := by simpa using t6
  have t7' : tmps[7]?.getD undef = .pointer (some ⟨b + 1 + 1, 0, none⟩) := by simpa using t7
  cases k
  · obtain ⟨a1, a2⟩ := h1
    obtain ⟨b1, b2⟩ := h2
    simp only [Bool.false_eq_true, if_false] at hR ⊢
    simp [Leaves, settle, results, Try.results150, go_sem, t6', t7', a1, b1]
    exact hR
  · have g1 := (h1.set (.int .i64 s)).1
    have g2 := (h2.other ⟨b + 1, 0, none⟩ (.int .i64 s) (by simp)).1
    simp only [if_true] at hR ⊢
    simp [Leaves, settle, results, Try.results150, go_sem, t6', t7', g1, g2]
    exact hR

def powsVal (P Q : Int) (zs es : List Int) : Int := if powsOk P Q zs es then powsFrom P 1 zs es else 0

end Go.Proofs.Ytdnofcpobpoehaa

