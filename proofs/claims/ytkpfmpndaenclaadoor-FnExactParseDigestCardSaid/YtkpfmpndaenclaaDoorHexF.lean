/- strconv.ParseUint at base 16 and 62 bits. -/
import Derived.Test.YtkpfmpndaenclaaDoorHexE
namespace Go.Proofs.YtkpfmpndaenclaaDoor
open Go.RowKit

/-- The two sentinels' variables. -/
def ErrAt (w : World) : Prop := (∃ te pe, w.cell? ⟨0, 0, none⟩ = some (.iface te pe)) ∧ ∃ te pe, w.cell? ⟨1, 0, none⟩ = some (.iface te pe)
theorem cell_below {w w' : World} {g : Nat} {v : Value} (h : w.cell? ⟨g, 0, none⟩ = some v) (hb : Below w.heap.size w w') : w'.cell? ⟨g, 0, none⟩ = some v := by
  have hl : g < w.heap.size := by
    unfold World.cell? at h
    cases e : w.heap[g]? with
    | none => simp only [e] at h; cases h
    | some x => exact (Array.getElem?_eq_some_iff.1 e).1
  rw [hb.cell (p := ⟨g, 0, none⟩) hl]; exact h
theorem ErrAt.below {w w' : World} (h : ErrAt w) (hb : Below w.heap.size w w') : ErrAt w' := by
  obtain ⟨⟨te, pe, h1⟩, te', pe', h2⟩ := h
  exact ⟨⟨te, pe, cell_below h1 hb⟩, te', pe', cell_below h2 hb⟩

abbrev errE (n : Int) : Value := .iface 79 (.int .i64 n)
theorem cmpE : (Tryd.prog.info? 79).map (·.comparable) = some true := by kernel_rfl

theorem toError_any (fn s : ByteArray) (base bits n : Int) (hn : n = 1 ∨ n = 2) (w : World) (hlim : s.size ≤ 281474976710656) (h : ErrAt w) :
    Calls Tryd.prog 41 #[.string fn, .string s, .int .i64 base, .int .i64 bits, errE n] w fun e w' => (∃ t v, e = .returned (.iface t v)) ∧ Below w.heap.size w w' := by
  obtain ⟨⟨te, pe, h1⟩, te', pe', h2⟩ := h
  have heq : ∀ a b W, (binOp .eql 45 (errE a) (errE b)).run Tryd.prog W = .ok (.bool (a == b)) W := fun a b W => Lib.run_eql_iface_int W a b Tryd.underlying45 cmpE Tryd.underlying79
  rcases hn with rfl | rfl
  · have q1 := heq 1 2
    have q2 := heq 1 1
    go_enter Tryd.func41, Tryd.ntmps41
    go_wp2_with (go_at_call 61; refine (Tryd.strconv_rangeError fn s _ _ hlim h2 (.inr ⟨_, _, rfl⟩)).mono ?_; rintro e w' ⟨N, rfl, _, _, hb⟩)
    go_ret
    exact ⟨⟨_, _, rfl⟩, hb⟩
  · have q1 := heq 2 2
    go_enter Tryd.func41, Tryd.ntmps41
    go_wp2_with (go_at_call 60; refine (Tryd.strconv_syntaxError fn s _ _ hlim h1 (.inr ⟨_, _, rfl⟩)).mono ?_; rintro e w' ⟨N, rfl, _, _, hb⟩)
    go_ret
    exact ⟨⟨_, _, rfl⟩, hb⟩

theorem lower_any (c : Int) (w : World) :
    Calls Tryd.prog 58 #[.int .u8 c] w fun e w' => e = .returned (.int .u8 (bits .or .u8 c 32)) ∧ w = w' := by
  go_enter Tryd.func58, Tryd.ntmps58
  go_wp2
  go_ret
  exact ⟨rfl, rfl⟩
end Go.Proofs.YtkpfmpndaenclaaDoor

