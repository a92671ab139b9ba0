/- HashLabelled of the program and of the reference. -/
import Derived.Test.YtafoenoilcgjdaaHshA
import Derived.Test.YtafoenoilcgjdaaInvAll
import Derived.Laws.AppendOwnNone
import Derived.Maps.AppendAt
import Derived.Lib.ConvBytes
namespace Go.Proofs.Ytafoenoilcgjdaa
open Go.RowKit

/-! ### The plain facts -/
def hst (c i : Int) (s : ByteArray) (n : Int) : Int := hfold c (hab c (hab c i (1 + (s.size : Int) + n)) s.size) (lbl s)
theorem hb_st (i j : Int) (s : ByteArray) (n : Int) : HB2 (hst 48271 i s n) (hst 69621 j s n) := hb_fold _ _ _ _ _ _ (hb_ab _ _ _ _ _ _)
theorem hlab_eq (s : ByteArray) (zs : List Int) : hlab s zs = 2147483648 * hfold 48271 (hst 48271 1 s zs.length) zs + hfold 69621 (hst 69621 2 s zs.length) zs := by
  unfold hlab hlist
  have e : ((hwith s zs).length : Int) = 1 + (s.size : Int) + zs.length := by rw [hwith_length]; omega
  rw [e]
  have g : ∀ c i n : Int, hfold c i (n :: hwith s zs) = hfold c (hfold c (hab c (hab c i n) s.size) (lbl s)) zs := fun c i n => by
    rw [← hfold_append]; rfl
  unfold hdig hst
  rw [g, g]
theorem lbl_take {s : ByteArray} {k : Nat} (h : k < s.size) : (lbl s).take (k + 1) = (lbl s).take k ++ [(s[k].toNat : Int)] := by
  have hl : k < (lbl s).length := by rw [lbl_length]; exact h
  have e : (lbl s)[k] = (s[k].toNat : Int) := by
    simp only [lbl, List.getElem_map]
    rfl
  rw [List.take_succ_eq_append_getElem hl, e]
theorem labB_true {s : ByteArray} {n : Int} : labB s n = true ↔ (s.size : Int) ≤ 40 ∧ 1 + (s.size : Int) + n ≤ 400 := by simp [labB]
theorem hwith_digs {s : ByteArray} {zs : List Int} (h : ∀ z ∈ zs, 0 ≤ z ∧ z ≤ 4611686018427387903) (hs : s.size ≤ 1000000) : ∀ z ∈ hwith s zs, 0 ≤ z ∧ z ≤ 4611686018427387903 := by
  intro z hz
  unfold hwith at hz
  rcases List.mem_cons.1 hz with rfl | hz
  · omega
  · rcases List.mem_append.1 hz with hz | hz
    · have := lbl_mem hz; omega
    · exact h z hz
theorem hashL_true {s : ByteArray} {zs : List Int} {m : Int} : hashL s zs m = true ↔ labB s (zs.length + m) = true ∧ digsB zs = true := by simp [hashL]

/-! ### The program -/
/-! ### The reference -/
end Go.Proofs.Ytafoenoilcgjdaa

