/- InvertAll of the program and of the reference. -/
import Derived.Test.YtdnofcpobpoehaaBas
import Derived.Laws.AppendOwn
namespace Go.Proofs.Ytdnofcpobpoehaa
open Go.RowKit

def invAll (zs : List Int) (m : Int) : List Int := zs.map fun z => Num.inv z m
def invAllOk (zs : List Int) (m : Int) : Bool := listB zs m && zs.all fun z => Num.invOk z m
def invAllRes (zs : List Int) (m : Int) : List Int := if invAllOk zs m then invAll zs m else []

theorem invAll_length (zs : List Int) (m : Int) : (invAll zs m).length = zs.length := by simp [invAll]
theorem invAll_get {zs rest : List Int} {z m : Int} {k : Nat} (h : zs.drop k = z :: rest) (hk : k < (invAll zs m).length) : (invAll zs m)[k] = Num.inv z m := by
  have hk' : k < zs.length := by rwa [invAll_length] at hk
  have hz : zs[k] = z := by rw [List.drop_eq_getElem_cons hk'] at h; simpa using (List.cons.inj h).1
  simp [invAll, hz]

theorem inv_store {wr : World} {B g n cap k : Nat} {xs ys : List Int} {x : Int} (hown : wr.ownsRow B 3 1 (.slice (some ⟨g, 0, none⟩) n cap) n ((over xs ys k).map (Value.int .i64)))
    (hx : ∀ h : k < xs.length, xs[k] = x) (hk : k < xs.length) (hk' : k < ys.length) :
    (wr.setCell ⟨g, k, none⟩ (.int .i64 x)).ownsRow B 3 1 (.slice (some ⟨g, 0, none⟩) n cap) n ((over xs ys (k + 1)).map (Value.int .i64)) := by
  have := (hown.stored k (.int .i64 x)).1
  have e := over_step hk hk'
  rw [hx hk] at e
  rwa [← List.map_set, e] at this

theorem invAll_take {zs rest : List Int} {z m : Int} {k : Nat} (h : zs.drop k = z :: rest) (hk : Num.invOk z m = true) : (invAll zs m).take (k + 1) = (invAll zs m).take k ++ [Num.ninv z m] := by
  have hk' : k < zs.length := by
    rcases Nat.lt_or_ge k zs.length with h' | h'
    · exact h'
    · rw [List.drop_of_length_le h'] at h; cases h
  have hz : zs[k] = z := by rw [List.drop_eq_getElem_cons hk'] at h; simpa using (List.cons.inj h).1
  rw [List.take_succ_eq_append_getElem (by rw [invAll_length]; exact hk')]
  simp [invAll, hz, Num.inv_ninv, hk]

theorem invAllRes_le (zs : List Int) (m : Int) : (invAllRes zs m).length ≤ zs.length := by
  unfold invAllRes; split
  · rw [invAll_length]; exact Nat.le_refl _
  · simp

end Go.Proofs.Ytdnofcpobpoehaa

