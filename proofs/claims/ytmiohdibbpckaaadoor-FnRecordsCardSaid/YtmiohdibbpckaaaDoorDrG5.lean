/- What the laws of layer 2 draw: elements. -/
import Derived.Test.YtmiohdibbpckaaaDoorDrG2
import Derived.Deep.RegionHeld3
import Derived.Test.YtmiohdibbpckaaaDoorHshA
namespace Go.Proofs.YtmiohdibbpckaaaDoor
open Go.RowKit

theorem nMod_all (a m : Int) (h0 : -m < a) (h2 : 2 ≤ m) (h3 : m ≤ 2000000000) (w : World) :
    Calls Tryd.prog 124 #[.int .i64 a, .int .i64 m] w fun e w' => e = .returned (.int .i64 (a % m)) ∧ w = w' := by
  by_cases h : a < 0
  · have e : a % m = a + m := by rw [← Int.add_emod_right]; exact Int.emod_eq_of_lt (by omega) (by omega)
    rw [e]
    exact nMod_neg a m h h0 h2 h3 w
  · exact nMod_pos a m (by omega) h2 h3 w

theorem nMod_one (w : World) :
    Calls Tryd.prog 124 #[.int .i64 0, .int .i64 1] w fun e w' => e = .returned (.int .i64 0) ∧ w = w' := by
  go_enter Tryd.func124, Tryd.ntmps124
  go_wp2
  go_ret
  exact ⟨rfl, rfl⟩

theorem gExp_one (P G x : Int) (h1 : 0 ≤ x) (h2 : x ≤ 2000000000) (h5 : 2 ≤ P) (h6 : P ≤ 2000000000) (w : World) :
    Calls Tryd.prog 111 #[gv P 1 G, .int .i64 x, .int .i64 0] w fun e' w' => e' = .returned (.int .i64 (Num.pow x 0 P)) ∧ Below w.heap.size w w' := by
  go_enter Tryd.func111, Tryd.ntmps111
  go_wp2_with fail
  go_quiet (first | (go_at_call 124; refine quietly (nMod_one _)) | (go_at_call 91; refine quietly (nPower_any _ _ _ h1 h2 (by omega) (by omega) h5 h6 _)))
  go_wp2
  go_ret
  exact ⟨rfl, below_drewN (ba _ _) _⟩

theorem gExp_all (P Q G x e : Int) (h1 : 0 ≤ x) (h2 : x ≤ 2000000000) (h3 : 0 ≤ e) (h4 : e < Q ∨ (Q < 2 ∧ e = 0)) (h5 : 2 ≤ P) (h6 : P ≤ 2000000000) (h7 : 1 ≤ Q) (h8 : Q ≤ 2000000000) (w : World) :
    Calls Tryd.prog 111 #[gv P Q G, .int .i64 x, .int .i64 e] w fun e' w' => e' = .returned (.int .i64 (Num.pow x e P)) ∧ Below w.heap.size w w' := by
  by_cases h : Q = 1
  · subst h
    obtain rfl : e = 0 := by omega
    exact gExp_one P G x h1 h2 h5 h6 w
  · exact gExp_any P Q G x e h1 h2 h3 (by omega) h5 h6 (by omega) h8 w

def ElPost (w : World) (g k : Nat) (e : Ending) (w' : World) : Prop :=
  ∃ x : Int, e = .returned (.int .i64 x) ∧ (0 ≤ x ∧ x ≤ 2000000000) ∧ Cur w' g k ∧ w.grownBy w' (some g)

end Go.Proofs.YtmiohdibbpckaaaDoor

/- What the laws of layer 2 draw: any element. -/
namespace Go.Proofs.YtmiohdibbpckaaaDoor
open Go.RowKit

def AnyElPost (w : World) (g k : Nat) (e : Ending) (w' : World) : Prop :=
  ∃ x : Int, e = .returned (.int .i64 x) ∧ (-8 ≤ x ∧ x ≤ 2000000000) ∧ Cur w' g k ∧ w.grownBy w' (some g)

end Go.Proofs.YtmiohdibbpckaaaDoor

/- What the laws of layer 2 draw: the Draw functions that hand out a group. -/
namespace Go.Proofs.YtmiohdibbpckaaaDoor
open Go.RowKit

def DrawGroup (w : World) (e : Ending) (w' : World) : Prop :=
  ∃ P Q G : Int, e = .returned (gv P Q G) ∧ DB P Q G ∧ Below w.heap.size w w'
def DrawGroupNum (w : World) (e : Ending) (w' : World) : Prop :=
  ∃ P Q G x : Int, e = .returned (.tuple #[gv P Q G, .int .i64 x]) ∧ DB P Q G ∧ (-8 ≤ x ∧ x ≤ 2000000000) ∧ Below w.heap.size w w'

theorem cur_at (w : World) (b : Nat) (hw : w.heap.size = b) (ad : Option Addr) (n cap : Nat) (hb : IsB w ad n) (t : TypeId) : Cur (w.alloc (.cells #[.slice ad n cap, .int .i64 0, .int .u64 0] t)) b 0 := by
  subst hw; exact cur_new w ad n cap hb t
theorem below_at {w a b : World} {g : Nat} (h : Below w.heap.size w a) (hg : a.grownBy b (some g)) (hge : w.heap.size ≤ g) : Below w.heap.size w b :=
  h.grown hg h.size (fun k hk => by cases hk; exact hge)
theorem own3_at (w : World) (b : Nat) (hw : w.heap.size = b) (P Q G : Int) (t : TypeId) : Own3 (w.alloc (.cells #[.int .i64 P, .int .i64 Q, .int .i64 G] t)) b P Q G := by
  subst hw; exact own3_new w P Q G t

theorem Own3.drew {w : World} {b : Nat} {P Q G : Int} (h : Own3 w b P Q G) : Own3 w.drew b P Q G := h
theorem GR.oth {w : World} {b : Nat} {P Q G : Int} (h : GR w b P Q G) (a : Addr) (v : Value) (hne : a.block ≠ b) : GR (w.setCell a v) b P Q G := by
  obtain ⟨c0, c1, c2⟩ := h
  refine ⟨?_, ?_, ?_⟩
  · rw [World.cell?_setCell_other _ _ _ _ (fun e => hne (by rw [e]))]; exact c0
  · rw [World.cell?_setCell_other _ _ _ _ (fun e => hne (by rw [e]))]; exact c1
  · rw [World.cell?_setCell_other _ _ _ _ (fun e => hne (by rw [e]))]; exact c2
theorem gr_after {w : World} {b c : Nat} {P Q G : Int} (h : GR w b P Q G) (hne : c ≠ b) (x y z : Value) : GR (((w.setCell ⟨c, 0, none⟩ x).setCell ⟨c, 1, none⟩ y).setCell ⟨c, 2, none⟩ z) b P Q G :=
  ((h.oth _ _ hne).oth _ _ hne).oth _ _ hne

end Go.Proofs.YtmiohdibbpckaaaDoor

/- What the laws of layer 2 draw: DrawElementFrom, DrawMakeGroup. -/
namespace Go.Proofs.YtmiohdibbpckaaaDoor
open Go.RowKit

end Go.Proofs.YtmiohdibbpckaaaDoor

