/- What the laws of layer 2 draw: elements. -/
import Derived.Test.YtmihnohnfdjcaaaDrG2
import Derived.Deep.RegionHeld3
import Derived.Test.YtmihnohnfdjcaaaHshA
namespace Go.Proofs.Ytmihnohnfdjcaaa
open Go.RowKit

theorem nMod_all (a m : Int) (h0 : -m < a) (h2 : 2 ≤ m) (h3 : m ≤ 2000000000) (w : World) :
    Calls Try.prog 116 #[.int .i64 a, .int .i64 m] w fun e w' => e = .returned (.int .i64 (a % m)) ∧ w = w' := by
  by_cases h : a < 0
  · have e : a % m = a + m := by rw [← Int.add_emod_right]; exact Int.emod_eq_of_lt (by omega) (by omega)
    rw [e]
    exact nMod_neg a m h h0 h2 h3 w
  · exact nMod_pos a m (by omega) h2 h3 w

theorem nMod_one (w : World) :
    Calls Try.prog 116 #[.int .i64 0, .int .i64 1] w fun e w' => e = .returned (.int .i64 0) ∧ w = w' := by
  go_enter Try.func116, Try.ntmps116
  go_wp2
  go_ret
  exact ⟨rfl, rfl⟩

theorem gExp_one (P G x : Int) (h1 : 0 ≤ x) (h2 : x ≤ 2000000000) (h5 : 2 ≤ P) (h6 : P ≤ 2000000000) (w : World) :
    Calls Try.prog 90 #[gv P 1 G, .int .i64 x, .int .i64 0] w fun e' w' => e' = .returned (.int .i64 (Num.pow x 0 P)) ∧ Below w.heap.size w w' := by
  go_enter Try.func90, Try.ntmps90
  go_wp2_with fail
  go_quiet (first | (go_at_call 116; refine quietly (nMod_one _)) | (go_at_call 104; refine quietly (nPower_any _ _ _ h1 h2 (by omega) (by omega) h5 h6 _)))
  go_wp2
  go_ret
  exact ⟨rfl, below_drewN (ba _ _) _⟩

theorem gExp_all (P Q G x e : Int) (h1 : 0 ≤ x) (h2 : x ≤ 2000000000) (h3 : 0 ≤ e) (h4 : e < Q ∨ (Q < 2 ∧ e = 0)) (h5 : 2 ≤ P) (h6 : P ≤ 2000000000) (h7 : 1 ≤ Q) (h8 : Q ≤ 2000000000) (w : World) :
    Calls Try.prog 90 #[gv P Q G, .int .i64 x, .int .i64 e] w fun e' w' => e' = .returned (.int .i64 (Num.pow x e P)) ∧ Below w.heap.size w w' := by
  by_cases h : Q = 1
  · subst h
    obtain rfl : e = 0 := by omega
    exact gExp_one P G x h1 h2 h5 h6 w
  · exact gExp_any P Q G x e h1 h2 h3 (by omega) h5 h6 (by omega) h8 w

def ElPost (w : World) (g k : Nat) (e : Ending) (w' : World) : Prop :=
  ∃ x : Int, e = .returned (.int .i64 x) ∧ (0 ≤ x ∧ x ≤ 2000000000) ∧ Cur w' g k ∧ w.grownBy w' (some g)

set_option maxHeartbeats 4000000 in
theorem element_any (g k : Nat) (hk : k ≤ 1000000000) (P Q G : Int) (p0 : -7 ≤ P) (p1 : P ≤ 2000000000) (q0 : -1 ≤ Q) (q1 : Q ≤ 2000000000) (g0 : -1 ≤ G) (g1 : G ≤ 2000000001) (w : World) (hc : Cur w g k) :
    Calls Try.prog 109 #[.pointer (some ⟨g, 0, none⟩), gv P Q G] w (ElPost w g (k + 4)) := by
  have hgl := hc.lt
  have hal := ba w (.cells #[.int .i64 P, .int .i64 Q, .int .i64 G] 24)
  have HC := Lib.hid (hc.below hal)
  have HG := Lib.hid (grown_below hal (some g))
  obtain ⟨c0, c1, c2⟩ := gr_new w P Q G 24
  clear hc hal
  by_cases hp : P < 3
  · have hpd : decide (P < 3) = true := by simp [hp]
    go_enter Try.func109, Try.ntmps109
    go_wp2
    go_ret
    exact ⟨1, rfl, ⟨by omega, by omega⟩, HC.out.mono (by omega), HG.out⟩
  have hpd : decide (P < 3) = false := by simp [hp]
  by_cases hq : Q < 1
  · have hqd : decide (Q < 1) = true := by simp [hq]
    go_enter Try.func109, Try.ntmps109
    go_wp2
    go_ret
    exact ⟨1, rfl, ⟨by omega, by omega⟩, HC.out.mono (by omega), HG.out⟩
  have hqd : decide (Q < 1) = false := by simp [hq]
  have hx0 : 0 ≤ G % P := Int.emod_nonneg _ (by omega)
  have hx1 : G % P < P := Int.emod_lt_of_pos _ (by omega)
  have HR := Lib.hid (show GR (w.alloc (.cells #[.int .i64 P, .int .i64 Q, .int .i64 G] 24)) w.heap.size P Q G from ⟨c0, c1, c2⟩)
  have hne : w.heap.size ≠ g := by omega
  go_enter Try.func109, Try.ntmps109
  go_wp2_with fail
  go_region_held3 (fun w' => w'.cell? ⟨w.heap.size, 0, none⟩ = some (.int .i64 P) ∧ w'.cell? ⟨w.heap.size, 1, none⟩ = some (.int .i64 Q) ∧ w'.cell? ⟨w.heap.size, 2, none⟩ = some (.int .i64 G)) (first | exact ⟨c0, c1, c2⟩ | exact ⟨d0, d1, d2⟩ | exact ⟨e0, e1, e2⟩ | exact HR.out | exact HR4.out | exact HR5.out) ((first
    | (go_at_call 116; refine (nMod_all G P (by omega) (by omega) (by omega) _).mono ?_; rintro e _ ⟨rfl, rfl⟩)
    | (go_at_call 92; refine (expo_any g k (by omega) P Q G (by omega) (by omega) _ (by first | exact HC.out | exact HC.out.drew)).mono ?_; rintro e w4 ⟨y, rfl, ⟨hy0, hy1⟩, hc4, hg4⟩; have HG4 := Lib.hid (show w.grownBy w4 (some g) from by first | exact grown_trans HG.out hg4 | exact grown_trans HG.out (grown_trans (grown_drew _ _) hg4)); have HR4 := Lib.hid (show GR w4 w.heap.size P Q G from (by first | exact HR.out.grown hg4 hne | exact HR.out.grown (grown_trans (grown_drew _ _) hg4) hne)); obtain ⟨d0, d1, d2⟩ := HR4.out; have HC4 := Lib.hid hc4)
    | (go_at_call 90; refine (gExp_all P Q G (G % P) y (by omega) (by omega) hy0 hy1 (by omega) (by omega) (by omega) (by omega) _).mono ?_; rintro e w5 ⟨rfl, hb5⟩; have HG5 := Lib.hid (show w.grownBy w5 (some g) from (by exact grown_trans HG4.out (grown_below hb5 _))); have HR5 := Lib.hid (show GR w5 w.heap.size P Q G from (by exact HR4.out.below hb5)); obtain ⟨e0, e1, e2⟩ := HR5.out; have HC5 := Lib.hid (show Cur w5 g (k + 4) from (by exact HC4.out.below hb5)))))
  all_goals (
    have hm := pow_lt (G % P) y P (by omega)
    go_wp2
    go_ret
    exact ⟨_, rfl, ⟨hm.1, by omega⟩, HC5.out, HG5.out⟩)

end Go.Proofs.Ytmihnohnfdjcaaa

/- What the laws of layer 2 draw: any element. -/
namespace Go.Proofs.Ytmihnohnfdjcaaa
open Go.RowKit

def AnyElPost (w : World) (g k : Nat) (e : Ending) (w' : World) : Prop :=
  ∃ x : Int, e = .returned (.int .i64 x) ∧ (-8 ≤ x ∧ x ≤ 2000000000) ∧ Cur w' g k ∧ w.grownBy w' (some g)

set_option maxHeartbeats 1000000 in
theorem anyElement_any (g k : Nat) (hk : k ≤ 900000000) (P Q G : Int) (p0 : -7 ≤ P) (p1 : P ≤ 2000000000) (q0 : -1 ≤ Q) (q1 : Q ≤ 2000000000) (g0 : -1 ≤ G) (g1 : G ≤ 2000000001) (w : World) (hc : Cur w g k) :
    Calls Try.prog 73 #[.pointer (some ⟨g, 0, none⟩), gv P Q G] w (AnyElPost w g (k + 8)) := by
  have hgl := hc.lt
  have hal := ba w (.cells #[.int .i64 P, .int .i64 Q, .int .i64 G] 24)
  have HC := Lib.hid (hc.below hal)
  have HG := Lib.hid (grown_below hal (some g))
  have HR := Lib.hid (gr_new w P Q G 24)
  have hne : w.heap.size ≠ g := by omega
  clear hc hal
  have hw3 : IntKind.i64.wrap (P - 1) = P - 1 := by rw [IntKind.wrap_i64]; omega
  obtain ⟨b0, b1, b2⟩ := HR.out
  go_enter Try.func73, Try.ntmps73
  go_wp2_with fail
  refine (one_any g k 20 (by omega) (by omega) _ HC.out).mono ?_
  rintro e w1 ⟨b, rfl, hc1, hg1⟩
  have HC1 := Lib.hid hc1
  have HG1 := Lib.hid (grown_trans HG.out hg1)
  have HR1 := Lib.hid (HR.out.grown hg1 hne)
  clear hc1 hg1 b0 b1 b2
  obtain ⟨c0, c1, c2⟩ := HR1.out
  cases b
  · go_wp2_with fail
    refine (element_any g _ (by omega) P Q G p0 p1 q0 q1 g0 g1 _ HC1.out).mono ?_
    rintro e w2 ⟨x, rfl, hx, hc2, hg2⟩
    have HC2 := Lib.hid hc2
    have HG2 := Lib.hid (grown_trans HG1.out hg2)
    clear hc2 hg2
    go_wp2
    go_ret
    exact ⟨x, rfl, ⟨by omega, hx.2⟩, HC2.out.mono (by omega), HG2.out⟩
  · go_wp2_with fail
    have hal2 := ba w1 (.cells #[.int .i64 0, .int .i64 1, .int .i64 (P - 1), .int .i64 P, .int .i64 (-1), .int .i64 5] 3)
    refine (among_any g _ _ _ _ [0, 1, P - 1, P, -1, 5] (by omega) rfl (by simp) (by simp) (by rintro a ⟨⟩; have := HC1.out.lt; simp; omega) _ (ints_lit w1 [0, 1, P - 1, P, -1, 5] 3) (HC1.out.below hal2)).mono ?_
    rintro e w3 ⟨q, rfl, hm, hc4, hg4⟩
    have hq : -8 ≤ q ∧ q ≤ 2000000000 := by
      simp at hm
      omega
    have HC4 := Lib.hid hc4
    have HG4 := Lib.hid (grown_trans HG1.out (grown_trans (grown_below hal2 (some g)) hg4))
    clear hc4 hg4 hal2 hm
    go_wp2
    go_ret
    exact ⟨q, rfl, hq, HC4.out.mono (by omega), HG4.out⟩

end Go.Proofs.Ytmihnohnfdjcaaa

/- What the laws of layer 2 draw: the Draw functions that hand out a group. -/
namespace Go.Proofs.Ytmihnohnfdjcaaa
open Go.RowKit

def DrawGroup (w : World) (e : Ending) (w' : World) : Prop :=
  ∃ P Q G : Int, e = .returned (gv P Q G) ∧ DB P Q G ∧ Below w.heap.size w w'
def DrawGroupNum (w : World) (e : Ending) (w' : World) : Prop :=
  ∃ P Q G x : Int, e = .returned (.tuple #[gv P Q G, .int .i64 x]) ∧ DB P Q G ∧ (-8 ≤ x ∧ x ≤ 2000000000) ∧ Below w.heap.size w w'

theorem cur_at (w : World) (b : Nat) (hw : w.heap.size = b) (ad : Option Addr) (n cap : Nat) (hb : IsB w ad n) (t : TypeId) : Cur (w.alloc (.cells #[.slice ad n cap, .int .i64 0, .int .u64 0] t)) b 0 := by
  subst hw; exact cur_new w ad n cap hb t
theorem below_at {w a b : World} {g : Nat} (h : Below w.heap.size w a) (hg : a.grownBy b (some g)) (hge : w.heap.size ≤ g) : Below w.heap.size w b :=
  h.grown hg h.size (fun k hk => by cases hk; exact hge)
theorem own3_at (w : World) (b : Nat) (hw : w.heap.size = b) (P Q G : Int) (t : TypeId) : Own3 (w.alloc (.cells #[.int .i64 P, .int .i64 Q, .int .i64 G] t)) b P Q G := by
  subst hw; exact own3_new w P Q G t

theorem Own3.drew {w : World} {b : Nat} {P Q G : Int} (h : Own3 w b P Q G) : Own3 w.drew b P Q G := h
theorem GR.oth {w : World} {b : Nat} {P Q G : Int} (h : GR w b P Q G) (a : Addr) (v : Value) (hne : a.block ≠ b) : GR (w.setCell a v) b P Q G := by
  obtain ⟨c0, c1, c2⟩ := h
  refine ⟨?_, ?_, ?_⟩
  · rw [World.cell?_setCell_other _ _ _ _ (fun e => hne (by rw [e]))]; exact c0
  · rw [World.cell?_setCell_other _ _ _ _ (fun e => hne (by rw [e]))]; exact c1
  · rw [World.cell?_setCell_other _ _ _ _ (fun e => hne (by rw [e]))]; exact c2
theorem gr_after {w : World} {b c : Nat} {P Q G : Int} (h : GR w b P Q G) (hne : c ≠ b) (x y z : Value) : GR (((w.setCell ⟨c, 0, none⟩ x).setCell ⟨c, 1, none⟩ y).setCell ⟨c, 2, none⟩ z) b P Q G :=
  ((h.oth _ _ hne).oth _ _ hne).oth _ _ hne

end Go.Proofs.Ytmihnohnfdjcaaa

/- What the laws of layer 2 draw: DrawElementFrom, DrawMakeGroup. -/
namespace Go.Proofs.Ytmihnohnfdjcaaa
open Go.RowKit

end Go.Proofs.Ytmihnohnfdjcaaa

