/- What the laws of layer 2 draw: elements. -/
import Derived.Test.YtdnofcpobpoehaaDrG2
import Derived.Deep.RegionHeld3
import Derived.Test.YtdnofcpobpoehaaHshA
import Derived.Test.YtdnofcpobpoehaaHshC
namespace Go.Proofs.Ytdnofcpobpoehaa
open Go.RowKit

theorem nMod_all (a m : Int) (h0 : -m < a) (h2 : 2 ≤ m) (h3 : m ≤ 2000000000) (w : World) :
    Calls Try.prog 80 #[.int .i64 a, .int .i64 m] w fun e w' => e = .returned (.int .i64 (a % m)) ∧ w = w' := by
  by_cases h : a < 0
  · have e : a % m = a + m := by rw [← Int.add_emod_right]; exact Int.emod_eq_of_lt (by omega) (by omega)
    rw [e]
    exact nMod_neg a m h h0 h2 h3 w
  · exact nMod_pos a m (by omega) h2 h3 w

theorem nMod_one (w : World) :
    Calls Try.prog 80 #[.int .i64 0, .int .i64 1] w fun e w' => e = .returned (.int .i64 0) ∧ w = w' := by
  go_enter Try.func80, Try.ntmps80
  go_wp2
  go_ret
  exact ⟨rfl, rfl⟩

theorem gExp_one (P G x : Int) (h1 : 0 ≤ x) (h2 : x ≤ 2000000000) (h5 : 2 ≤ P) (h6 : P ≤ 2000000000) (w : World) :
    Calls Try.prog 119 #[gv P 1 G, .int .i64 x, .int .i64 0] w fun e' w' => e' = .returned (.int .i64 (Num.pow x 0 P)) ∧ Below w.heap.size w w' := by
  go_enter Try.func119, Try.ntmps119
  go_wp2_with fail
  go_quiet (first | (go_at_call 80; refine quietly (nMod_one _)) | (go_at_call 121; refine quietly (nPower_any _ _ _ h1 h2 (by omega) (by omega) h5 h6 _)))
  go_wp2
  go_ret
  exact ⟨rfl, below_drewN (ba _ _) _⟩

theorem gExp_all (P Q G x e : Int) (h1 : 0 ≤ x) (h2 : x ≤ 2000000000) (h3 : 0 ≤ e) (h4 : e < Q ∨ (Q < 2 ∧ e = 0)) (h5 : 2 ≤ P) (h6 : P ≤ 2000000000) (h7 : 1 ≤ Q) (h8 : Q ≤ 2000000000) (w : World) :
    Calls Try.prog 119 #[gv P Q G, .int .i64 x, .int .i64 e] w fun e' w' => e' = .returned (.int .i64 (Num.pow x e P)) ∧ Below w.heap.size w w' := by
  by_cases h : Q = 1
  · subst h
    obtain rfl : e = 0 := by omega
    exact gExp_one P G x h1 h2 h5 h6 w
  · exact gExp_any P Q G x e h1 h2 h3 (by omega) h5 h6 (by omega) h8 w

def ElPost (w : World) (g k : Nat) (e : Ending) (w' : World) : Prop :=
  ∃ x : Int, e = .returned (.int .i64 x) ∧ (0 ≤ x ∧ x ≤ 2000000000) ∧ Cur w' g k ∧ w.grownBy w' (some g)

set_option maxHeartbeats 4000000 in
theorem element_any (g k : Nat) (hk : k ≤ 1000000000) (P Q G : Int) (p0 : -7 ≤ P) (p1 : P ≤ 2000000000) (q0 : -1 ≤ Q) (q1 : Q ≤ 2000000000) (g0 : -1 ≤ G) (g1 : G ≤ 2000000001) (w : World) (hc : Cur w g k) :
    Calls Try.prog 170 #[.pointer (some ⟨g, 0, none⟩), gv P Q G] w (ElPost w g (k + 4)) := by
  have hgl := hc.lt
  have hal := ba w (.cells #[.int .i64 P, .int .i64 Q, .int .i64 G] 29)
  have HC := Lib.hid (hc.below hal)
  have HG := Lib.hid (grown_below hal (some g))
  obtain ⟨c0, c1, c2⟩ := gr_new w P Q G 29
  clear hc hal
  by_cases hp : P < 3
  · have hpd : decide (P < 3) = true := by simp [hp]
    go_enter Try.func170, Try.ntmps170
    go_wp2
    go_ret
    exact ⟨1, rfl, ⟨by omega, by omega⟩, HC.out.mono (by omega), HG.out⟩
  have hpd : decide (P < 3) = false := by simp [hp]
  by_cases hq : Q < 1
  · have hqd : decide (Q < 1) = true := by simp [hq]
    go_enter Try.func170, Try.ntmps170
    go_wp2
    go_ret
    exact ⟨1, rfl, ⟨by omega, by omega⟩, HC.out.mono (by omega), HG.out⟩
  have hqd : decide (Q < 1) = false := by simp [hq]
  have hx0 : 0 ≤ G % P := Int.emod_nonneg _ (by omega)
  have hx1 : G % P < P := Int.emod_lt_of_pos _ (by omega)
  have HR := Lib.hid (show GR (w.alloc (.cells #[.int .i64 P, .int .i64 Q, .int .i64 G] 29)) w.heap.size P Q G from ⟨c0, c1, c2⟩)
  have hne : w.heap.size ≠ g := by omega
  go_enter Try.func170, Try.ntmps170
  go_wp2_with fail
  go_region_held3 (fun w' => w'.cell? ⟨w.heap.size, 0, none⟩ = some (.int .i64 P) ∧ w'.cell? ⟨w.heap.size, 1, none⟩ = some (.int .i64 Q) ∧ w'.cell? ⟨w.heap.size, 2, none⟩ = some (.int .i64 G)) (first | exact ⟨c0, c1, c2⟩ | exact ⟨d0, d1, d2⟩ | exact ⟨e0, e1, e2⟩ | exact HR.out | exact HR4.out | exact HR5.out) ((first
    | (go_at_call 80; refine (nMod_all G P (by omega) (by omega) (by omega) _).mono ?_; rintro e _ ⟨rfl, rfl⟩)
    | (go_at_call 149; refine (expo_any g k (by omega) P Q G (by omega) (by omega) _ (by first | exact HC.out | exact HC.out.drew)).mono ?_; rintro e w4 ⟨y, rfl, ⟨hy0, hy1⟩, hc4, hg4⟩; have HG4 := Lib.hid (show w.grownBy w4 (some g) from by first | exact grown_trans HG.out hg4 | exact grown_trans HG.out (grown_trans (grown_drew _ _) hg4)); have HR4 := Lib.hid (show GR w4 w.heap.size P Q G from (by first | exact HR.out.grown hg4 hne | exact HR.out.grown (grown_trans (grown_drew _ _) hg4) hne)); obtain ⟨d0, d1, d2⟩ := HR4.out; have HC4 := Lib.hid hc4)
    | (go_at_call 119; refine (gExp_all P Q G (G % P) y (by omega) (by omega) hy0 hy1 (by omega) (by omega) (by omega) (by omega) _).mono ?_; rintro e w5 ⟨rfl, hb5⟩; have HG5 := Lib.hid (show w.grownBy w5 (some g) from (by exact grown_trans HG4.out (grown_below hb5 _))); have HR5 := Lib.hid (show GR w5 w.heap.size P Q G from (by exact HR4.out.below hb5)); obtain ⟨e0, e1, e2⟩ := HR5.out; have HC5 := Lib.hid (show Cur w5 g (k + 4) from (by exact HC4.out.below hb5)))))
  all_goals (
    have hm := pow_lt (G % P) y P (by omega)
    go_wp2
    go_ret
    exact ⟨_, rfl, ⟨hm.1, by omega⟩, HC5.out, HG5.out⟩)

end Go.Proofs.Ytdnofcpobpoehaa

/- What the laws of layer 2 draw: any element. -/
namespace Go.Proofs.Ytdnofcpobpoehaa
open Go.RowKit

def AnyElPost (w : World) (g k : Nat) (e : Ending) (w' : World) : Prop :=
  ∃ x : Int, e = .returned (.int .i64 x) ∧ (-8 ≤ x ∧ x ≤ 2000000000) ∧ Cur w' g k ∧ w.grownBy w' (some g)

set_option maxHeartbeats 1000000 in
theorem anyElement_any (g k : Nat) (hk : k ≤ 900000000) (P Q G : Int) (p0 : -7 ≤ P) (p1 : P ≤ 2000000000) (q0 : -1 ≤ Q) (q1 : Q ≤ 2000000000) (g0 : -1 ≤ G) (g1 : G ≤ 2000000001) (w : World) (hc : Cur w g k) :
    Calls Try.prog 148 #[.pointer (some ⟨g, 0, none⟩), gv P Q G] w (AnyElPost w g (k + 8)) := by
  have hgl := hc.lt
  have hal := ba w (.cells #[.int .i64 P, .int .i64 Q, .int .i64 G] 29)
  have HC := Lib.hid (hc.below hal)
  have HG := Lib.hid (grown_below hal (some g))
  have HR := Lib.hid (gr_new w P Q G 29)
  have hne : w.heap.size ≠ g := by omega
  clear hc hal
  have hw3 : IntKind.i64.wrap (P - 1) = P - 1 := by rw [IntKind.wrap_i64]; omega
  obtain ⟨b0, b1, b2⟩ := HR.out
  go_enter Try.func148, Try.ntmps148
  go_wp2_with fail
  refine (one_any g k 20 (by omega) (by omega) _ HC.out).mono ?_
  rintro e w1 ⟨b, rfl, hc1, hg1⟩
  have HC1 := Lib.hid hc1
  have HG1 := Lib.hid (grown_trans HG.out hg1)
  have HR1 := Lib.hid (HR.out.grown hg1 hne)
  clear hc1 hg1 b0 b1 b2
  obtain ⟨c0, c1, c2⟩ := HR1.out
  cases b
  · go_wp2_with fail
    refine (element_any g _ (by omega) P Q G p0 p1 q0 q1 g0 g1 _ HC1.out).mono ?_
    rintro e w2 ⟨x, rfl, hx, hc2, hg2⟩
    have HC2 := Lib.hid hc2
    have HG2 := Lib.hid (grown_trans HG1.out hg2)
    clear hc2 hg2
    go_wp2
    go_ret
    exact ⟨x, rfl, ⟨by omega, hx.2⟩, HC2.out.mono (by omega), HG2.out⟩
  · go_wp2_with fail
    have hal2 := ba w1 (.cells #[.int .i64 0, .int .i64 1, .int .i64 (P - 1), .int .i64 P, .int .i64 (-1), .int .i64 5] 3)
    refine (among_any g _ _ _ _ [0, 1, P - 1, P, -1, 5] (by omega) rfl (by simp) (by simp) (by rintro a ⟨⟩; have := HC1.out.lt; simp; omega) _ (ints_lit w1 [0, 1, P - 1, P, -1, 5] 3) (HC1.out.below hal2)).mono ?_
    rintro e w3 ⟨q, rfl, hm, hc4, hg4⟩
    have hq : -8 ≤ q ∧ q ≤ 2000000000 := by
      simp at hm
      omega
    have HC4 := Lib.hid hc4
    have HG4 := Lib.hid (grown_trans HG1.out (grown_trans (grown_below hal2 (some g)) hg4))
    clear hc4 hg4 hal2 hm
    go_wp2
    go_ret
    exact ⟨q, rfl, hq, HC4.out.mono (by omega), HG4.out⟩

end Go.Proofs.Ytdnofcpobpoehaa

/- What the laws of layer 2 draw: the Draw functions that hand out a group. -/
namespace Go.Proofs.Ytdnofcpobpoehaa
open Go.RowKit

def DrawGroup (w : World) (e : Ending) (w' : World) : Prop :=
  ∃ P Q G : Int, e = .returned (gv P Q G) ∧ DB P Q G ∧ Below w.heap.size w w'
def DrawGroupNum (w : World) (e : Ending) (w' : World) : Prop :=
  ∃ P Q G x : Int, e = .returned (.tuple #[gv P Q G, .int .i64 x]) ∧ DB P Q G ∧ (-8 ≤ x ∧ x ≤ 2000000000) ∧ Below w.heap.size w w'

theorem cur_at (w : World) (b : Nat) (hw : w.heap.size = b) (ad : Option Addr) (n cap : Nat) (hb : IsB w ad n) (t : TypeId) : Cur (w.alloc (.cells #[.slice ad n cap, .int .i64 0, .int .u64 0] t)) b 0 := by
  subst hw; exact cur_new w ad n cap hb t
theorem below_at {w a b : World} {g : Nat} (h : Below w.heap.size w a) (hg : a.grownBy b (some g)) (hge : w.heap.size ≤ g) : Below w.heap.size w b :=
  h.grown hg h.size (fun k hk => by cases hk; exact hge)
theorem own3_at (w : World) (b : Nat) (hw : w.heap.size = b) (P Q G : Int) (t : TypeId) : Own3 (w.alloc (.cells #[.int .i64 P, .int .i64 Q, .int .i64 G] t)) b P Q G := by
  subst hw; exact own3_new w P Q G t

theorem Own3.drew {w : World} {b : Nat} {P Q G : Int} (h : Own3 w b P Q G) : Own3 w.drew b P Q G := h
theorem GR.oth {w : World} {b : Nat} {P Q G : Int} (h : GR w b P Q G) (a : Addr) (v : Value) (hne : a.block ≠ b) : GR (w.setCell a v) b P Q G := by
  obtain ⟨c0, c1, c2⟩ := h
  refine ⟨?_, ?_, ?_⟩
  · rw [World.cell?_setCell_other _ _ _ _ (fun e => hne (by rw [e]))]; exact c0
  · rw [World.cell?_setCell_other _ _ _ _ (fun e => hne (by rw [e]))]; exact c1
  · rw [World.cell?_setCell_other _ _ _ _ (fun e => hne (by rw [e]))]; exact c2
theorem gr_after {w : World} {b c : Nat} {P Q G : Int} (h : GR w b P Q G) (hne : c ≠ b) (x y z : Value) : GR (((w.setCell ⟨c, 0, none⟩ x).setCell ⟨c, 1, none⟩ y).setCell ⟨c, 2, none⟩ z) b P Q G :=
  ((h.oth _ _ hne).oth _ _ hne).oth _ _ hne

end Go.Proofs.Ytdnofcpobpoehaa

/- What the laws of layer 2 draw: DrawElementFrom, DrawMakeGroup. -/
namespace Go.Proofs.Ytdnofcpobpoehaa
open Go.RowKit

end Go.Proofs.Ytdnofcpobpoehaa

/- What the laws of layer 2 draw: lists of elements and of exponents. -/
namespace Go.Proofs.Ytdnofcpobpoehaa
open Go.RowKit

/-- A drawn list, in a row of the call's own. -/
def ElsPost (w : World) (g k most : Nat) (e : Ending) (w' : World) : Prop :=
  ∃ (ad : Option Addr) (n cap : Nat) (zs : List Int), e = .returned (.slice ad n cap) ∧ w'.ownsRow (w.heap.size + 1) 3 1 (.slice ad n cap) n (zs.map (Value.int .i64)) ∧ n ≤ most ∧ Cur w' g k ∧ w.grownBy w' (some g)

/-- A drawn list of m numbers. -/
def CoinsPost (w : World) (g k m : Nat) (e : Ending) (w' : World) : Prop :=
  ∃ (ad : Option Addr) (cap : Nat) (zs : List Int), e = .returned (.slice ad m cap) ∧ w'.ownsRow (w.heap.size + 1) 3 1 (.slice ad m cap) m (zs.map (Value.int .i64)) ∧ Cur w' g k ∧ w.grownBy w' (some g)

theorem GR.above {w w' : World} {b B : Nat} {P Q G : Int} {r : Option Nat} (h : GR w b P Q G) (hg : w.grownBy w' r) (hB : b < B) (hr : ∀ q, r = some q → B ≤ q) : GR w' b P Q G := by
  obtain ⟨c0, c1, c2⟩ := h
  have hne : some b ≠ r := by rintro rfl; have := hr b rfl; omega
  exact ⟨hg.cell (a := ⟨b, 0, none⟩) c0 hne, hg.cell (a := ⟨b, 1, none⟩) c1 hne, hg.cell (a := ⟨b, 2, none⟩) c2 hne⟩

set_option maxHeartbeats 1600000 in
theorem coins_any (g k : Nat) (hk : k ≤ 900000000) (P Q G : Int) (q0 : -1 ≤ Q) (q1 : Q ≤ 2000000000) (m : Nat) (hm : m ≤ 100) (w : World) (hc : Cur w g k) :
    Calls Try.prog 172 #[.pointer (some ⟨g, 0, none⟩), gv P Q G, .int .i64 m] w (CoinsPost w g (k + 4 * m) m) := by
  have hgl := hc.lt
  have hgl1 : g < w.heap.size + 1 := by omega
  have hne : w.heap.size ≠ g := by omega
  have hal := ba w (.cells #[.int .i64 P, .int .i64 Q, .int .i64 G] 29)
  have HC := Lib.hid (hc.below hal)
  have HG := Lib.hid (grown_below hal (some g))
  have HR := Lib.hid (gr_new w P Q G 29)
  obtain ⟨i0, hi, hz0, hz1, hz2⟩ := info_parts Try.info3
  clear hc hal
  go_enter Try.func172, Try.ntmps172
  go_wp2
  go_loopw [2, 7] (fun K V wr => ∃ (j n : Nat) (va : Option Addr) (vc : Nat) (zs : List Int), (j ≤ m ∧ n + j = m) ∧ K = .int .i64 j ∧ V = .slice va n vc ∧ wr.ownsRow (w.heap.size + 1) 3 1 (.slice va n vc) n (zs.map (Value.int .i64)) ∧ Cur wr g (k + 4 * (m - j)) ∧ w.grownBy wr (some g) ∧ GR wr w.heap.size P Q G) (fun K _ _ => (intOf K).toNat)
  case atStart => exact ⟨m, 0, none, 0, [], by omega, rfl, rfl, World.ownsRow_nil _ _ _ _, HC.out.mono (by omega), HG.out, HR.out⟩
  case round =>
    obtain ⟨j, n, va, vc, zs, ⟨hj0, hj1⟩, rfl, rfl, hown, hcr, hgr, hgg⟩ := hrel
    have HO := Lib.hid hown
    have HCr := Lib.hid hcr
    have HGr := Lib.hid hgr
    have HGG := Lib.hid hgg
    clear hown hcr hgr hgg
    by_cases hj : 0 < j
    · have hji : (0 : Int) < (j : Int) := by omega
      obtain ⟨c0, c1, c2⟩ := HGG.out
      go_wp2_with fail
      refine (expo_any g _ (by omega) P Q G q0 q1 _ HCr.out).mono ?_
      rintro e w2 ⟨x, rfl, _, hc2, hg2⟩
      have HO2 := Lib.hid (own_cur HO.out hg2 hgl1)
      have HC2 := Lib.hid hc2
      have HG2 := Lib.hid (grown_trans HGr.out hg2)
      have HGG2 := Lib.hid (HGG.out.grown hg2 hne)
      clear hc2 hg2 c0 c1 c2
      go_wp2_with (at_builtin; refine wpList_append_ints rfl _ _ 24 rfl (w.heap.size + 1) 3 i0 Try.underlying24 hi hz0 hz1 hz2 _ n zs rfl (HO2.out.alloc _) (some ⟨w2.heap.size, 0, none⟩) 1 1 [x] rfl rfl (ints_spot w2 _ rfl [x] 3) (fun h => by cases h) (by omega) ?_ ?_)
      · have := HG2.out.size; have := HC2.out.lt; simp; omega
      · intro v' w3 hown' hgrow
        obtain ⟨va', vc', rfl⟩ := own_shape hown'
        have HO3 := Lib.hid hown'
        have hr : ∀ q, (Value.slice va n vc).ownBlock = some q → w.heap.size + 1 ≤ q := fun q hq => (HO2.out.lt q hq).1
        have hal := ba w2 (.cells #[.int .i64 (x)] 3)
        have HC3 := Lib.hid ((HC2.out.below hal).above hgrow hgl1 hr)
        have HG3 := Lib.hid (grown_own (grown_trans HG2.out (grown_below hal _)) hgrow (fun q hq => Nat.le_trans (Nat.le_succ _) (hr q hq)))
        have HGG3 := Lib.hid ((HGG2.out.below hal).above hgrow (Nat.lt_succ_self _) hr)
        clear hown' hgrow hr hal
        go_wp2
        go_roundw
        case rel => exact ⟨j - 1, n + 1, va', vc', zs ++ [x], by omega, by rw [show ((j - 1 : Nat) : Int) = (j : Int) - 1 by omega], rfl, by rw [List.map_append]; simpa using HO3.out, HC3.out.mono (by omega), HG3.out, HGG3.out⟩
        case measure => simp only [intOf]; omega
    · have hji : (j : Int) ≤ 0 := by omega
      go_wp2
      go_ret
      obtain rfl : j = 0 := by omega
      obtain rfl : n = m := by omega
      exact ⟨va, vc, zs, rfl, HO.out, HCr.out.mono (by omega), HGr.out⟩

end Go.Proofs.Ytdnofcpobpoehaa

/- What the laws of layer 2 draw: exponents that may be bent. -/
namespace Go.Proofs.Ytdnofcpobpoehaa
open Go.RowKit

/-- A drawn list that is only read. -/
def ReadPost (w : World) (g k most : Nat) (e : Ending) (w' : World) : Prop :=
  ∃ (ad : Option Addr) (n cap : Nat) (zs : List Int), e = .returned (.slice ad n cap) ∧ IsInts w' ad zs ∧ zs.length = n ∧ n ≤ most ∧ (∀ a, ad = some a → w.heap.size ≤ a.block) ∧ Cur w' g k ∧ w.grownBy w' (some g)
/-- ReadPost, and what stands of the capacity. -/
def ReadPostC (w : World) (g k most : Nat) (e : Ending) (w' : World) : Prop :=
  ∃ (ad : Option Addr) (n cap : Nat) (zs : List Int), e = .returned (.slice ad n cap) ∧ IsInts w' ad zs ∧ zs.length = n ∧ n ≤ most ∧ (∀ a, ad = some a → w.heap.size ≤ a.block) ∧ Cur w' g k ∧ w.grownBy w' (some g) ∧ (ad = none → cap = 0) ∧ n ≤ cap
theorem own_capR {w : World} {base size n vc : Nat} {va : Option Addr} {xs : List Value} {e : TypeId} (h : w.ownsRow base e size (.slice va n vc) n xs) : n ≤ vc := by
  rcases h.2 with ⟨h1, _⟩ | ⟨g, cap, cur, h1, _, _, h2, _⟩
  · simp only [Value.slice.injEq] at h1
    obtain ⟨_, rfl, rfl⟩ := h1
    exact Nat.le_refl _
  · simp only [Value.slice.injEq] at h1
    obtain ⟨_, _, rfl⟩ := h1
    exact h2

theorem lit_grown {w w' : World} {g : Nat} (zs : List Int) (t : TypeId) (hg : (w.alloc (.cells (zs.map (Value.int .i64)).toArray t)).grownBy w' (some g)) (hl : g < w.heap.size) : IsInts w' (some ⟨w.heap.size, 0, none⟩) zs :=
  (ints_spot w _ rfl zs t).grown hg (by rintro _ ⟨⟩; simp; omega)

theorem own_up {w : World} {base n cap size : Nat} {ad : Option Addr} {e : TypeId} {xs : List Value} (h : w.ownsRow (base + 1) e size (.slice ad n cap) n xs) : ∀ a, ad = some a → base ≤ a.block := fun a ha => by
  have := (h.lt a.block (by subst ha; rfl)).1
  omega
theorem ints_set {w : World} {ad : Option Addr} {zs : List Int} (h : IsInts w ad zs) (a : Addr) (v : Value) (hne : ∀ x, ad = some x → x.block ≠ a.block) : IsInts (w.setCell a v) ad zs :=
  h.grown (grown_cell w a v) (fun x hx => by simpa using hne x hx)

theorem tail_ints {w : World} {b : Nat} {zs : List Int} (h : IsInts w (some ⟨b, 0, none⟩) zs) : IsInts w (some ⟨b, 1, none⟩) (zs.drop 1) := by
  rcases h with rfl | ⟨b', off, h1, hl, hc⟩
  · exact .inl rfl
  · obtain ⟨rfl, rfl⟩ : b = b' ∧ 0 = off := by simpa using h1
    refine .inr ⟨b, 1, rfl, hl, fun i hi => ?_⟩
    have := hc (i + 1) (by simp at hi; omega)
    rw [Nat.zero_add, Nat.add_comm i 1] at this
    rw [this]
    simp [List.getD, Nat.add_comm]

set_option maxRecDepth 100000 in
set_option maxHeartbeats 6400000 in
theorem anyCoinsC_any (g k : Nat) (hk : k ≤ 800000000) (P Q G : Int) (q0 : -1 ≤ Q) (q1 : Q ≤ 2000000000) (m : Nat) (hm : m ≤ 30) (w : World) (hc : Cur w g k) :
    Calls Try.prog 151 #[.pointer (some ⟨g, 0, none⟩), gv P Q G, .int .i64 m] w (ReadPostC w g (k + 4 * m + 6) 31) := by
  have hgl := hc.lt
  have hgl1 : g < w.heap.size + 1 := by omega
  have hne : w.heap.size ≠ g := by omega
  have hal := ba w (.cells #[.int .i64 P, .int .i64 Q, .int .i64 G] 29)
  have HC := Lib.hid (hc.below hal)
  have HG := Lib.hid (grown_below hal (some g))
  have HR := Lib.hid (gr_new w P Q G 29)
  have HSZ := Lib.hid (show (w.alloc (.cells #[.int .i64 P, .int .i64 Q, .int .i64 G] 29)).heap.size = w.heap.size + 1 by simp)
  obtain ⟨i0, hi, hz0, hz1, hz2⟩ := info_parts Try.info3
  obtain ⟨c0, c1, c2⟩ := HR.out
  clear hc hal
  go_enter Try.func151, Try.ntmps151
  go_wp2_with fail
  refine (coins_any g k (by omega) P Q G q0 q1 m (by omega) _ HC.out).mono ?_
  rintro e w1 ⟨va, vc, zs, rfl, hown, hc1, hg1⟩
  have HO1 := Lib.hid (own_base (base' := w.heap.size + 1) hown (by rw [HSZ.out]; omega))
  have HC1 := Lib.hid hc1
  have HG1 := Lib.hid (grown_trans HG.out hg1)
  have HR1 := Lib.hid (HR.out.grown hg1 hne)
  clear hown hc1 hg1 c0 c1 c2
  go_wp2_with fail
  refine (pick_any g _ 30 (by omega) (by omega) _ HC1.out).mono ?_
  rintro e w2 ⟨y, rfl, hy, hc2, hg2⟩
  have HO2 := Lib.hid (own_cur HO1.out hg2 hgl1)
  have HC2 := Lib.hid hc2
  have HG2 := Lib.hid (grown_trans HG1.out hg2)
  have HR2 := Lib.hid (HR1.out.grown hg2 hne)
  clear hc2 hg2 hy
  obtain ⟨hi2, hl2, hn2⟩ := own_ints HO2.out
  have HI2 := Lib.hid hi2
  have HB2 := Lib.hid (own_up HO2.out)
  have HL2 := Lib.hid hl2
  have HCap2 := Lib.hid (And.intro hn2 (own_capR HO2.out))
  clear hi2 hl2 hn2
  by_cases y0 : y = 0
  · have y0b : (y == 0) = true := by simp [y0]
    subst y0
    go_wp2_with (at_builtin; refine wpList_append_ints rfl _ _ 24 rfl (w.heap.size + 1) 3 i0 Try.underlying24 hi hz0 hz1 hz2 _ m zs rfl (HO2.out.alloc _) (some ⟨w2.heap.size, 0, none⟩) 1 1 [0] rfl rfl (ints_spot w2 _ rfl [0] 3) (fun h => by cases h) (by omega) ?_ ?_)
    · have := HG2.out.size; have := HC2.out.lt; simp; omega
    · intro v' w3 hown' hgrow
      obtain ⟨va', vc', rfl⟩ := own_shape hown'
      obtain ⟨hi3, hl3, hn3⟩ := own_ints (zs := zs ++ [0]) (by simpa using hown')
      have HCap3 := Lib.hid (And.intro hn3 (own_capR hown'))
      clear hn3
      have HI3 := Lib.hid hi3
      have HL3 := Lib.hid hl3
      have hr : ∀ q, (Value.slice va m vc).ownBlock = some q → w.heap.size + 1 ≤ q := fun q hq => (HO2.out.lt q hq).1
      have hal := ba w2 (.cells #[.int .i64 (0 : Int)] 3)
      have HC3 := Lib.hid ((HC2.out.below hal).above hgrow hgl1 hr)
      have HG3 := Lib.hid (grown_own (grown_trans HG2.out (grown_below hal _)) hgrow (fun q hq => Nat.le_trans (Nat.le_succ _) (hr q hq)))
      have HB3 := Lib.hid (own_up hown')
      clear hown' hgrow hr hal hi3 hl3
      go_wp2
      go_ret
      exact ⟨va', m + 1, vc', zs ++ [0], rfl, HI3.out, HL3.out, by omega, HB3.out, HC3.out.mono (by omega), HG3.out, HCap3.out⟩
  have y0b : (y == 0) = false := by simp [y0]
  by_cases y1 : y = 1
  · have y1b : (y == 1) = true := by simp [y1]
    subst y1
    by_cases hm0 : 0 < m
    · have hmi : (0 : Int) < (m : Int) := by omega
      rcases HO2.out.2 with ⟨h1, h2⟩ | ⟨b, cap, cur, h1, h2, h3, h4, h5, h6, h7⟩
      · omega
      · simp only [Value.slice.injEq] at h1
        obtain ⟨rfl, -, rfl⟩ := h1
        clear h3 h5 h6 h7
        have hci : (m : Int) ≤ (vc : Int) := by omega
        by_cases hcap : vc = 1
        · subst hcap
          obtain rfl : m = 1 := by omega
          go_wp2
          go_ret
          exact ⟨some ⟨b, 0, none⟩, 0, 0, [], rfl, .inl rfl, rfl, by omega, (by rintro a ⟨⟩; show w.heap.size ≤ b; omega), HC2.out.mono (by omega), HG2.out, (fun h => by cases h), Nat.le_refl _⟩
        · go_wp2
          go_ret
          exact ⟨some ⟨b, 1, none⟩, m - 1, vc - 1, zs.drop 1, rfl, tail_ints HI2.out, by rw [List.length_drop, HL2.out], by omega, (by rintro a ⟨⟩; show w.heap.size ≤ b; omega), HC2.out.mono (by omega), HG2.out, (fun h => by cases h), by omega⟩
    · have hmi : (m : Int) ≤ 0 := by omega
      go_wp2
      go_ret
      exact ⟨va, m, vc, zs, rfl, HI2.out, HL2.out, by omega, HB2.out, HC2.out.mono (by omega), HG2.out, HCap2.out⟩
  have y1b : (y == 1) = false := by simp [y1]
  by_cases y2 : y = 2
  · have y2b : (y == 2) = true := by simp [y2]
    subst y2
    by_cases hm0 : 0 < m
    · have hmi : (0 : Int) < (m : Int) := by omega
      rcases HO2.out.2 with ⟨h1, h2⟩ | ⟨b, cap, cur, h1, h2, h3, h4, h5, h6, h7⟩
      · omega
      · simp only [Value.slice.injEq] at h1
        obtain ⟨rfl, -, rfl⟩ := h1
        clear h3 h5 h6 h7
        have hbw : b ≠ w.heap.size := by omega
        obtain ⟨c0, c1, c2⟩ := HR2.out
        go_wp2_with fail
        go_region_held3 (fun w' => w'.cell? ⟨w.heap.size, 0, none⟩ = some (.int .i64 P) ∧ w'.cell? ⟨w.heap.size, 1, none⟩ = some (.int .i64 Q) ∧ w'.cell? ⟨w.heap.size, 2, none⟩ = some (.int .i64 G)) (first | exact ⟨c0, c1, c2⟩ | exact ⟨d0, d1, d2⟩ | exact HR3.out.below (ba _ _) | exact GR.drew (HR2.out.below (ba _ _)) | exact HR2.out.below (ba _ _) | exact ⟨e0, e1, e2⟩ | exact HR4.out.oth _ _ hbw | exact (GR.drew HR4.out).oth _ _ hbw) ((first
          | (go_at_call 136; refine (pick_any g (k + 4 * m + 2) m (by omega) (by omega) _ (by first | exact HC2.out | exact HC2.out.drew)).mono ?_; rintro e w3 ⟨x, rfl, hx, hc3, hg3⟩; have hx0 : 0 ≤ x := hx.1; obtain ⟨j, rfl⟩ := Int.eq_ofNat_of_zero_le hx0; have hj : j < m := (by omega); have hji : (j : Int) < (m : Int) := (by omega); have HO3 := Lib.hid (show w3.ownsRow (w.heap.size + 1) 3 1 (.slice (some ⟨b, 0, none⟩) m vc) m (zs.map (Value.int .i64)) from (by first | exact own_cur HO2.out hg3 hgl1 | exact own_cur (w := w2.drew) HO2.out hg3 hgl1)); have HC3 := Lib.hid hc3; have HG3 := Lib.hid (show w.grownBy w3 (some g) from by first | exact grown_trans HG2.out hg3 | exact grown_trans HG2.out (grown_trans (grown_drew _ _) hg3)); have HR3 := Lib.hid (show GR w3 w.heap.size P Q G from by first | exact HR2.out.grown hg3 hne | exact GR.grown (GR.drew HR2.out) hg3 hne); obtain ⟨d0, d1, d2⟩ := HR3.out; clear hc3 hg3 hx)
          | (go_at_call 136; refine (pick_any g (k + 4 * m + 2) m (by omega) (by omega) _ (by first | exact HC2.out.below (ba _ _) | exact (HC2.out.below (ba _ _)).drew)).mono ?_; rintro e w3 ⟨x, rfl, hx, hc3, hg3⟩; have hx0 : 0 ≤ x := hx.1; obtain ⟨j, rfl⟩ := Int.eq_ofNat_of_zero_le hx0; have hj : j < m := (by omega); have hji : (j : Int) < (m : Int) := (by omega); have hal3 := grown_below (ba w2 (.cells #[.int .i64 (-1), .int .i64 Q] 3)) (some g); have hg4 := (show w2.grownBy w3 (some g) from by first | exact grown_trans hal3 hg3 | exact grown_trans (grown_trans hal3 (grown_drew _ _)) hg3); have HL3 := Lib.hid (lit_grown (w := w2) (w' := w3) (g := g) [-1, Q] 3 (by first | exact hg3 | exact grown_trans (grown_drew _ _) hg3) HC2.out.lt); have HO3 := Lib.hid (show w3.ownsRow (w.heap.size + 1) 3 1 (.slice (some ⟨b, 0, none⟩) m vc) m (zs.map (Value.int .i64)) from (by exact own_cur HO2.out hg4 hgl1)); have HC3 := Lib.hid hc3; have HG3 := Lib.hid (show w.grownBy w3 (some g) from (by exact grown_trans HG2.out hg4)); have HR3 := Lib.hid (show GR w3 w.heap.size P Q G from (by exact HR2.out.grown hg4 hne)); obtain ⟨d0, d1, d2⟩ := HR3.out; clear hc3 hg3 hx hal3 hg4)
          | (have HL4 := HL3; go_at_call 94; refine (among_any g _ _ _ _ [-1, Q] (by omega) rfl (by simp) (by simp) (by rintro a ⟨⟩; have := HC2.out.lt; simp; omega) _ HL3.out HC3.out).mono ?_; rintro e w4 ⟨v, rfl, _, hc4, hg4⟩; have HO4 := Lib.hid (own_cur HO3.out hg4 hgl1); have HC4 := Lib.hid hc4; have HG4 := Lib.hid (grown_trans HG3.out hg4); have HR4 := Lib.hid (show GR w4 w.heap.size P Q G from HR3.out.grown hg4 hne); obtain ⟨e0, e1, e2⟩ := HR4.out; obtain ⟨⟨u, hu⟩, hfu⟩ := own_cell HO4.out hj; clear hc4 hg4)
          | (go_at_call 94; refine (among_any g _ _ _ _ [-1, Q] (by omega) rfl (by simp) (by simp) (by rintro a ⟨⟩; have := HC3.out.lt; simp; omega) _ (ints_spot w3 _ rfl [-1, Q] 3) (HC3.out.below (ba _ _))).mono ?_; rintro e w4 ⟨v, rfl, _, hc4, hg4⟩; have hal4 := ba w3 (.cells #[.int .i64 (-1), .int .i64 Q] 3); have HO4 := Lib.hid (own_cur (own_below HO3.out hal4) hg4 hgl1); have HC4 := Lib.hid hc4; have HG4 := Lib.hid (grown_trans HG3.out (grown_trans (grown_below hal4 _) hg4)); have HR4 := Lib.hid (show GR w4 w.heap.size P Q G from (HR3.out.below hal4).grown hg4 hne); obtain ⟨e0, e1, e2⟩ := HR4.out; obtain ⟨⟨u, hu⟩, hfu⟩ := own_cell HO4.out hj; clear hc4 hg4 hal4)))
        all_goals (
          obtain ⟨st1, st2⟩ := HO4.out.stored j (.int .i64 v)
          rw [← List.map_set] at st1
          obtain ⟨hi5, hl5, -⟩ := own_ints st1
          have HI5 := Lib.hid hi5
          have HL5 := Lib.hid hl5
          have HC5 := Lib.hid (HC4.out.above st2 hgl1 (fun q hq => by cases hq; exact h2))
          have HG5 := Lib.hid (grown_own HG4.out st2 (fun q hq => by cases hq; omega))
          clear st1 st2 hi5 hl5
          go_wp2
          go_ret
          first
            | exact ⟨some ⟨b, 0, none⟩, m, vc, zs.set j v, rfl, HI5.out, HL5.out, by omega, (by rintro a ⟨⟩; show w.heap.size ≤ b; omega), HC5.out.mono (by omega), HG5.out, HCap2.out⟩
            | exact ⟨some ⟨b, 0, none⟩, m, vc, zs.set j v, rfl, HI5.out, HL5.out, by omega, (by rintro a ⟨⟩; show w.heap.size ≤ b; omega), HC5.out.drew.mono (by omega), grown_trans HG5.out (grown_drew _ _), HCap2.out⟩)
    · have hmi : (m : Int) ≤ 0 := by omega
      go_wp2
      go_ret
      exact ⟨va, m, vc, zs, rfl, HI2.out, HL2.out, by omega, HB2.out, HC2.out.mono (by omega), HG2.out, HCap2.out⟩
  have y2b : (y == 2) = false := by simp [y2]
  go_wp2
  go_ret
  exact ⟨va, m, vc, zs, rfl, HI2.out, HL2.out, by omega, HB2.out, HC2.out.mono (by omega), HG2.out, HCap2.out⟩

theorem anyCoins_any (g k : Nat) (hk : k ≤ 800000000) (P Q G : Int) (q0 : -1 ≤ Q) (q1 : Q ≤ 2000000000) (m : Nat) (hm : m ≤ 30) (w : World) (hc : Cur w g k) :
    Calls Try.prog 151 #[.pointer (some ⟨g, 0, none⟩), gv P Q G, .int .i64 m] w (ReadPost w g (k + 4 * m + 6) 31) := by
  refine (anyCoinsC_any g k hk P Q G q0 q1 m hm w hc).mono ?_
  rintro e w' ⟨ad, n, cap, zs, h1, h2, h3, h4, h5, h6, h7, _⟩
  exact ⟨ad, n, cap, zs, h1, h2, h3, h4, h5, h6, h7⟩

end Go.Proofs.Ytdnofcpobpoehaa

/- What the laws of layer 2 draw: DrawProductOfPowers, DrawLogOf. -/
namespace Go.Proofs.Ytdnofcpobpoehaa
open Go.RowKit

theorem results_cell_tmp2 {fn : Func} {p u v : Tmp} {ty : TypeId} (h : fn.results = #[.cell p ty, .tmp u, .tmp v]) (tmps : Array Value) (P : Program) (w : World) :
    (results fn tmps).run P w =
      ((asAddr (tmps.getD p undef)).run P w).andThen fun a w₁ => ((loadVar ty a).run P w₁).andThen fun x w₂ => .ok (.tuple #[x, tmps.getD u undef, tmps.getD v undef]) w₂ := by
  simp only [results, h]
  simp [Sem.run_bind, Result.andThen]
theorem results_cell_tmp3 {fn : Func} {p u v y : Tmp} {ty : TypeId} (h : fn.results = #[.cell p ty, .tmp u, .tmp v, .tmp y]) (tmps : Array Value) (P : Program) (w : World) :
    (results fn tmps).run P w =
      ((asAddr (tmps.getD p undef)).run P w).andThen fun a w₁ => ((loadVar ty a).run P w₁).andThen fun x w₂ => .ok (.tuple #[x, tmps.getD u undef, tmps.getD v undef, tmps.getD y undef]) w₂ := by
  simp only [results, h]
  simp [Sem.run_bind, Result.andThen]

def DrawPop (w : World) (e : Ending) (w' : World) : Prop :=
  ∃ (P Q G : Int) (ad : Option Addr) (n cap : Nat) (zs : List Int) (ad' : Option Addr) (n' cap' : Nat) (es : List Int), e = .returned (.tuple #[gv P Q G, .slice ad n cap, .slice ad' n' cap']) ∧ DB P Q G ∧
    (IsInts w' ad zs ∧ zs.length = n ∧ n ≤ 25) ∧ (IsInts w' ad' es ∧ es.length = n' ∧ n' ≤ 31) ∧ Below w.heap.size w w'
theorem ints_set3 {w : World} {ad : Option Addr} {zs : List Int} {b : Nat} (h : IsInts w ad zs) (x y z : Value) (hne : ∀ a, ad = some a → b + 1 ≤ a.block) : IsInts (((w.setCell ⟨b, 0, none⟩ x).setCell ⟨b, 1, none⟩ y).setCell ⟨b, 2, none⟩ z) ad zs := by
  have hn : ∀ a, ad = some a → a.block ≠ b := fun a ha => by have := hne a ha; omega
  exact ints_set (ints_set (ints_set h _ _ hn) _ _ hn) _ _ hn

end Go.Proofs.Ytdnofcpobpoehaa

/- What laws draw: labels; the arguments of DeriveElements and BasesOf. -/
namespace Go.Proofs.Ytdnofcpobpoehaa
open Go.RowKit

def StrPost (w : World) (g k : Nat) (most : Nat) (e : Ending) (w' : World) : Prop :=
  ∃ s : ByteArray, e = .returned (.string s) ∧ s.size ≤ most ∧ Cur w' g k ∧ w.grownBy w' (some g)

set_option maxHeartbeats 800000 in
theorem of_any (g k n b : Nat) (ss : List ByteArray) (most : Nat) (hk : k ≤ 100000000000) (hn : ss.length = n) (h0 : 0 < n) (hl : n ≤ 1000) (hne : b ≠ g) (hm : ∀ s ∈ ss, s.size ≤ most) (w : World)
    (hz : ∀ i (h : i < ss.length), w.cell? ⟨b, i, none⟩ = some (.string ss[i])) (hc : Cur w g k) :
    Calls Try.prog 137 #[.pointer (some ⟨g, 0, none⟩), .slice (some ⟨b, 0, none⟩) n n] w (StrPost w g (k + 2) most) := by
  have HC := Lib.hid hc
  have HN := Lib.hid hn
  have HM := Lib.hid hm
  clear hc hn hm
  go_enter Try.func137, Try.ntmps137
  go_wp2_with fail
  refine (pick_any g k n hk (by omega) _ HC.out).mono ?_
  rintro e w1 ⟨x, rfl, hx, hc1, hg1⟩
  have hx0 : 0 ≤ x := hx.1
  have hxn : x < (n : Int) := by omega
  obtain ⟨i, rfl⟩ := Int.eq_ofNat_of_zero_le hx0
  have hi : i < ss.length := by have := HN.out; omega
  have hcell : w1.cell? ⟨b, i, none⟩ = some (.string ss[i]) := hg1.cell (a := ⟨b, i, none⟩) (hz i hi) (by simpa using hne)
  have HS := Lib.hid (HM.out _ (List.getElem_mem hi))
  generalize ss[i] = s at hcell HS
  have HC1 := Lib.hid hc1
  have HG1 := Lib.hid hg1
  clear hc1 hg1 hx hz
  go_wp2
  go_ret
  exact ⟨s, rfl, HS.out, HC1.out, HG1.out⟩

theorem strs_lit (w : World) (ss : List ByteArray) (t : TypeId) : ∀ i (h : i < ss.length), (w.alloc (.cells (ss.map Value.string).toArray t)).cell? ⟨w.heap.size, i, none⟩ = some (.string ss[i]) := fun i h => by
  rw [World.cell?_alloc_at _ _ _ _ rfl]
  simp [h]

set_option maxHeartbeats 3200000 in
theorem label_any (g k : Nat) (hk : k ≤ 900000000) (w : World) (hc : Cur w g k) :
    Calls Try.prog 93 #[.pointer (some ⟨g, 0, none⟩)] w (StrPost w g (k + 200) 41) := by
  have hs := hc.lt
  obtain ⟨ss, hss⟩ : ∃ ss : List ByteArray, ss = [⟨#[]⟩, ⟨#[97]⟩, ⟨#[118, 111, 116, 101]⟩, ⟨#[109, 105, 120]⟩, ⟨#[98, 111, 97, 114, 100, 32, 49]⟩, ⟨#[107, 101, 121]⟩, ⟨#[108, 111, 110, 103, 32, 108, 97, 98, 101, 108, 32, 119, 105, 116, 104, 32, 115, 101, 118, 101, 114, 97, 108, 32, 119, 111, 114, 100, 115, 32, 105, 110, 32, 105, 116]⟩] := ⟨_, rfl⟩
  have hal := ba w (.cells (ss.map Value.string).toArray 9)
  have hz := strs_lit w ss 9
  have hm : ∀ s ∈ ss, s.size ≤ 40 := by subst hss; decide
  have hn : ss.length = 7 := by subst hss; rfl
  have HC := Lib.hid (hc.below hal)
  have HG := Lib.hid (grown_below hal (some g))
  have hof := of_any g k 7 w.heap.size ss 40 (by omega) hn (by decide) (by decide) (by omega) hm _ hz HC.out
  have HOF := Lib.hid hof
  clear hc hal hz hm hn hof
  go_enter Try.func93, Try.ntmps93
  go_wp2_with fail
  subst hss
  refine HOF.out.mono ?_
  rintro e w1 ⟨s, rfl, hsz, hc1, hg1⟩
  have HC1 := Lib.hid hc1
  have HG1 := Lib.hid (grown_trans HG.out hg1)
  clear hc1 hg1 HOF
  go_wp2_with fail
  refine (one_any g _ 16 (by omega) (by omega) _ HC1.out).mono ?_
  rintro e w2 ⟨b, rfl, hc2, hg2⟩
  have HC2 := Lib.hid hc2
  have HG2 := Lib.hid (grown_trans HG1.out hg2)
  clear hc2 hg2
  cases b
  · go_wp2
    go_ret
    exact ⟨s, rfl, by omega, HC2.out.mono (by omega), HG2.out⟩
  · go_wp2
    go_loopw [3] (fun S wr => ∃ q : ByteArray, S = .string q ∧ q.size ≤ 41 ∧ Cur wr g (k + 4 + 2 * q.size) ∧ w.grownBy wr (some g)) (fun S _ => match S with | .string q => 42 - q.size | _ => 0)
    case atStart => exact ⟨s, rfl, by omega, HC2.out.mono (by omega), HG2.out⟩
    case round =>
      obtain ⟨q, rfl, hq, hcr, hgr⟩ := hrel
      have HCr := Lib.hid hcr
      have HGr := Lib.hid hgr
      clear hcr hgr
      go_wp2_with fail
      refine (pick_any g _ 2 (by omega) (by omega) _ HCr.out).mono ?_
      rintro e w3 ⟨y, rfl, hy, hc3, hg3⟩
      have hy0 : 0 ≤ y := hy.1
      have hy1 : y ≤ 1 := by omega
      have HC3 := Lib.hid hc3
      have HG3 := Lib.hid (grown_trans HGr.out hg3)
      clear hc3 hg3 hy
      by_cases hlt : (q.size : Int) < 40 + y
      · obtain ⟨r, hr⟩ : ∃ r : ByteArray, r = q ++ ⟨#[120]⟩ := ⟨_, rfl⟩
        have hrs : r.size = q.size + 1 := by rw [hr, ByteArray.size_append]; rfl
        go_wp2
        rw [← hr]
        refine ⟨⟨r, rfl, by omega, HC3.out.mono (by omega), HG3.out⟩, ?_⟩
        show 42 - r.size < 42 - q.size
        omega
      · go_wp2
        go_ret
        exact ⟨q, rfl, by omega, HC3.out.mono (by omega), HG3.out⟩

/-- What DrawDeriveElements hands out. -/
def DrawDer (w : World) (e : Ending) (w' : World) : Prop :=
  ∃ (P Q G x : Int) (s : ByteArray), e = .returned (.tuple #[gv P Q G, .string s, .int .i64 x]) ∧ DB P Q G ∧ (-1 ≤ x ∧ x ≤ 101) ∧ s.size ≤ 41 ∧ Below w.heap.size w w'

set_option maxRecDepth 100000 in
set_option maxHeartbeats 3200000 in
theorem drawDeriveElements_any (ad : Option Addr) (n cap : Nat) (w : World) (hb : IsB w ad n) :
    Calls Try.prog 45 #[.slice ad n cap] w (DrawDer w) := by
  have hal := ba w (.cells #[.int .i64 0, .int .i64 0, .int .i64 0] 29)
  have HC := Lib.hid (cur_at (w.alloc (.cells #[.int .i64 0, .int .i64 0, .int .i64 0] 29)) (w.heap.size + 1) (by simp) ad n cap (hb.below hal) 120)
  have hal2 := ba (w.alloc (.cells #[.int .i64 0, .int .i64 0, .int .i64 0] 29)) (.cells #[.slice ad n cap, .int .i64 0, .int .u64 0] 120)
  have HB := Lib.hid (bt hal hal2)
  have HO := Lib.hid ((own3_new w 0 0 0 29).below hal2)
  clear hb hal hal2
  go_enter Try.func45, Try.ntmps45
  go_wp2_with fail
  refine (anyGroup_any (w.heap.size + 1) 0 (Nat.zero_le _) _ HC.out).mono ?_
  rintro e w1 ⟨P, Q, G, rfl, hd, hc1, hg1⟩
  have HB1 := Lib.hid (below_at HB.out hg1 (by omega))
  have HO1 := Lib.hid (HO.out.grown hg1 (by omega))
  have HD := Lib.hid hd
  have HC1 := Lib.hid hc1
  clear hg1 hd hc1
  go_wp2_with fail
  refine (label_any (w.heap.size + 1) _ (by omega) _ HC1.out).mono ?_
  rintro e w2 ⟨s, rfl, hs, hc2, hg2⟩
  have hlt2 := hc2.lt
  have HB2 := Lib.hid (below_at HB1.out hg2 (by omega))
  have HO2 := Lib.hid (HO1.out.grown hg2 (by omega))
  have HC2 := Lib.hid hc2
  clear hg2 hc2
  have hal3 := ba w2 (.cells #[.int .i64 0, .int .i64 1, .int .i64 3, .int .i64 8, .int .i64 100, .int .i64 101, .int .i64 (-1)] 3)
  have HB3 := Lib.hid (bt HB2.out hal3)
  have HO3 := Lib.hid (HO2.out.below hal3)
  have HC3 := Lib.hid (HC2.out.below hal3)
  clear hal3
  go_wp2_with fail
  refine (among_any (w.heap.size + 1) _ _ _ _ [0, 1, 3, 8, 100, 101, -1] (by omega) rfl (by simp) (by simp) (by rintro a ⟨⟩; simp; omega) _ (ints_lit w2 [0, 1, 3, 8, 100, 101, -1] 3) HC3.out).mono ?_
  rintro e w4 ⟨x, rfl, hx, hc4, hg4⟩
  have HX := Lib.hid (show -1 ≤ x ∧ x ≤ 101 from by simp at hx; omega)
  have HB4 := Lib.hid (below_at HB3.out hg4 (by omega))
  have HO4 := Lib.hid (HO3.out.grown hg4 (by omega))
  clear hg4 hc4 hx
  obtain ⟨⟨d0, d1, d2⟩, df⟩ := HO4.out
  have df0 := df 0
  have df1 := df 1
  have df2 := df 2
  clear df
  go_wp2
  (try simp only [Exit.inBlock, Exit.then])
  refine bodyPost_ret (v := .tuple #[gv P Q G, .string s, .int .i64 x]) ?_ rfl ⟨P, Q, G, x, s, rfl, HD.out, HX.out, hs, ?_⟩
  · rw [results_cell_tmp2 rfl]; go_simp
  · exact ((HB4.out.setCell (Nat.le_refl _) _).setCell (Nat.le_refl _) _).setCell (Nat.le_refl _) _

/-- What DrawBasesOf hands out. -/
def DrawBs (w : World) (e : Ending) (w' : World) : Prop :=
  ∃ (P Q G x : Int), e = .returned (.tuple #[gv P Q G, .int .i64 x]) ∧ DB P Q G ∧ (-1 ≤ x ∧ x ≤ 25) ∧ Below w.heap.size w w'

set_option maxRecDepth 100000 in
set_option maxHeartbeats 3200000 in
theorem drawBasesOf_any (ad : Option Addr) (n cap : Nat) (w : World) (hb : IsB w ad n) :
    Calls Try.prog 51 #[.slice ad n cap] w (DrawBs w) := by
  have hal := ba w (.cells #[.int .i64 0, .int .i64 0, .int .i64 0] 29)
  have HC := Lib.hid (cur_at (w.alloc (.cells #[.int .i64 0, .int .i64 0, .int .i64 0] 29)) (w.heap.size + 1) (by simp) ad n cap (hb.below hal) 120)
  have hal2 := ba (w.alloc (.cells #[.int .i64 0, .int .i64 0, .int .i64 0] 29)) (.cells #[.slice ad n cap, .int .i64 0, .int .u64 0] 120)
  have HB := Lib.hid (bt hal hal2)
  have HO := Lib.hid ((own3_new w 0 0 0 29).below hal2)
  clear hb hal hal2
  go_enter Try.func51, Try.ntmps51
  go_wp2_with fail
  refine (anyGroup_any (w.heap.size + 1) 0 (Nat.zero_le _) _ HC.out).mono ?_
  rintro e w1 ⟨P, Q, G, rfl, hd, hc1, hg1⟩
  have hlt1 := hc1.lt
  have HB1 := Lib.hid (below_at HB.out hg1 (by omega))
  have HO1 := Lib.hid (HO.out.grown hg1 (by omega))
  have HD := Lib.hid hd
  have HC1 := Lib.hid hc1
  clear hg1 hd hc1
  have hal3 := ba w1 (.cells #[.int .i64 0, .int .i64 1, .int .i64 3, .int .i64 8, .int .i64 24, .int .i64 25, .int .i64 (-1)] 3)
  have HB3 := Lib.hid (bt HB1.out hal3)
  have HO3 := Lib.hid (HO1.out.below hal3)
  have HC3 := Lib.hid (HC1.out.below hal3)
  clear hal3
  go_wp2_with fail
  refine (among_any (w.heap.size + 1) _ _ _ _ [0, 1, 3, 8, 24, 25, -1] (by omega) rfl (by simp) (by simp) (by rintro a ⟨⟩; simp; omega) _ (ints_lit w1 [0, 1, 3, 8, 24, 25, -1] 3) HC3.out).mono ?_
  rintro e w4 ⟨x, rfl, hx, hc4, hg4⟩
  have HX := Lib.hid (show -1 ≤ x ∧ x ≤ 25 from by simp at hx; omega)
  have HB4 := Lib.hid (below_at HB3.out hg4 (by omega))
  have HO4 := Lib.hid (HO3.out.grown hg4 (by omega))
  clear hg4 hc4 hx
  obtain ⟨⟨d0, d1, d2⟩, df⟩ := HO4.out
  have df0 := df 0
  have df1 := df 1
  have df2 := df 2
  clear df
  go_wp2
  (try simp only [Exit.inBlock, Exit.then])
  refine bodyPost_ret (v := .tuple #[gv P Q G, .int .i64 x]) ?_ rfl ⟨P, Q, G, x, rfl, HD.out, HX.out, ?_⟩
  · rw [results_cell_tmp rfl]; go_simp
  · exact ((HB4.out.setCell (Nat.le_refl _) _).setCell (Nat.le_refl _) _).setCell (Nat.le_refl _) _

def AnyExPost (w : World) (g k : Nat) (e : Ending) (w' : World) : Prop :=
  ∃ x : Int, e = .returned (.int .i64 x) ∧ (-3 ≤ x ∧ x ≤ 2000000000) ∧ Cur w' g k ∧ w.grownBy w' (some g)

set_option maxHeartbeats 1000000 in
theorem anyExpo_any (g k : Nat) (hk : k ≤ 900000000) (P Q G : Int) (q0 : -1 ≤ Q) (q1 : Q ≤ 2000000000) (w : World) (hc : Cur w g k) :
    Calls Try.prog 102 #[.pointer (some ⟨g, 0, none⟩), gv P Q G] w (AnyExPost w g (k + 6)) := by
  have hgl := hc.lt
  have hal := ba w (.cells #[.int .i64 P, .int .i64 Q, .int .i64 G] 29)
  have HC := Lib.hid (hc.below hal)
  have HG := Lib.hid (grown_below hal (some g))
  have HR := Lib.hid (gr_new w P Q G 29)
  have hne : w.heap.size ≠ g := by omega
  clear hc hal
  have hw3 : IntKind.i64.wrap (Q - 1) = Q - 1 := by rw [IntKind.wrap_i64]; omega
  obtain ⟨b0, b1, b2⟩ := HR.out
  go_enter Try.func102, Try.ntmps102
  go_wp2_with fail
  refine (one_any g k 24 (by omega) (by omega) _ HC.out).mono ?_
  rintro e w1 ⟨b, rfl, hc1, hg1⟩
  have HC1 := Lib.hid hc1
  have HG1 := Lib.hid (grown_trans HG.out hg1)
  have HR1 := Lib.hid (HR.out.grown hg1 hne)
  clear hc1 hg1 b0 b1 b2
  obtain ⟨c0, c1, c2⟩ := HR1.out
  cases b
  · go_wp2_with fail
    refine (expo_any g _ (by omega) P Q G q0 q1 _ HC1.out).mono ?_
    rintro e w2 ⟨x, rfl, hx, hc2, hg2⟩
    have HC2 := Lib.hid hc2
    have HG2 := Lib.hid (grown_trans HG1.out hg2)
    clear hc2 hg2
    go_wp2
    go_ret
    exact ⟨x, rfl, ⟨by omega, by omega⟩, HC2.out.mono (by omega), HG2.out⟩
  · go_wp2_with fail
    have hal2 := ba w1 (.cells #[.int .i64 Q, .int .i64 (-1), .int .i64 (Q - 1)] 3)
    refine (among_any g _ _ _ _ [Q, -1, Q - 1] (by omega) rfl (by simp) (by simp) (by rintro a ⟨⟩; have := HC1.out.lt; simp; omega) _ (ints_lit w1 [Q, -1, Q - 1] 3) (HC1.out.below hal2)).mono ?_
    rintro e w3 ⟨q, rfl, hm, hc4, hg4⟩
    have hq : -3 ≤ q ∧ q ≤ 2000000000 := by
      simp at hm
      omega
    have HC4 := Lib.hid hc4
    have HG4 := Lib.hid (grown_trans HG1.out (grown_trans (grown_below hal2 (some g)) hg4))
    clear hc4 hg4 hal2 hm
    go_wp2
    go_ret
    exact ⟨q, rfl, hq, HC4.out.mono (by omega), HG4.out⟩
end Go.Proofs.Ytdnofcpobpoehaa

