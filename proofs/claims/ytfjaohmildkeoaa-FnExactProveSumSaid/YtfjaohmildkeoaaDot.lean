/- DotMod of the program and of the reference. -/
import Derived.Test.YtfjaohmildkeoaaSum
import Derived.Test.YtfjaohmildkeoaaPairs
import Derived.RegionTactic
import Derived.BigRegion
namespace Go.Proofs.Ytfjaohmildkeoaa
open Go.RowKit

/-- The sum of products modulo m, from 'acc' on, over a flat list of pairs. -/
def dotF (m acc : Int) : List Int → Int
  | p :: q :: rest => dotF m ((acc + p * q) % m) rest
  | _ => acc
def zipFlat : List Int → List Int → List Int
  | x :: xs, y :: ys => x :: y :: zipFlat xs ys
  | _, _ => []
/-- The same over two lists. -/
def dotFrom (m acc : Int) : List Int → List Int → Int
  | x :: xs, y :: ys => dotFrom m ((acc + x * y) % m) xs ys
  | _, _ => acc
theorem dotF_zip (m acc : Int) (xs ys : List Int) : dotF m acc (zipFlat xs ys) = dotFrom m acc xs ys := by
  induction xs generalizing acc ys with
  | nil => cases ys <;> simp [zipFlat, dotF, dotFrom]
  | cons x xs ih =>
    cases ys with
    | nil => simp [zipFlat, dotF, dotFrom]
    | cons y ys => simp [zipFlat, dotF, dotFrom, ih]
theorem zipFlat_length (xs ys : List Int) (h : xs.length = ys.length) : (zipFlat xs ys).length = xs.length * 2 := by
  induction xs generalizing ys with
  | nil => cases ys <;> simp [zipFlat]
  | cons x xs ih =>
    cases ys with
    | nil => simp at h
    | cons y ys =>
      have := ih ys (by simpa using h)
      simp [zipFlat, this]; omega
theorem zipFlat_mem (xs ys : List Int) : ∀ z ∈ zipFlat xs ys, z ∈ xs ∨ z ∈ ys := by
  induction xs generalizing ys with
  | nil => cases ys <;> simp [zipFlat]
  | cons x xs ih =>
    cases ys with
    | nil => simp [zipFlat]
    | cons y ys =>
      intro z hz
      simp only [zipFlat, List.mem_cons] at hz
      rcases hz with rfl | rfl | hz
      · simp
      · simp
      · rcases ih ys z hz with h | h <;> simp [h]
theorem zipFlat_drop (xs ys : List Int) (k : Nat) : (zipFlat xs ys).drop (k * 2) = zipFlat (xs.drop k) (ys.drop k) := by
  induction k generalizing xs ys with
  | zero => simp
  | succ k ih =>
    cases xs with
    | nil => cases ys <;> simp [zipFlat]
    | cons x xs =>
      cases ys with
      | nil => simp only [zipFlat, List.drop_nil]; cases (List.drop (k + 1) (x :: xs)) <;> simp [zipFlat]
      | cons y ys =>
        rw [show (k + 1) * 2 = k * 2 + 1 + 1 by omega]
        simp [zipFlat, ih]

theorem prod_bound {p q m : Int} (hp : 0 ≤ p ∧ p < m) (hq : 0 ≤ q ∧ q < m) (h3 : m ≤ 2000000000) : 0 ≤ p * q ∧ p * q ≤ 4000000000000000000 := by
  obtain ⟨p, rfl⟩ := Int.eq_ofNat_of_zero_le hp.1
  obtain ⟨q, rfl⟩ := Int.eq_ofNat_of_zero_le hq.1
  have := Num.mul_bound (a := p) (b := q) (by omega) (by omega)
  have e : (p : Int) * q = ((p * q : Nat) : Int) := by simp
  rw [e]; omega

/-- The closure of DotMod; m lies in the captured variable. -/
theorem dotStep_any (a p q m : Int) (h0 : 0 ≤ a) (h1 : a ≤ 2000000000) (h2 : 0 ≤ p * q) (h3 : p * q ≤ 4000000000000000000) (h4 : 2 ≤ m) (B : Nat) (w : World) (hB : B < w.heap.size) (hc : w.cell? ⟨B, 0, none⟩ = some (.int .i64 m)) :
    Calls Try.prog 177 #[.int .i64 a, .agg #[.int .i64 p, .int .i64 q], .pointer (some ⟨B, 0, none⟩)] w fun e w' => e = .returned (.int .i64 ((a + p * q) % m)) ∧ Below w.heap.size w w' := by
  have hne : B ≠ w.heap.size := by omega
  have hb1 := (Below.refl w.heap.size w).alloc (Nat.le_refl _) (.cells #[.int .i64 p, .int .i64 q] 175)
  have hc' : (w.alloc (.cells #[.int .i64 p, .int .i64 q] 175)).cell? ⟨B, 0, none⟩ = some (.int .i64 m) := by rw [hb1.cell (p := ⟨B, 0, none⟩) hB, hc]
  have HB1 := Lib.hid hb1
  clear hb1
  go_enter Try.func177, Try.ntmps177
  go_wp2
  go_ret
  exact ⟨rfl, HB1.out⟩

theorem dotF_step {m acc t : Int} {zs rest : List Int} {p q : Int} {k : Nat} (h : zs.drop k = p :: q :: rest) (hb : t = dotF m acc (zs.drop k)) : t = dotF m ((acc + p * q) % m) rest := by
  rw [hb, h]; rfl

set_option maxHeartbeats 1600000 in
theorem foldDot_any (ad : Option Addr) (n cap : Nat) (zs : List Int) (m : Int) (hn : zs.length = n * 2) (hl : n ≤ 17592186044416) (h2 : 2 ≤ m) (h3 : m ≤ 2000000000) (hr : ∀ z ∈ zs, 0 ≤ z ∧ z < m) (B : Nat) (w : World)
    (hz : IsInts w ad zs) (hB : B < w.heap.size) (hcm : w.cell? ⟨B, 0, none⟩ = some (.int .i64 m)) :
    Calls Try.prog 178 #[.int .i64 0, .func (.func 177) #[] #[.pointer (some ⟨B, 0, none⟩)], .slice ad n cap] w fun e w' => e = .returned (.int .i64 (dotF m 0 zs)) ∧ Below w.heap.size w w' := by
  have HR := Lib.hid hr
  have HN := Lib.hid hn
  have HC := Lib.hid hcm
  clear hr hn hcm
  go_enter Try.func178, Try.ntmps178
  go_wp2
  go_loopw [7, 13] (fun A K wr => ∃ (k : Nat) (a : Int), k ≤ n ∧ (0 ≤ a ∧ a < m) ∧ A = .int .i64 a ∧ K = .int .i64 k ∧ dotF m 0 zs = dotF m a (zs.drop (k * 2)) ∧ Below w.heap.size w wr) (fun _ K _ => n - (intOf K).toNat)
  case atStart => exact ⟨0, 0, Nat.zero_le _, ⟨Int.le_refl _, by omega⟩, rfl, rfl, rfl, Below.refl _ _⟩
  case round =>
    obtain ⟨k, a, hk, ⟨ha0, ha1⟩, rfl, rfl, he, hbel⟩ := hrel
    by_cases hkn : k < n
    · obtain ⟨b, off, p, q, rfl, hb, hc1, hc2, hd⟩ := (hz.below hbel (Nat.le_refl _)).pair hkn HN.out
      have HS := Lib.hid (dotF_step hd he)
      have hpm := HR.out p (mem_drop hd)
      have hqm := HR.out q (List.mem_of_mem_drop (i := k * 2) (by rw [hd]; simp))
      obtain ⟨hpq0, hpq1⟩ := prod_bound hpm hqm h3
      clear hpm hqm he hd
      have hp1 : 0 ≤ (a + p * q) % m := Int.emod_nonneg _ (by omega)
      have hp2 : (a + p * q) % m < m := Int.emod_lt_of_pos _ (by omega)
      have hcmr : wr.cell? ⟨B, 0, none⟩ = some (.int .i64 m) := by rw [hbel.cell (p := ⟨B, 0, none⟩) hB, HC.out]
      have hBr : B < wr.heap.size := Nat.lt_of_lt_of_le hB hbel.size
      have HB := Lib.hid hbel
      clear hbel
      go_wp2_with fail
      have hb1 := (Below.refl wr.heap.size wr).alloc (Nat.le_refl _) (.cells #[.int .i64 p, .int .i64 q] 175)
      refine (dotStep_any _ p q _ (by omega) (by omega) hpq0 hpq1 h2 _ _ (Nat.lt_of_lt_of_le hBr hb1.size) (by rw [hb1.cell (p := ⟨B, 0, none⟩) hBr, hcmr])).mono ?_
      rintro e w2 ⟨rfl, hb2⟩
      have HB2 := Lib.hid (HB.out.trans ((hb1.trans (hb2.mono hb1.size)).mono HB.out.size))
      clear hb1 hb2
      go_wp2
      go_roundw
      case rel => exact ⟨k + 1, _, by omega, ⟨hp1, hp2⟩, rfl, by go_num, HS.out, HB2.out⟩
      case measure => simp only [intOf]; omega
    · have HE := Lib.hid he
      have HB := Lib.hid hbel
      clear he hbel
      go_wp2
      go_ret
      refine ⟨?_, HB.out⟩
      rw [HE.out, List.drop_of_length_le (by rw [HN.out]; omega)]; rfl


/-! ### The list of pairs -/
theorem Try.infoIP : (Try.prog.info? 175).map (fun i => (i.zero, i.size, i.bytes)) = some (some (.agg #[.int .i64 0, .int .i64 0]), 2, 16) := by kernel_rfl

def IPairs (w : World) (base : Nat) (v : Value) (n : Nat) (res : List Int) : Prop := w.ownsRow base 175 2 v n (res.map (Value.int .i64))
def MadeIP (w : World) (n : Nat) (zs : List Int) (e : Ending) (w' : World) : Prop :=
  ∃ g, e = .returned (.slice (some ⟨g, 0, none⟩) n n) ∧ IPairs w' w.heap.size (.slice (some ⟨g, 0, none⟩) n n) n zs ∧ Below w.heap.size w w'

theorem ip_cell {wr : World} {B g n cap j : Nat} {zs : List Int} (hown : IPairs wr B (.slice (some ⟨g, 0, none⟩) n cap) n zs) (hj : j < n * 2) :
    (∃ u : Int, wr.cell? ⟨g, j, none⟩ = some (.int .i64 u)) ∧ wr.frozen? ⟨g, j, none⟩ = false := by
  refine ⟨⟨zs.getD j 0, ?_⟩, World.ownsRow.frozenAt hown j⟩
  rw [World.ownsRow.cellAt hown j hj]
  have hl : zs.length = n * 2 := by have := hown.1; simpa using this
  have hk' : j < zs.length := by omega
  simp [hk']

theorem made_two (n : Nat) : (madeCells #[Value.int .i64 0, Value.int .i64 0] n).toList = (List.replicate n (0 : Int)).map (Value.int .i64) := by
  apply List.ext_getElem?
  intro j
  by_cases hj : j < n
  · rcases (show j % 2 = 0 ∨ j % 2 = 1 by omega) with h | h <;> simp [madeCells, hj, h]
  · simp [madeCells, hj]

theorem head_of_drop {zs rest : List Int} {z : Int} {k : Nat} (h : zs.drop k = z :: rest) : ∃ hk : k < zs.length, zs[k] = z := by
  have hk : k < zs.length := by
    rcases Nat.lt_or_ge k zs.length with h' | h'
    · exact h'
    · rw [List.drop_of_length_le h'] at h; cases h
  exact ⟨hk, by rw [List.drop_eq_getElem_cons hk] at h; simpa using (List.cons.inj h).1⟩

theorem ip_store {wr : World} {B g n cap k : Nat} {xs ys rest : List Int} {x : Int} (hown : IPairs wr B (.slice (some ⟨g, 0, none⟩) n cap) n (over xs ys k)) (h : xs.drop k = x :: rest) (hl : xs.length = ys.length) :
    IPairs (wr.setCell ⟨g, k, none⟩ (.int .i64 x)) B (.slice (some ⟨g, 0, none⟩) n cap) n (over xs ys (k + 1)) := by
  obtain ⟨hk, hx⟩ := head_of_drop h
  have := (World.ownsRow.stored hown k (.int .i64 x)).1
  have e := over_step hk (show k < ys.length by omega)
  rw [hx] at e
  rwa [← List.map_set, e] at this

theorem ip_round {wr : World} {B g n cap k : Nat} {xs ys xr yr : List Int} {x y : Int} (hown : IPairs wr B (.slice (some ⟨g, 0, none⟩) n cap) n (over (zipFlat xs ys) (List.replicate (n * 2) 0) (k * 2))) (_hk : k < n)
    (hn : xs.length = n) (hn' : ys.length = n) (h : xs.drop k = x :: xr) (h' : ys.drop k = y :: yr) :
    IPairs ((wr.setCell ⟨g, k * 2, none⟩ (.int .i64 x)).setCell ⟨g, k * 2 + 1, none⟩ (.int .i64 y)).drew B (.slice (some ⟨g, 0, none⟩) n cap) n (over (zipFlat xs ys) (List.replicate (n * 2) 0) ((k + 1) * 2)) := by
  have hd : (zipFlat xs ys).drop (k * 2) = x :: y :: zipFlat xr yr := by rw [zipFlat_drop, h, h']; rfl
  have hd' : (zipFlat xs ys).drop (k * 2 + 1) = y :: zipFlat xr yr := by
    rw [← List.drop_drop, hd]; rfl
  have hl : (zipFlat xs ys).length = (List.replicate (n * 2) (0 : Int)).length := by rw [zipFlat_length _ _ (by omega)]; simp; omega
  have o1 := ip_store hown hd hl
  have o2 := ip_store o1 hd' hl
  rw [show k * 2 + 1 + 1 = (k + 1) * 2 by omega] at o2
  exact World.ownsRow.drew o2

set_option maxHeartbeats 1600000 in
theorem pairsOf_any (ad ad' : Option Addr) (n cap cap' : Nat) (xs ys : List Int) (hn : xs.length = n) (hn' : ys.length = n) (hl : n ≤ 200) (w : World) (hx : IsInts w ad xs) (hy : IsInts w ad' ys) :
    Calls Try.prog 179 #[.slice ad n cap, .slice ad' n cap'] w (MadeIP w n (zipFlat xs ys)) := by
  obtain ⟨i0, hi, hz0, hz1, hz2⟩ := info_parts Try.infoIP
  have HZ2 := Lib.hid hz2
  have HN := Lib.hid hn
  have HN' := Lib.hid hn'
  clear hz2 hn hn'
  go_enter Try.func179, Try.ntmps179
  go_wp2_with (at_make; refine wpList_make_full _ rfl _ _ 178 rfl w.heap.size 175 i0 (.agg #[.int .i64 0, .int .i64 0]) 2 Try.underlying178 hi hz0 hz1 .i64 .i64 _ _ n rfl rfl rfl rfl (by rw [HZ2.out]; omega) (by unfold maxLen; omega) (Nat.le_refl _) ?_; intro w1 hown hgrow)
  go_loopw [12] (fun K wr => ∃ k : Nat, k ≤ n ∧ K = .int .i64 k ∧ IPairs wr w.heap.size (.slice (some ⟨w.heap.size, 0, none⟩) n n) n (over (zipFlat xs ys) (List.replicate (n * 2) 0) (k * 2)) ∧ Below w.heap.size w wr) (fun K _ => n - (intOf K).toNat)
  case atStart =>
    refine ⟨0, Nat.zero_le _, rfl, ?_, (Below.refl _ _).grown hgrow (Nat.le_refl _) (by simp)⟩
    rw [over_zero]
    have h := hown
    rw [show Value.cells (.agg #[.int .i64 0, .int .i64 0]) = #[.int .i64 0, .int .i64 0] from rfl, made_two] at h
    exact h
  case round =>
    obtain ⟨k, hk, rfl, hownr, hbel⟩ := hrel
    clear hown hgrow
    by_cases hkn : k < n
    · obtain ⟨b, off, x, rfl, hb, hc, hd⟩ := (hx.below hbel (Nat.le_refl _)).at (k := k) (by have := HN.out; omega)
      obtain ⟨b', off', y, rfl, hb', hc', hd'⟩ := (hy.below hbel (Nat.le_refl _)).at (k := k) (by have := HN'.out; omega)
      obtain ⟨⟨u, hcu⟩, hfu⟩ := ip_cell (j := k * 2) hownr (by omega)
      obtain ⟨⟨u', hcu'⟩, hfu'⟩ := ip_cell (j := k * 2 + 1) hownr (by omega)
      have HO := Lib.hid hownr
      have HB := Lib.hid hbel
      have HD := Lib.hid hd
      have HD' := Lib.hid hd'
      clear hownr hbel hd hd'
      go_wp2
      go_region
      all_goals go_wp2
      go_roundw
      case rel => exact ⟨k + 1, by omega, by go_num, ip_round HO.out hkn HN.out HN'.out HD.out HD'.out, ((HB.out.setCell (Nat.le_refl _) _).setCell (Nat.le_refl _) _).drew⟩
      case measure => simp only [intOf]; omega
    · have HO := Lib.hid hownr
      have HB := Lib.hid hbel
      clear hownr hbel
      go_wp2
      go_ret
      refine ⟨w.heap.size, rfl, ?_, HB.out⟩
      have h := HO.out
      rwa [over_all _ _ (by rw [zipFlat_length _ _ (by rw [HN.out, HN'.out]), HN.out]; omega) (by simp; omega)] at h


theorem dotFrom_step {m acc t : Int} {xs ys xr yr : List Int} {x y : Int} {k : Nat} (h : xs.drop k = x :: xr) (h' : ys.drop k = y :: yr) (hb : t = dotFrom m acc (xs.drop k) (ys.drop k)) : t = dotFrom m ((acc + x * y) % m) xr yr := by
  rw [hb, h, h']; rfl

set_option maxHeartbeats 1600000 in
theorem nDot_any (ad ad' : Option Addr) (n cap cap' : Nat) (xs ys : List Int) (m : Int) (hn : xs.length = n) (hn' : ys.length = n) (hl : n ≤ 17592186044416) (h2 : 2 ≤ m) (h3 : m ≤ 2000000000) (hrx : ∀ z ∈ xs, 0 ≤ z ∧ z < m) (hry : ∀ z ∈ ys, 0 ≤ z ∧ z < m) (w : World)
    (hx : IsInts w ad xs) (hy : IsInts w ad' ys) :
    Calls Try.prog 109 #[.slice ad n cap, .slice ad' n cap', .int .i64 m] w fun e w' => e = .returned (.int .i64 (dotFrom m 0 xs ys)) ∧ w = w' := by
  have HRX := Lib.hid hrx
  have HRY := Lib.hid hry
  have HN := Lib.hid hn
  have HN' := Lib.hid hn'
  clear hrx hry hn hn'
  go_enter Try.func109, Try.ntmps109
  go_wp2
  go_loop [7, 12] (fun A K => ∃ (k : Nat) (a : Int), k ≤ n ∧ (0 ≤ a ∧ a < m) ∧ A = .int .i64 a ∧ K = .int .i64 k ∧ dotFrom m 0 xs ys = dotFrom m a (xs.drop k) (ys.drop k)) (fun _ K => n - (intOf K).toNat)
  case atStart => exact ⟨0, 0, Nat.zero_le _, ⟨Int.le_refl _, by omega⟩, rfl, rfl, rfl⟩
  case round =>
    obtain ⟨k, a, hk, ⟨ha0, ha1⟩, rfl, rfl, he⟩ := hrel
    by_cases hkn : k < n
    · obtain ⟨b, off, x, rfl, hb, hc, hd⟩ := hx.at (k := k) (by have := HN.out; omega)
      obtain ⟨b', off', y, rfl, hb', hc', hd'⟩ := hy.at (k := k) (by have := HN'.out; omega)
      have HS := Lib.hid (dotFrom_step hd hd' he)
      obtain ⟨hpq0, hpq1⟩ := prod_bound (HRX.out x (mem_drop hd)) (HRY.out y (mem_drop hd')) h3
      clear he hd hd'
      have hp1 : 0 ≤ (a + x * y) % m := Int.emod_nonneg _ (by omega)
      have hp2 : (a + x * y) % m < m := Int.emod_lt_of_pos _ (by omega)
      go_wp2
      go_round
      case rel => exact ⟨k + 1, _, by omega, ⟨hp1, hp2⟩, rfl, by go_num, HS.out⟩
      case measure => simp only [intOf]; omega
    · have HE := Lib.hid he
      clear he
      go_wp2
      go_ret
      refine ⟨?_, rfl⟩
      rw [HE.out, List.drop_of_length_le (by have := HN.out; omega), List.drop_of_length_le (by have := HN'.out; omega)]; rfl

/-- DotMod's condition and what it answers. -/
def dotB (xs ys : List Int) (m : Int) : Bool := decide (xs.length = ys.length) && listB xs m && listB ys m
def dotMod (xs ys : List Int) (m : Int) : Int := if dotB xs ys m then dotFrom m 0 xs ys else 0

set_option maxHeartbeats 1600000 in
theorem dotMod_any (ad ad' : Option Addr) (n n' cap cap' : Nat) (xs ys : List Int) (m : Int) (hn : xs.length = n) (hn' : ys.length = n') (hl : n ≤ 17592186044416) (hl' : n' ≤ 17592186044416) (w : World) (hx : IsInts w ad xs) (hy : IsInts w ad' ys) :
    Calls Try.prog 153 #[.slice ad n cap, .slice ad' n' cap', .int .i64 m] w fun e w' => e = .returned (.tuple #[.int .i64 (dotMod xs ys m), .bool (dotB xs ys m)]) ∧ Below w.heap.size w w' := by
  have hx1 : ∀ o, IsInts (w.alloc o) ad xs := fun o => hx.below ((Below.refl _ _).alloc (Nat.le_refl _) o) (Nat.le_refl _)
  have hy1 : ∀ o, IsInts (w.alloc o) ad' ys := fun o => hy.below ((Below.refl _ _).alloc (Nat.le_refl _) o) (Nat.le_refl _)
  have HN := Lib.hid hn
  have HN' := Lib.hid hn'
  by_cases hnn : n = n'
  · subst hnn
    have hxy : xs.length = ys.length := by omega
    clear hn hn'
    cases hr : listB xs m
    · have e0 : dotB xs ys m = false := by simp [dotB, hr]
      have e1 : dotMod xs ys m = 0 := by simp [dotMod, e0]
      rw [e0, e1]
      have HR := Lib.hid hr
      clear hr e0 e1 hxy
      go_enter Try.func153, Try.ntmps153
      go_wp2_with (go_at_call 141; refine (areResidues_any _ _ _ _ _ HN.out (by omega) _ (hx1 _)).mono ?_; rintro e w' ⟨rfl, rfl⟩; rw [HR.out])
      go_ret2
      exact ⟨rfl, (Below.refl _ _).alloc (Nat.le_refl _) _⟩
    · have HR := Lib.hid hr
      cases hr' : listB ys m
      · have e0 : dotB xs ys m = false := by simp [dotB, hr']
        have e1 : dotMod xs ys m = 0 := by simp [dotMod, e0]
        rw [e0, e1]
        have HR' := Lib.hid hr'
        clear hr hr' e0 e1 hxy
        go_enter Try.func153, Try.ntmps153
        go_wp2_with fail
        refine (areResidues_any _ _ _ xs _ HN.out (by omega) _ (hx1 _)).mono ?_
        rintro e w' ⟨rfl, rfl⟩; rw [HR.out]
        go_wp2_with fail
        refine (areResidues_any _ _ _ ys _ HN'.out (by omega) _ (hy1 _)).mono ?_
        rintro e w' ⟨rfl, rfl⟩; rw [HR'.out]
        go_wp2
        go_ret2
        exact ⟨rfl, (Below.refl _ _).alloc (Nat.le_refl _) _⟩
      · have e0 : dotB xs ys m = true := by simp [dotB, hr, hr', hxy]
        have e1 : dotMod xs ys m = dotFrom m 0 xs ys := by simp [dotMod, e0]
        rw [e0, e1]
        obtain ⟨h2, h3, h4, h5⟩ := res_of_list hr
        obtain ⟨_, _, _, h5'⟩ := res_of_list hr'
        have H5 := Lib.hid (show ∀ z ∈ zipFlat xs ys, 0 ≤ z ∧ z < m from fun z hz => (zipFlat_mem _ _ z hz).elim (h5 z) (h5' z))
        have HL := Lib.hid (zipFlat_length xs ys hxy)
        have H4 := Lib.hid h4
        have HR' := Lib.hid hr'
        clear hr hr' e0 e1 h5 h5' h4 hxy
        go_enter Try.func153, Try.ntmps153
        go_wp2_with fail
        refine (areResidues_any _ _ _ xs _ HN.out (by omega) _ (hx1 _)).mono ?_
        rintro e w' ⟨rfl, rfl⟩; rw [HR.out]
        go_wp2_with fail
        refine (areResidues_any _ _ _ ys _ HN'.out (by omega) _ (hy1 _)).mono ?_
        rintro e w' ⟨rfl, rfl⟩; rw [HR'.out]
        go_wp2_with fail
        refine (pairsOf_any _ _ _ _ _ xs ys HN.out HN'.out (by have := HN.out; have := H4.out; omega) _ (hx1 _) (hy1 _)).mono ?_
        rintro e w1 ⟨g, rfl, hown, hb1⟩
        obtain ⟨hz, hzn, _⟩ := ints_of_own2 hown
        have hb0 := (Below.refl w.heap.size w).alloc (Nat.le_refl _) (.cells #[.int .i64 m] 3)
        have hcm : w1.cell? ⟨w.heap.size, 0, none⟩ = some (.int .i64 m) := by rw [hb1.cell (p := ⟨w.heap.size, 0, none⟩) (by simp), new_cell]
        have hsz : w.heap.size < w1.heap.size := Nat.lt_of_lt_of_le (by simp) hb1.size
        have HB1 := Lib.hid (hb0.trans (hb1.mono hb0.size))
        clear hown hb1 hb0
        go_wp2_with fail
        refine (foldDot_any _ _ _ (zipFlat xs ys) _ hzn (by omega) h2 h3 H5.out _ _ hz hsz hcm).mono ?_
        rw [dotF_zip]
        rintro e w2 ⟨rfl, hb2⟩
        have HB2 := Lib.hid (HB1.out.trans (hb2.mono HB1.out.size))
        clear hb2
        go_wp2
        go_ret2
        exact ⟨rfl, HB2.out⟩
  · have hxy : ¬ xs.length = ys.length := by omega
    have e0 : dotB xs ys m = false := by simp [dotB, hxy]
    have e1 : dotMod xs ys m = 0 := by simp [dotMod, e0]
    rw [e0, e1]
    have hne : ((n : Int) != (n' : Int)) = true := by simp; omega
    have hni : ¬ (n : Int) = (n' : Int) := by omega
    clear hn hn' e0 e1 hxy hnn
    go_enter Try.func153, Try.ntmps153
    go_wp2
    go_ret2
    exact ⟨rfl, (Below.refl _ _).alloc (Nat.le_refl _) _⟩


end Go.Proofs.Ytfjaohmildkeoaa

