/- Slices of pairs that a law compares and marks. -/
import Derived.Test.YtcfdokngchjopaaFac
import Derived.Deep.RegionHeld3
namespace Go.Proofs.Ytcfdokngchjopaa
open Go.RowKit

theorem eqPair_same (p q : Int) (w : World) :
    Calls Try.prog 71 #[.agg #[.int .i64 p, .int .i64 q], .agg #[.int .i64 p, .int .i64 q]] w fun e w' => e = .returned (.bool true) ∧ ∃ c1 c2 : Array Value, w' = (w.alloc (.cells c1 43)).alloc (.cells c2 43) := by
  go_enter Try.func71, Try.ntmps71
  go_wp2
  go_ret
  exact ⟨rfl, _, _, rfl⟩

/-- The k-th pair of a flat list. -/
theorem IsInts.pair {w : World} {ad : Option Addr} {zs : List Int} (h : IsInts w ad zs) {k n : Nat} (hk : k < n) (hn : zs.length = n * 2) :
    ∃ b off p q, ad = some ⟨b, off, none⟩ ∧ b < w.heap.size ∧ w.cell? ⟨b, off + k * 2, none⟩ = some (.int .i64 p) ∧ w.cell? ⟨b, off + k * 2 + 1, none⟩ = some (.int .i64 q) ∧ zs.drop (k * 2) = p :: q :: zs.drop ((k + 1) * 2) := by
  obtain ⟨b, off, p, rfl, hb, hp, hd⟩ := h.at (k := k * 2) (by omega)
  obtain ⟨b', off', q, hq', _, hq, hd'⟩ := h.at (k := k * 2 + 1) (by omega)
  simp only [Option.some.injEq, Addr.mk.injEq, and_true] at hq'
  obtain ⟨rfl, rfl⟩ := hq'
  exact ⟨b, off, p, q, rfl, hb, hp, hq, by rw [hd, hd', show k * 2 + 1 + 1 = (k + 1) * 2 by omega]⟩

theorem ints_of_own2 {w : World} {base n cap : Nat} {ad : Option Addr} {zs : List Int} {e : TypeId} (h : w.ownsRow base e 2 (.slice ad n cap) n (zs.map (Value.int .i64))) :
    IsInts w ad zs ∧ zs.length = n * 2 ∧ ∀ a, ad = some a → base ≤ a.block ∧ a.block < w.heap.size := by
  have hn : zs.length = n * 2 := by have := h.1; simpa using this
  rcases h.2 with ⟨h1, h2⟩ | ⟨g, cap', cur, h1, _⟩
  · simp only [Value.slice.injEq] at h1
    obtain ⟨rfl, _, _⟩ := h1
    subst h2
    exact ⟨.inl (List.length_eq_zero_iff.1 hn), hn, by simp⟩
  · simp only [Value.slice.injEq] at h1
    obtain ⟨rfl, _, _⟩ := h1
    have hl := World.ownsRow.lt h g rfl
    refine ⟨.inr ⟨g, 0, rfl, hl.2, fun i hi => ?_⟩, hn, by rintro a ⟨⟩; exact hl⟩
    rw [World.ownsRow.cellAt h (0 + i) (by omega)]
    simp [hi]

theorem ints_of_pairs {w : World} {base n cap : Nat} {ad : Option Addr} {zs : List Int} (h : PairsOwn w base (.slice ad n cap) n zs) :
    IsInts w ad zs ∧ zs.length = n * 2 ∧ ∀ a, ad = some a → base ≤ a.block ∧ a.block < w.heap.size := ints_of_own2 h

theorem keep2 {w : World} {b off : Nat} {v : Value} (hb : b < w.heap.size) (h : w.cell? ⟨b, off, none⟩ = some v) (o1 o2 : Array Value) (t : TypeId) :
    ((w.alloc (.cells o1 t)).alloc (.cells o2 t)).drew.cell? ⟨b, off, none⟩ = some v := by
  have hB := ((((Below.refl w.heap.size w).alloc (Nat.le_refl _) (.cells o1 t)).alloc (by simp) (.cells o2 t)).drew).cell (p := ⟨b, off, none⟩) hb
  rw [hB, h]

set_option maxHeartbeats 1600000 in
theorem eqPairs_same (ad ad' : Option Addr) (n n' cap cap' : Nat) (zs : List Int) (hn : zs.length = n * 2) (hn' : zs.length = n' * 2) (hl : n ≤ 17592186044416) (w : World) (hz : IsInts w ad zs) (hz' : IsInts w ad' zs) :
    Calls Try.prog 40 #[.slice ad n cap, .slice ad' n' cap'] w fun e w' => e = .returned (.bool true) ∧ Below w.heap.size w w' := by
  obtain rfl : n = n' := by omega
  have HN := Lib.hid hn
  clear hn hn'
  go_enter Try.func40, Try.ntmps40
  go_wp2
  go_loopw [5] (fun K wr => ∃ k : Nat, k ≤ n ∧ K = .int .i64 k ∧ Below w.heap.size w wr) (fun K _ => n - (intOf K).toNat)
  case atStart => exact ⟨0, Nat.zero_le _, rfl, Below.refl _ _⟩
  case round =>
    obtain ⟨k, hk, rfl, hbel⟩ := hrel
    by_cases hkn : k < n
    · obtain ⟨b, off, p, q, rfl, hb, hc1, hc2, hd⟩ := (below_ints hz hbel).pair hkn HN.out
      obtain ⟨b', off', p', q', rfl, hb', hc1', hc2', hd'⟩ := (below_ints hz' hbel).pair hkn HN.out
      obtain ⟨rfl, rfl⟩ : p = p' ∧ q = q' := by rw [hd] at hd'; exact ⟨(List.cons.inj hd').1, (List.cons.inj (List.cons.inj hd').2).1⟩
      have HB := Lib.hid hbel
      clear hbel hd hd'
      go_wp2
      go_region_held3 (fun w' => w'.cell? ⟨b, off + k * 2, none⟩ = some (.int .i64 p) ∧ w'.cell? ⟨b, off + k * 2 + 1, none⟩ = some (.int .i64 q) ∧ w'.cell? ⟨b', off' + k * 2, none⟩ = some (.int .i64 p) ∧ w'.cell? ⟨b', off' + k * 2 + 1, none⟩ = some (.int .i64 q)) (first | exact ⟨hc1, hc2, hc1', hc2'⟩ | exact ⟨keep2 hb hc1 _ _ _, keep2 hb hc2 _ _ _, keep2 hb' hc1' _ _ _, keep2 hb' hc2' _ _ _⟩)
        ((go_at_call 71; refine (eqPair_same _ _ _).mono ?_; rintro e w' ⟨rfl, o1, o2, rfl⟩))
      go_wp2
      go_roundw
      case rel =>
        refine ⟨k + 1, by omega, by go_num, ?_⟩
        first | exact ((HB.out.alloc HB.out.size _).alloc (by have := HB.out.size; simp; omega) _).drew | exact (HB.out.alloc HB.out.size _).alloc (by have := HB.out.size; simp; omega) _
      case measure => simp only [intOf]; omega
    · have HB := Lib.hid hbel
      clear hbel
      go_wp2
      go_ret
      exact ⟨rfl, HB.out⟩


theorem pairs_cell {wr : World} {B g n cap j : Nat} {zs : List Int} (hown : PairsOwn wr B (.slice (some ⟨g, 0, none⟩) n cap) n zs) (hj : j < n * 2) :
    (∃ u : Int, wr.cell? ⟨g, j, none⟩ = some (.int .i64 u)) ∧ wr.frozen? ⟨g, j, none⟩ = false := by
  refine ⟨⟨zs.getD j 0, ?_⟩, World.ownsRow.frozenAt hown j⟩
  rw [World.ownsRow.cellAt hown j hj]
  have hl : zs.length = n * 2 := by have := hown.1; simpa using this
  have hk' : j < zs.length := by omega
  simp [hk']

def PMarkPost (w : World) (base : Nat) (ad : Option Addr) (n cap : Nat) (k : Int) (e : Ending) (w' : World) : Prop :=
  e = .returned (.int .i64 (k + (n * 2 : Nat))) ∧ PairsOwn w' base (.slice ad n cap) n (marks k (n * 2)) ∧ w.grownBy w' (Value.slice ad n cap).ownBlock

theorem pmark_one {wr : World} {B g n cap j : Nat} {zs : List Int} {k : Int} (hown : PairsOwn wr B (.slice (some ⟨g, 0, none⟩) n cap) n (over (marks k (n * 2)) zs j)) (hj : j < n * 2) (hz : zs.length = n * 2) :
    PairsOwn (wr.setCell ⟨g, j, none⟩ (.int .i64 (k + j))) B (.slice (some ⟨g, 0, none⟩) n cap) n (over (marks k (n * 2)) zs (j + 1)) ∧ wr.grownBy (wr.setCell ⟨g, j, none⟩ (.int .i64 (k + j))) (some g) := by
  have := World.ownsRow.stored hown j (.int .i64 (k + j))
  rw [← List.map_set] at this
  have e := over_step (xs := marks k (n * 2)) (ys := zs) (j := j) (by rw [marks_length]; omega) (by omega)
  rw [marks_get] at e
  rwa [e] at this

theorem pmark_round {wr : World} {B g n cap j : Nat} {zs : List Int} {k : Int} (hown : PairsOwn wr B (.slice (some ⟨g, 0, none⟩) n cap) n (over (marks k (n * 2)) zs (j * 2))) (hj : j < n) (hz : zs.length = n * 2) :
    PairsOwn ((wr.setCell ⟨g, j * 2, none⟩ (.int .i64 (k + (j : Int) * 2))).setCell ⟨g, j * 2 + 1, none⟩ (.int .i64 (k + (j : Int) * 2 + 1))) B (.slice (some ⟨g, 0, none⟩) n cap) n (over (marks k (n * 2)) zs ((j + 1) * 2)) ∧
    wr.grownBy ((wr.setCell ⟨g, j * 2, none⟩ (.int .i64 (k + (j : Int) * 2))).setCell ⟨g, j * 2 + 1, none⟩ (.int .i64 (k + (j : Int) * 2 + 1))) (some g) ∧
    (∃ u : Int, (wr.setCell ⟨g, j * 2, none⟩ (.int .i64 (k + (j : Int) * 2))).cell? ⟨g, j * 2 + 1, none⟩ = some (.int .i64 u)) ∧ (wr.setCell ⟨g, j * 2, none⟩ (.int .i64 (k + (j : Int) * 2))).frozen? ⟨g, j * 2 + 1, none⟩ = false := by
  obtain ⟨o1, g1⟩ := pmark_one hown (by omega) hz
  obtain ⟨o2, g2⟩ := pmark_one (j := j * 2 + 1) o1 (by omega) hz
  obtain ⟨c1, c2⟩ := pairs_cell (j := j * 2 + 1) o1 (by omega)
  rw [show (((j * 2 : Nat)) : Int) = (j : Int) * 2 by simp] at *
  rw [show k + ((j * 2 + 1 : Nat) : Int) = k + (j : Int) * 2 + 1 by omega, show j * 2 + 1 + 1 = (j + 1) * 2 by omega] at *
  exact ⟨o2, grown_trans g1 g2, c1, c2⟩

set_option maxHeartbeats 1600000 in
theorem markPairs_any (base : Nat) (ad : Option Addr) (n cap : Nat) (zs : List Int) (k : Int) (hk0 : 0 ≤ k) (hk1 : k ≤ 17592186044416) (hl : n ≤ 17592186044416) (w : World) (hown0 : PairsOwn w base (.slice ad n cap) n zs) :
    Calls Try.prog 41 #[.slice ad n cap, .int .i64 k] w (PMarkPost w base ad n cap k) := by
  have hzl : zs.length = n * 2 := by have := hown0.1; simpa using this
  have HZ := Lib.hid hzl
  clear hzl
  rcases hown0.2 with ⟨h1, h2⟩ | ⟨g, cap', cur, h1, h2, h3, h4, h5, h6, h7⟩
  · simp only [Value.slice.injEq] at h1
    obtain ⟨rfl, _, rfl⟩ := h1
    subst h2
    have HO := Lib.hid hown0
    clear hown0
    go_enter Try.func41, Try.ntmps41
    go_wp2
    refine wp_loop_rounds 1 ?_
    rw [rounds_succ]
    go_wp2
    go_ret
    refine ⟨by simp, ?_, World.grownBy.refl _ _⟩
    have hnil : zs = [] := List.length_eq_zero_iff.1 HZ.out
    have := HO.out
    rw [hnil] at this
    simpa [marks] using this
  · simp only [Value.slice.injEq] at h1
    obtain ⟨rfl, _, rfl⟩ := h1
    clear h2 h3 h4 h5 h6 h7
    have HO := Lib.hid hown0
    clear hown0
    go_enter Try.func41, Try.ntmps41
    go_wp2
    go_loopw [1, 5] (fun A J wr => ∃ j : Nat, j ≤ n ∧ A = .int .i64 (k + (j : Int) * 2) ∧ J = .int .i64 j ∧ PairsOwn wr base (.slice (some ⟨g, 0, none⟩) n cap) n (over (marks k (n * 2)) zs (j * 2)) ∧ w.grownBy wr (some g)) (fun _ J _ => n - (intOf J).toNat)
    case atStart => exact ⟨0, Nat.zero_le _, by simp, rfl, by rw [over_zero]; exact HO.out, World.grownBy.refl _ _⟩
    case round =>
      obtain ⟨j, hj, rfl, rfl, hown, hg⟩ := hrel
      by_cases hjn : j < n
      · obtain ⟨⟨u, hcu⟩, hfu⟩ := pairs_cell (j := j * 2) hown (by omega)
        obtain ⟨o2, g2, ⟨u2, hcu2⟩, hfu2⟩ := pmark_round hown hjn HZ.out
        have HR := Lib.hid o2
        have HG := Lib.hid (grown_trans hg g2)
        clear hown hg o2 g2
        go_wp2
        go_roundw
        case rel => exact ⟨j + 1, by omega, by go_num, by go_num, HR.out, HG.out⟩
        case measure => simp only [intOf]; omega
      · have HO2 := Lib.hid hown
        have HG := Lib.hid hg
        clear hown hg
        obtain rfl : j = n := by omega
        go_wp2
        go_ret
        refine ⟨by simp, ?_, HG.out⟩
        have h := HO2.out
        rwa [over_all _ _ (by rw [marks_length]; omega) (by rw [HZ.out]; omega)] at h

set_option maxHeartbeats 1600000 in
theorem heldPairs_any (ad : Option Addr) (n cap : Nat) (k : Int) (hk0 : 0 ≤ k) (hk1 : k ≤ 17592186044416) (hl : n ≤ 17592186044416) (w : World) (hz : IsInts w ad (marks k (n * 2))) :
    Calls Try.prog 42 #[.slice ad n cap, .int .i64 k] w fun e w' => e = .returned (.int .i64 (k + (n * 2 : Nat))) ∧ w = w' := by
  go_enter Try.func42, Try.ntmps42
  go_wp2
  go_loop [1, 5] (fun A J => ∃ j : Nat, j ≤ n ∧ A = .int .i64 (k + (j : Int) * 2) ∧ J = .int .i64 j) (fun _ J => n - (intOf J).toNat)
  case atStart => exact ⟨0, Nat.zero_le _, by simp, rfl⟩
  case round =>
    obtain ⟨j, hj, rfl, rfl⟩ := hrel
    by_cases hjn : j < n
    · obtain ⟨b, off, p, q, rfl, hb, hc1, hc2, hd⟩ := hz.pair hjn (by rw [marks_length])
      obtain ⟨rfl, rfl⟩ : k + (j : Int) * 2 = p ∧ k + (j : Int) * 2 + 1 = q := by
        rw [List.drop_eq_getElem_cons (by rw [marks_length]; omega), List.drop_eq_getElem_cons (by rw [marks_length]; omega)] at hd
        have e1 := (List.cons.inj hd).1
        have e2 := (List.cons.inj (List.cons.inj hd).2).1
        rw [marks_get] at e1 e2
        omega
      clear hd
      go_wp2
      go_round
      case rel => exact ⟨j + 1, by omega, by go_num, by go_num⟩
      case measure => simp only [intOf]; omega
    · obtain rfl : j = n := by omega
      go_wp2
      go_ret
      exact ⟨by simp, rfl⟩

end Go.Proofs.Ytcfdokngchjopaa
