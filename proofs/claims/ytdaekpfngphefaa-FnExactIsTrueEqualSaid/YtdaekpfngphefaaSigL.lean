/- Lists of statements of equal logarithms; what the laws' helpers do with them. A list is told flat: four numbers of each. -/
import Derived.Test.YtdaekpfngphefaaSigA
import Derived.Deep.RegionHeld3
namespace Go.Proofs.Ytdaekpfngphefaa
open Go.RowKit
set_option linter.unusedVariables false
set_option linter.unusedSimpArgs false

theorem Try.infoEE : (Try.prog.info? 47).map (fun i => (i.zero, i.size, i.bytes)) = some (some (.agg #[.int .i64 0, .int .i64 0, .int .i64 0, .int .i64 0]), 4, 32) := by kernel_rfl
def EqsOwn (w : World) (base : Nat) (v : Value) (n : Nat) (res : List Int) : Prop := w.ownsRow base 47 4 v n (res.map (Value.int .i64))
theorem ints_of_own4 {w : World} {base n cap : Nat} {ad : Option Addr} {zs : List Int} {e : TypeId} (h : w.ownsRow base e 4 (.slice ad n cap) n (zs.map (Value.int .i64))) :
    IsInts w ad zs ∧ zs.length = n * 4 ∧ ∀ a, ad = some a → base ≤ a.block ∧ a.block < w.heap.size := by
  have hn : zs.length = n * 4 := by have := h.1; simpa using this
  rcases h.2 with ⟨h1, h2⟩ | ⟨g, cap', cur, h1, _⟩
  · simp only [Value.slice.injEq] at h1
    obtain ⟨rfl, rfl, rfl⟩ := h1
    exact ⟨.inl (List.length_eq_zero_iff.1 (by omega)), hn, by simp⟩
  · simp only [Value.slice.injEq] at h1
    obtain ⟨rfl, _, _⟩ := h1
    have hl := World.ownsRow.lt h g rfl
    refine ⟨.inr ⟨g, 0, rfl, hl.2, fun i hi => ?_⟩, hn, by rintro a ⟨⟩; exact hl⟩
    rw [World.ownsRow.cellAt h (0 + i) (by omega)]
    simp [hi]

theorem eqEql_same (a b c d : Int) (w : World) :
    Calls Try.prog 70 #[ev4 a b c d, ev4 a b c d] w fun e w' => e = .returned (.bool true) ∧ ∃ c1 c2 : Array Value, w' = (w.alloc (.cells c1 47)).alloc (.cells c2 47) := by
  go_enter Try.func70, Try.ntmps70
  go_wp2
  go_ret
  exact ⟨rfl, _, _, rfl⟩

set_option maxHeartbeats 1600000 in
theorem eqEqs_same (ad ad' : Option Addr) (n n' cap cap' : Nat) (zs : List Int) (hn : zs.length = n * 4) (hn' : zs.length = n' * 4) (hl : n ≤ 17592186044416) (w : World) (hz : IsInts w ad zs) (hz' : IsInts w ad' zs) :
    Calls Try.prog 35 #[.slice ad n cap, .slice ad' n' cap'] w fun e w' => e = .returned (.bool true) ∧ Below w.heap.size w w' := by
  obtain rfl : n = n' := by omega
  have HN := Lib.hid hn
  clear hn hn'
  go_enter Try.func35, Try.ntmps35
  go_wp2
  go_loopw [5] (fun K wr => ∃ k : Nat, k ≤ n ∧ K = .int .i64 k ∧ Below w.heap.size w wr) (fun K _ => n - (intOf K).toNat)
  case atStart => exact ⟨0, Nat.zero_le _, rfl, Below.refl _ _⟩
  case round =>
    obtain ⟨k, hk, rfl, hbel⟩ := hrel
    by_cases hkn : k < n
    · obtain ⟨b, off, p, q, r, s, rfl, hb, hc1, hc2, hc3, hc4, hd⟩ := ints_quad (below_ints hz hbel) hkn HN.out
      obtain ⟨b', off', p', q', r', s', rfl, hb', hc1', hc2', hc3', hc4', hd'⟩ := ints_quad (below_ints hz' hbel) hkn HN.out
      obtain ⟨rfl, rfl, rfl, rfl⟩ : p = p' ∧ q = q' ∧ r = r' ∧ s = s' := by
        rw [hd] at hd'
        simp only [List.cons.injEq] at hd'
        exact ⟨hd'.1, hd'.2.1, hd'.2.2.1, hd'.2.2.2.1⟩
      have HB := Lib.hid hbel
      clear hbel hd hd'
      go_wp2
      go_region_held3 (fun w' => (w'.cell? ⟨b, off + k * 4, none⟩ = some (.int .i64 p) ∧ w'.cell? ⟨b, off + k * 4 + 1, none⟩ = some (.int .i64 q) ∧ w'.cell? ⟨b, off + k * 4 + 2, none⟩ = some (.int .i64 r) ∧ w'.cell? ⟨b, off + k * 4 + 3, none⟩ = some (.int .i64 s)) ∧ w'.cell? ⟨b', off' + k * 4, none⟩ = some (.int .i64 p) ∧ w'.cell? ⟨b', off' + k * 4 + 1, none⟩ = some (.int .i64 q) ∧ w'.cell? ⟨b', off' + k * 4 + 2, none⟩ = some (.int .i64 r) ∧ w'.cell? ⟨b', off' + k * 4 + 3, none⟩ = some (.int .i64 s)) (first | exact ⟨⟨hc1, hc2, hc3, hc4⟩, hc1', hc2', hc3', hc4'⟩ | exact ⟨⟨keep2 hb hc1 _ _ _, keep2 hb hc2 _ _ _, keep2 hb hc3 _ _ _, keep2 hb hc4 _ _ _⟩, keep2 hb' hc1' _ _ _, keep2 hb' hc2' _ _ _, keep2 hb' hc3' _ _ _, keep2 hb' hc4' _ _ _⟩)
        ((go_at_call 70; refine (eqEql_same _ _ _ _ _).mono ?_; rintro e w' ⟨rfl, o1, o2, rfl⟩))
      go_wp2
      go_roundw
      case rel =>
        refine ⟨k + 1, by omega, by go_num, ?_⟩
        first | exact ((HB.out.alloc HB.out.size _).alloc (by have := HB.out.size; simp; omega) _).drew | exact (HB.out.alloc HB.out.size _).alloc (by have := HB.out.size; simp; omega) _
      case measure => simp only [intOf]; omega
    · have HB := Lib.hid hbel
      clear hbel
      go_wp2
      go_ret
      exact ⟨rfl, HB.out⟩

theorem eqs_cell {wr : World} {B g n cap j : Nat} {zs : List Int} (hown : EqsOwn wr B (.slice (some ⟨g, 0, none⟩) n cap) n zs) (hj : j < n * 4) :
    (∃ u : Int, wr.cell? ⟨g, j, none⟩ = some (.int .i64 u)) ∧ wr.frozen? ⟨g, j, none⟩ = false := by
  refine ⟨⟨zs.getD j 0, ?_⟩, World.ownsRow.frozenAt hown j⟩
  rw [World.ownsRow.cellAt hown j hj]
  have hl : zs.length = n * 4 := by have := hown.1; simpa using this
  have hk' : j < zs.length := by omega
  simp [hk']

def EMarkPost (w : World) (base : Nat) (ad : Option Addr) (n cap : Nat) (k : Int) (e : Ending) (w' : World) : Prop :=
  e = .returned (.int .i64 (k + (n * 4 : Nat))) ∧ EqsOwn w' base (.slice ad n cap) n (marks k (n * 4)) ∧ w.grownBy w' (Value.slice ad n cap).ownBlock

theorem emark_one {wr : World} {B g n cap j : Nat} {zs : List Int} {k : Int} (hown : EqsOwn wr B (.slice (some ⟨g, 0, none⟩) n cap) n (over (marks k (n * 4)) zs j)) (hj : j < n * 4) (hz : zs.length = n * 4) :
    EqsOwn (wr.setCell ⟨g, j, none⟩ (.int .i64 (k + j))) B (.slice (some ⟨g, 0, none⟩) n cap) n (over (marks k (n * 4)) zs (j + 1)) ∧ wr.grownBy (wr.setCell ⟨g, j, none⟩ (.int .i64 (k + j))) (some g) := by
  have := World.ownsRow.stored hown j (.int .i64 (k + j))
  rw [← List.map_set] at this
  have e := over_step (xs := marks k (n * 4)) (ys := zs) (j := j) (by rw [marks_length]; omega) (by omega)
  rw [marks_get] at e
  rwa [e] at this

/-- What one more number of the marks' row asks and gives, told for the j-th four's i-th number. -/
theorem emark_at {wr : World} {B g n cap j i : Nat} {zs : List Int} {k : Int} (hown : EqsOwn wr B (.slice (some ⟨g, 0, none⟩) n cap) n (over (marks k (n * 4)) zs (j * 4 + i))) (hj : j < n) (hi : i < 4) (hz : zs.length = n * 4) :
    EqsOwn (wr.setCell ⟨g, j * 4 + i, none⟩ (.int .i64 (k + (j : Int) * 4 + i))) B (.slice (some ⟨g, 0, none⟩) n cap) n (over (marks k (n * 4)) zs (j * 4 + (i + 1))) ∧ wr.grownBy (wr.setCell ⟨g, j * 4 + i, none⟩ (.int .i64 (k + (j : Int) * 4 + i))) (some g) ∧
    (∃ u : Int, wr.cell? ⟨g, j * 4 + i, none⟩ = some (.int .i64 u)) ∧ wr.frozen? ⟨g, j * 4 + i, none⟩ = false := by
  obtain ⟨o1, g1⟩ := emark_one hown (by omega) hz
  obtain ⟨c1, c2⟩ := eqs_cell (j := j * 4 + i) hown (by omega)
  rw [show k + ((j * 4 + i : Nat) : Int) = k + (j : Int) * 4 + i by omega] at o1 g1
  exact ⟨o1, g1, c1, c2⟩
theorem emark_round {wr : World} {B g n cap j : Nat} {zs : List Int} {k : Int} (hown : EqsOwn wr B (.slice (some ⟨g, 0, none⟩) n cap) n (over (marks k (n * 4)) zs (j * 4))) (hj : j < n) (hz : zs.length = n * 4) :
    ∃ w1 w2 w3 w4, w1 = wr.setCell ⟨g, j * 4, none⟩ (.int .i64 (k + (j : Int) * 4)) ∧ w2 = w1.setCell ⟨g, j * 4 + 1, none⟩ (.int .i64 (k + (j : Int) * 4 + 1)) ∧ w3 = w2.setCell ⟨g, j * 4 + 2, none⟩ (.int .i64 (k + (j : Int) * 4 + 1 + 1)) ∧ w4 = w3.setCell ⟨g, j * 4 + 3, none⟩ (.int .i64 (k + (j : Int) * 4 + 1 + 1 + 1)) ∧
      EqsOwn w4 B (.slice (some ⟨g, 0, none⟩) n cap) n (over (marks k (n * 4)) zs ((j + 1) * 4)) ∧ wr.grownBy w4 (some g) ∧
      ((∃ u : Int, wr.cell? ⟨g, j * 4, none⟩ = some (.int .i64 u)) ∧ wr.frozen? ⟨g, j * 4, none⟩ = false) ∧ ((∃ u : Int, w1.cell? ⟨g, j * 4 + 1, none⟩ = some (.int .i64 u)) ∧ w1.frozen? ⟨g, j * 4 + 1, none⟩ = false) ∧
      ((∃ u : Int, w2.cell? ⟨g, j * 4 + 2, none⟩ = some (.int .i64 u)) ∧ w2.frozen? ⟨g, j * 4 + 2, none⟩ = false) ∧ ((∃ u : Int, w3.cell? ⟨g, j * 4 + 3, none⟩ = some (.int .i64 u)) ∧ w3.frozen? ⟨g, j * 4 + 3, none⟩ = false) := by
  obtain ⟨o1, g1, c1, f1⟩ := emark_at (i := 0) hown hj (by omega) hz
  obtain ⟨o2, g2, c2, f2⟩ := emark_at (i := 1) o1 hj (by omega) hz
  obtain ⟨o3, g3, c3, f3⟩ := emark_at (i := 2) o2 hj (by omega) hz
  obtain ⟨o4, g4, c4, f4⟩ := emark_at (i := 3) o3 hj (by omega) hz
  rw [show j * 4 + (3 + 1) = (j + 1) * 4 by omega] at o4
  have e0 : k + (j : Int) * 4 + ((0 : Nat) : Int) = k + (j : Int) * 4 := by omega
  have e1 : k + (j : Int) * 4 + ((1 : Nat) : Int) = k + (j : Int) * 4 + 1 := by omega
  have e2 : k + (j : Int) * 4 + ((2 : Nat) : Int) = k + (j : Int) * 4 + 1 + 1 := by omega
  have e3 : k + (j : Int) * 4 + ((3 : Nat) : Int) = k + (j : Int) * 4 + 1 + 1 + 1 := by omega
  simp only [e0, e1, e2, e3, Nat.add_zero] at *
  exact ⟨_, _, _, _, rfl, rfl, rfl, rfl, o4, grown_trans (grown_trans (grown_trans g1 g2) g3) g4, ⟨c1, f1⟩, ⟨c2, f2⟩, ⟨c3, f3⟩, c4, f4⟩

/-! ### The data -/
def OwE (Q P : Nat) (w : World) (v : Value) (zs : List Int) : Prop := ∃ n, OwR 47 4 Q P w v n (zs.map (Value.int .i64))
theorem OwE.below {Q P : Nat} {w w' : World} {v : Value} {zs : List Int} (h : OwE Q P w v zs) (hb : Below w.heap.size w w') : OwE Q P w' v zs := by
  obtain ⟨n, h⟩ := h
  exact ⟨n, h.below hb⟩
theorem OwE.mid {Q P A B : Nat} {w w' : World} {v : Value} {zs : List Int} (h : OwE Q P w v zs) (hm : Mid A B w w') (ho : P ≤ A ∨ B ≤ Q) : OwE Q P w' v zs := by
  obtain ⟨n, h⟩ := h
  exact ⟨n, h.mid hm ho⟩
theorem OwE.toIn {Q P : Nat} {w : World} {v : Value} {zs : List Int} (h : OwE Q P w v zs) : InE P w v zs := by
  obtain ⟨n, h1, h2, h3, h4⟩ := h
  obtain ⟨va, vc, rfl⟩ := own_shape h1
  obtain ⟨hi, hn, hbd⟩ := ints_of_own4 h1
  refine ⟨h3, va, n, vc, rfl, hn, ?_, ?_⟩
  · rcases hi with hi | ⟨b, off, rfl, hb, hc⟩
    · exact .inl hi
    · exact .inr ⟨b, off, rfl, h2 b rfl, hb, hc⟩
  · rintro rfl
    rcases h1.2 with ⟨h, _⟩ | ⟨g, cap', cur, h, _⟩
    · simp only [Value.slice.injEq] at h; exact h.2.2
    · simp at h
theorem OwE.le {Q P : Nat} {w : World} {v : Value} {zs : List Int} (h : OwE Q P w v zs) : P ≤ w.heap.size := h.toIn.1
theorem owE_mk {Q : Nat} {w : World} {v : Value} {n : Nat} {zs : List Int} (h : w.ownsRow Q 47 4 v n (zs.map (Value.int .i64))) (hQ : Q ≤ w.heap.size) : OwE Q w.heap.size w v zs := ⟨n, OwR.mk h hQ⟩
def MadeE (w : World) (zs : List Int) (e : Ending) (w' : World) : Prop := ∃ v, e = .returned v ∧ OwE w.heap.size w'.heap.size w' v zs ∧ Below w.heap.size w w'
def MarkE (Q P : Nat) (w : World) (v : Value) (zs : List Int) (k : Int) (e : Ending) (w' : World) : Prop := e = .returned (.int .i64 (k + (zs.length : Int))) ∧ OwE Q P w' v (mkI k zs) ∧ Mid Q P w w'

theorem eqE_any {P P' : Nat} {w : World} {v v' : Value} {zs : List Int} (h : InE P w v zs) (h' : InE P' w v' zs) (hl : zs.length ≤ 17592186044416) :
    Calls Try.prog 35 #[v, v'] w fun e w' => e = .returned (.bool true) ∧ Below w.heap.size w w' := by
  obtain ⟨h0, ad, n, cap, rfl, hn, h1, h2⟩ := h
  obtain ⟨h0', ad', n', cap', rfl, hn', h1', h2'⟩ := h'
  exact eqEqs_same ad ad' _ _ cap cap' zs hn hn' (by omega) w h1.ints h1'.ints
theorem made_fourE (z : Value) (m : Nat) : (madeCells #[z, z, z, z] m).toList = List.replicate m z := by
  rw [List.eq_replicate_iff]
  refine ⟨by simp [madeCells], ?_⟩
  intro v hv
  simp [madeCells] at hv
  obtain ⟨i, _, rfl⟩ := hv
  have : i % 4 = 0 ∨ i % 4 = 1 ∨ i % 4 = 2 ∨ i % 4 = 3 := by omega
  rcases this with h | h | h | h <;> simp [h]

theorem toEql_any (a b c d : Int) (w : World) :
    Calls Try.prog 29 #[ev4 a b c d] w fun e w' => e = .returned (ev4 a b c d) ∧ Below w.heap.size w w' := by
  go_enter Try.func29, Try.ntmps29
  go_wp2
  (try simp only [Exit.inBlock, Exit.then])
  refine bodyPost_ret (v := ev4 a b c d) ?_ rfl ⟨rfl, ?_⟩
  · rw [results_cell_one rfl]; go_simp
  · exact bt (bt (ba _ _) (ba _ _)) (ba _ _)

theorem eset_one {wr : World} {B g n cap j : Nat} {xs ys : List Int} {x : Int} (hown : EqsOwn wr B (.slice (some ⟨g, 0, none⟩) n cap) n (over xs ys j)) (hx : xs.drop j = x :: xs.drop (j + 1)) (hy : xs.length = ys.length) (hj : j < n * 4) :
    EqsOwn (wr.setCell ⟨g, j, none⟩ (.int .i64 x)) B (.slice (some ⟨g, 0, none⟩) n cap) n (over xs ys (j + 1)) ∧ (∃ u : Int, wr.cell? ⟨g, j, none⟩ = some (.int .i64 u)) ∧ wr.frozen? ⟨g, j, none⟩ = false := by
  have hj' : j < xs.length := by
    rcases Nat.lt_or_ge j xs.length with h | h
    · exact h
    · rw [List.drop_of_length_le h] at hx; cases hx
  have hg : xs[j] = x := by rw [List.drop_eq_getElem_cons hj'] at hx; exact (List.cons.inj hx).1
  have := World.ownsRow.stored hown j (.int .i64 x)
  rw [← List.map_set] at this
  have e := over_step (xs := xs) (ys := ys) (j := j) hj' (by omega)
  rw [hg] at e
  rw [e] at this
  exact ⟨this.1, eqs_cell hown hj⟩
theorem eset_four {wr : World} {B g n cap j : Nat} {xs ys : List Int} {x y z t : Int} (hown : EqsOwn wr B (.slice (some ⟨g, 0, none⟩) n cap) n (over xs ys (j * 4))) (hx : xs.drop (j * 4) = x :: y :: z :: t :: xs.drop ((j + 1) * 4)) (hn : xs.length = n * 4) (hy : ys.length = n * 4) (hj : j < n) :
    ∃ w1 w2 w3 w4, w1 = wr.setCell ⟨g, j * 4, none⟩ (.int .i64 x) ∧ w2 = w1.setCell ⟨g, j * 4 + 1, none⟩ (.int .i64 y) ∧ w3 = w2.setCell ⟨g, j * 4 + 2, none⟩ (.int .i64 z) ∧ w4 = w3.setCell ⟨g, j * 4 + 3, none⟩ (.int .i64 t) ∧
      EqsOwn w4 B (.slice (some ⟨g, 0, none⟩) n cap) n (over xs ys ((j + 1) * 4)) ∧
      ((∃ u : Int, wr.cell? ⟨g, j * 4, none⟩ = some (.int .i64 u)) ∧ wr.frozen? ⟨g, j * 4, none⟩ = false) ∧ ((∃ u : Int, w1.cell? ⟨g, j * 4 + 1, none⟩ = some (.int .i64 u)) ∧ w1.frozen? ⟨g, j * 4 + 1, none⟩ = false) ∧
      ((∃ u : Int, w2.cell? ⟨g, j * 4 + 2, none⟩ = some (.int .i64 u)) ∧ w2.frozen? ⟨g, j * 4 + 2, none⟩ = false) ∧ ((∃ u : Int, w3.cell? ⟨g, j * 4 + 3, none⟩ = some (.int .i64 u)) ∧ w3.frozen? ⟨g, j * 4 + 3, none⟩ = false) ∧
      (∀ i, i < 4 → (∃ u : Int, wr.cell? ⟨g, j * 4 + i, none⟩ = some (.int .i64 u)) ∧ wr.frozen? ⟨g, j * 4 + i, none⟩ = false) := by
  have d3 : xs.drop (j * 4 + 3) = t :: xs.drop (j * 4 + 3 + 1) := by
    have := congrArg (List.drop 3) hx
    rw [List.drop_drop] at this
    rw [this, show j * 4 + 3 + 1 = (j + 1) * 4 by omega]; rfl
  have d2 : xs.drop (j * 4 + 2) = z :: xs.drop (j * 4 + 2 + 1) := by
    have := congrArg (List.drop 2) hx
    rw [List.drop_drop] at this
    rw [this, show j * 4 + 2 + 1 = j * 4 + 3 by omega, d3, show j * 4 + 3 + 1 = (j + 1) * 4 by omega]; rfl
  have d1 : xs.drop (j * 4 + 1) = y :: xs.drop (j * 4 + 1 + 1) := by
    have := congrArg (List.drop 1) hx
    rw [List.drop_drop] at this
    rw [this, show j * 4 + 1 + 1 = j * 4 + 2 by omega, d2, show j * 4 + 2 + 1 = j * 4 + 3 by omega, d3, show j * 4 + 3 + 1 = (j + 1) * 4 by omega]; rfl
  have d0 : xs.drop (j * 4) = x :: xs.drop (j * 4 + 1) := by rw [hx, d1, show j * 4 + 1 + 1 = j * 4 + 2 by omega, d2, show j * 4 + 2 + 1 = j * 4 + 3 by omega, d3, show j * 4 + 3 + 1 = (j + 1) * 4 by omega]
  obtain ⟨o1, c1⟩ := eset_one hown d0 (by omega) (by omega)
  obtain ⟨o2, c2⟩ := eset_one (j := j * 4 + 1) o1 d1 (by omega) (by omega)
  obtain ⟨o3, c3⟩ := eset_one (j := j * 4 + 2) o2 d2 (by omega) (by omega)
  obtain ⟨o4, c4⟩ := eset_one (j := j * 4 + 3) o3 d3 (by omega) (by omega)
  rw [show j * 4 + 3 + 1 = (j + 1) * 4 by omega] at o4
  exact ⟨_, _, _, _, rfl, rfl, rfl, rfl, o4, c1, c2, c3, c4, fun i hi => eqs_cell hown (by omega)⟩

set_option maxRecDepth 100000 in
set_option maxHeartbeats 1600000 in
theorem toE_any {P : Nat} {w : World} {v : Value} {zs : List Int} (h : InE P w v zs) (hl : zs.length ≤ 17592186044416) :
    Calls Try.prog 33 #[v] w (MadeE w zs) := by
  obtain ⟨h0, ad, n, cap, rfl, hn, h1, h2⟩ := h
  have hz := h1.ints
  obtain ⟨i0, hi, hz0, hz1, hz2⟩ := info_parts Try.infoEE
  have HZ2 := Lib.hid hz2
  have HN := Lib.hid hn
  have hl' : n ≤ 4398046511104 := by omega
  clear hz2 hn h2 h1 hl
  go_enter Try.func33, Try.ntmps33
  go_wp2_with (at_make; refine wpList_make_full _ rfl _ _ 53 rfl w.heap.size 47 i0 (.agg #[.int .i64 0, .int .i64 0, .int .i64 0, .int .i64 0]) 4 Try.underlying53 hi hz0 hz1 .i64 .i64 _ _ n rfl rfl rfl rfl (by rw [HZ2.out]; omega) (by unfold maxLen; omega) (Nat.le_refl _) ?_; intro w1 hown hgrow)
  go_loopw [4] (fun K wr => ∃ k : Nat, k ≤ n ∧ K = .int .i64 k ∧ EqsOwn wr w.heap.size (.slice (some ⟨w.heap.size, 0, none⟩) n n) n (over zs (List.replicate (n * 4) 0) (k * 4)) ∧ Below w.heap.size w wr) (fun K _ => n - (intOf K).toNat)
  case atStart =>
    refine ⟨0, Nat.zero_le _, rfl, ?_, (Below.refl _ _).grown hgrow (Nat.le_refl _) (by simp)⟩
    rw [show 0 * 4 = 0 from rfl, over_zero]
    have h := hown
    rw [show Value.cells (.agg #[.int .i64 0, .int .i64 0, .int .i64 0, .int .i64 0]) = #[.int .i64 0, .int .i64 0, .int .i64 0, .int .i64 0] from rfl, made_fourE] at h
    unfold EqsOwn
    rw [List.map_replicate]
    exact h
  case round =>
    obtain ⟨k, hk, rfl, hownr, hbel⟩ := hrel
    clear hown hgrow
    by_cases hkn : k < n
    · obtain ⟨b, off, p, q, r, s, rfl, hb, hc1, hc2, hc3, hc4, hd⟩ := ints_quad (hz.below hbel (Nat.le_refl _)) hkn HN.out
      have HO := Lib.hid hownr
      have HB := Lib.hid hbel
      have HD := Lib.hid hd
      clear hownr hbel hd
      go_wp2_with fail
      refine (toEql_any _ _ _ _ _).mono ?_
      rintro e w2 ⟨rfl, hb2⟩
      obtain ⟨w3, w4, w5, w6, e3, e4, e5, e6, o6, ⟨⟨u1, c1⟩, f1⟩, ⟨⟨u2, c2⟩, f2⟩, ⟨⟨u3, c3⟩, f3⟩, ⟨⟨u4, c4⟩, f4⟩, hall⟩ := eset_four (own_below HO.out hb2) HD.out HN.out (by simp) hkn
      subst e6 e5 e4 e3
      obtain ⟨⟨u5, c5⟩, f5⟩ := hall 1 (by omega)
      obtain ⟨⟨u6, c6⟩, f6⟩ := hall 2 (by omega)
      obtain ⟨⟨u7, c7⟩, f7⟩ := hall 3 (by omega)
      have HO2 := Lib.hid o6
      have HB2 := Lib.hid (HB.out.trans (hb2.mono HB.out.size))
      clear hb2 o6 hc1 hc2 hc3 hc4 hall
      go_wp2
      go_roundw
      case rel => exact ⟨k + 1, by omega, by go_num, HO2.out, (((HB2.out.setCell (Nat.le_refl _) _).setCell (Nat.le_refl _) _).setCell (Nat.le_refl _) _).setCell (Nat.le_refl _) _⟩
      case measure => simp only [intOf]; omega
    · have HO := Lib.hid hownr
      have HB := Lib.hid hbel
      clear hownr hbel
      obtain rfl : k = n := by omega
      go_wp2
      go_ret
      refine ⟨_, rfl, ?_, HB.out⟩
      have h := HO.out
      rw [over_all _ _ (by have := HN.out; omega) (by simp)] at h
      exact owE_mk h HB.out.size

theorem szE_any {P : Nat} {w : World} {v : Value} {zs : List Int} {left : Int} (h : InE P w v zs) (h0 : 0 ≤ left) (h1 : left ≤ 1048576) (hl : zs.length ≤ 4 * maxLen) :
    Calls Try.prog 31 #[v, .int .i64 left] w fun e w' => e = .returned (.int .i64 (szV (zs.length / 4) left)) ∧ w = w' := by
  obtain ⟨_, ad, n, cap, rfl, hn, _, _⟩ := h
  unfold maxLen at hl
  obtain rfl : n = zs.length / 4 := by omega
  generalize hm : zs.length / 4 = m
  have hl' : m ≤ 9223372036854775807 := by omega
  clear hl hn hm
  by_cases hn : (m : Int) ≤ left
  · have e1 : szV m left = left - m := by simp [szV, hn]
    rw [e1]
    clear e1
    go_enter Try.func31, Try.ntmps31
    go_wp2
    go_ret
    exact ⟨rfl, rfl⟩
  · have e1 : szV m left = -1 := by simp [szV, hn]
    rw [e1]
    clear e1
    go_enter Try.func31, Try.ntmps31
    go_wp2
    go_ret
    exact ⟨rfl, rfl⟩

end Go.Proofs.Ytdaekpfngphefaa

