/- Slices of integers that a law copies and compares. -/
import Derived.Test.YtdnofcpobpoehaaInts
import Derived.WalkSmall
namespace Go.Proofs.Ytdnofcpobpoehaa
open Go.RowKit

theorem Try.info3 : (Try.prog.info? 3).map (fun i => (i.zero, i.size, i.bytes)) = some (some (.int .i64 0), 1, 8) := by kernel_rfl

/-- The first k of 'zs', then zeros. -/
def mix (zs : List Int) (k : Nat) : List Int := zs.take k ++ List.replicate (zs.length - k) 0
theorem mix_zero (zs : List Int) : mix zs 0 = List.replicate zs.length 0 := by simp [mix]
theorem mix_all (zs : List Int) {k : Nat} (h : zs.length ≤ k) : mix zs k = zs := by
  unfold mix
  rw [List.take_of_length_le h, show zs.length - k = 0 by omega]; simp
theorem mix_step {zs rest : List Int} {z : Int} {k : Nat} (h : zs.drop k = z :: rest) : (mix zs k).set k z = mix zs (k + 1) := by
  have hk : k < zs.length := by
    rcases Nat.lt_or_ge k zs.length with h' | h'
    · exact h'
    · rw [List.drop_of_length_le h'] at h; cases h
  have hz : zs[k] = z := by rw [List.drop_eq_getElem_cons hk] at h; simpa using (List.cons.inj h).1
  unfold mix
  rw [show zs.length - k = (zs.length - (k + 1)) + 1 by omega, List.replicate_succ, List.set_append_right _ _ (by simp; omega)]
  rw [List.length_take, Nat.min_eq_left (by omega), Nat.sub_self, List.set_cons_zero, List.take_succ_eq_append_getElem hk, hz]
  simp
theorem mix_length (zs : List Int) (k : Nat) (h : k ≤ zs.length) : (mix zs k).length = zs.length := by simp [mix]; omega

/-- What a copy is: a new row that holds 'zs'. -/
def Made (w : World) (n : Nat) (zs : List Int) (e : Ending) (w' : World) : Prop :=
  ∃ g, e = .returned (.slice (some ⟨g, 0, none⟩) n n) ∧ w.heap.size ≤ g ∧ w'.ownsRow w.heap.size 3 1 (.slice (some ⟨g, 0, none⟩) n n) n (zs.map (Value.int .i64)) ∧ Below w.heap.size w w'

/-- A round of the copy, outside the walk. -/
theorem copy_round {wr : World} {B g n k : Nat} {zs rest : List Int} {z : Int} (hown : wr.ownsRow B 3 1 (.slice (some ⟨g, 0, none⟩) n n) n ((mix zs k).map (Value.int .i64)))
    (h : zs.drop k = z :: rest) : (wr.setCell ⟨g, k, none⟩ (.int .i64 z)).ownsRow B 3 1 (.slice (some ⟨g, 0, none⟩) n n) n ((mix zs (k + 1)).map (Value.int .i64)) := by
  have := (hown.stored k (.int .i64 z)).1
  rwa [← List.map_set, mix_step h] at this

theorem copy_cell {wr : World} {B g n k : Nat} {zs : List Int} (hown : wr.ownsRow B 3 1 (.slice (some ⟨g, 0, none⟩) n n) n ((mix zs k).map (Value.int .i64))) (hk : k < n) :
    (∃ u : Int, wr.cell? ⟨g, k, none⟩ = some (.int .i64 u)) ∧ wr.frozen? ⟨g, k, none⟩ = false := by
  refine ⟨⟨(mix zs k).getD k 0, ?_⟩, hown.frozenAt k⟩
  rw [hown.cellAt k (by omega)]
  have hl : (mix zs k).length = n := by have := hown.1; simpa using this
  have hk' : k < (mix zs k).length := by omega
  simp [hk']

set_option maxHeartbeats 1600000 in
theorem toIntS_any (ad : Option Addr) (n cap : Nat) (zs : List Int) (hn : zs.length = n) (hl : n ≤ 17592186044416) (w : World) (hz : IsInts w ad zs) :
    Calls Try.prog 26 #[.slice ad n cap] w (Made w n zs) := by
  obtain ⟨i0, hi, hz0, hz1, hz2⟩ := info_parts Try.info3
  have HZ2 := Lib.hid hz2
  have HN := Lib.hid hn
  clear hz2 hn
  go_enter Try.func26, Try.ntmps26
  go_wp2_with (at_make; refine wpList_make_full _ rfl _ _ 24 rfl w.heap.size 3 i0 (.int .i64 0) 1 Try.underlying24 hi hz0 hz1 .i64 .i64 _ _ n rfl rfl rfl rfl (by rw [HZ2.out]; omega) (by unfold maxLen; omega) (Nat.le_refl _) ?_; intro w1 hown hgrow)
  go_loopw [4] (fun K wr => ∃ k : Nat, k ≤ n ∧ K = .int .i64 k ∧ wr.ownsRow w.heap.size 3 1 (.slice (some ⟨w.heap.size, 0, none⟩) n n) n ((mix zs k).map (Value.int .i64)) ∧ Below w.heap.size w wr) (fun K _ => n - (intOf K).toNat)
  case atStart =>
    refine ⟨0, Nat.zero_le _, rfl, ?_, (Below.refl _ _).grown hgrow (Nat.le_refl _) (by simp)⟩
    rw [mix_zero, HN.out]
    have h := hown
    rw [show Value.cells (.int .i64 0) = #[.int .i64 0] from rfl, Nat.mul_one, toList_madeCells_one] at h
    simpa using h
  case round =>
    obtain ⟨k, hk, rfl, hownr, hbel⟩ := hrel
    clear hown hgrow
    by_cases hkn : k < n
    · obtain ⟨b, off, z, rfl, hb, hc, hd⟩ := (hz.below hbel (Nat.le_refl _)).at (k := k) (by have := HN.out; omega)
      obtain ⟨⟨u, hcu⟩, hfu⟩ := copy_cell hownr hkn
      have HO := Lib.hid (copy_round hownr hd)
      have HB := Lib.hid hbel
      clear hownr hbel hd
      go_wp2
      go_roundw
      case rel => exact ⟨k + 1, by omega, by go_num, HO.out, HB.out.setCell (Nat.le_refl _) _⟩
      case measure => simp only [intOf]; omega
    · have HO := Lib.hid hownr
      have HB := Lib.hid hbel
      clear hownr hbel
      go_wp2
      go_ret
      refine ⟨w.heap.size, rfl, Nat.le_refl _, ?_, HB.out⟩
      have h := HO.out
      rwa [mix_all zs (by have := HN.out; omega)] at h


/-- Writes to one row, and new blocks, one after the other. -/
theorem grown_trans {a b c : World} {r : Option Nat} (h : a.grownBy b r) (k : b.grownBy c r) : a.grownBy c r :=
  ⟨k.os.trans h.os, k.tape.trans h.tape, k.output.trans h.output, Nat.le_trans h.size k.size,
    fun i hi hr => (k.block i (Nat.lt_of_lt_of_le hi h.size) hr).trans (h.block i hi hr)⟩

theorem IsInts.grown {w w' : World} {r : Option Nat} {ad : Option Addr} {zs : List Int} (h : IsInts w ad zs) (hg : w.grownBy w' r) (hne : ∀ a, ad = some a → some a.block ≠ r) : IsInts w' ad zs := by
  rcases h with rfl | ⟨b, off, rfl, hl, hc⟩
  · exact .inl rfl
  · exact .inr ⟨b, off, rfl, Nat.lt_of_lt_of_le hl hg.size, fun i hi => hg.cell (a := ⟨b, off + i, none⟩) (hc i hi) (hne ⟨b, off, none⟩ rfl)⟩

theorem below_ints {w wr : World} {ad : Option Addr} {zs : List Int} (h : IsInts w ad zs) (hb : Below w.heap.size w wr) : IsInts wr ad zs := h.below hb (Nat.le_refl _)

set_option maxHeartbeats 1600000 in
/-- Two slices that hold the same are told the same. -/
theorem eqIntS_same (ad ad' : Option Addr) (n n' cap cap' : Nat) (zs : List Int) (hn : zs.length = n) (hn' : zs.length = n') (hl : n ≤ 1152921504606846976) (w : World) (hz : IsInts w ad zs) (hz' : IsInts w ad' zs) :
    Calls Try.prog 28 #[.slice ad n cap, .slice ad' n' cap'] w fun e w' => e = .returned (.bool true) ∧ Below w.heap.size w w' := by
  obtain rfl : n = n' := by omega
  have HN := Lib.hid hn
  clear hn hn'
  go_enter Try.func28, Try.ntmps28
  go_wp2
  go_loopw [5] (fun K wr => ∃ k : Nat, k ≤ n ∧ K = .int .i64 k ∧ Below w.heap.size w wr) (fun K _ => n - (intOf K).toNat)
  case atStart => exact ⟨0, Nat.zero_le _, rfl, Below.refl _ _⟩
  case round =>
    obtain ⟨k, hk, rfl, hbel⟩ := hrel
    by_cases hkn : k < n
    · obtain ⟨b, off, z, rfl, hb, hc, hd⟩ := (below_ints hz hbel).at (k := k) (by have := HN.out; omega)
      obtain ⟨b', off', z', rfl, hb', hc', hd'⟩ := (below_ints hz' hbel).at (k := k) (by have := HN.out; omega)
      obtain rfl : z = z' := by rw [hd] at hd'; exact (List.cons.inj hd').1
      have HB := Lib.hid hbel
      clear hbel hd hd'
      go_wp2
      go_quiet (fail)
      go_wp2
      go_roundw
      case rel => exact ⟨k + 1, by omega, by go_num, below_drewN HB.out _⟩
      case measure => simp only [intOf]; omega
    · have HB := Lib.hid hbel
      clear hbel
      go_wp2
      go_ret
      exact ⟨rfl, HB.out⟩

/-! ### Marks -/
def marks (k : Int) (n : Nat) : List Int := (List.range n).map fun i => k + (i : Nat)
theorem marks_length (k : Int) (n : Nat) : (marks k n).length = n := by simp [marks]

/-- The first j of xs, then those of ys. -/
def over (xs ys : List Int) (j : Nat) : List Int := xs.take j ++ ys.drop j
theorem over_zero (xs ys : List Int) : over xs ys 0 = ys := by simp [over]
theorem over_all (xs ys : List Int) {j : Nat} (h : xs.length ≤ j) (h' : ys.length ≤ j) : over xs ys j = xs := by
  unfold over; rw [List.take_of_length_le h, List.drop_of_length_le h']; simp
theorem over_step {xs ys : List Int} {j : Nat} (hj : j < xs.length) (hj' : j < ys.length) : (over xs ys j).set j xs[j] = over xs ys (j + 1) := by
  unfold over
  rw [List.set_append_right _ _ (by simp; omega), List.length_take, Nat.min_eq_left (by omega), Nat.sub_self, List.drop_eq_getElem_cons hj', List.set_cons_zero, List.take_succ_eq_append_getElem hj]
  simp only [List.append_assoc, List.cons_append, List.nil_append]
theorem over_length (xs ys : List Int) (j : Nat) (hj : j ≤ xs.length) (h : xs.length = ys.length) : (over xs ys j).length = ys.length := by simp [over]; omega
theorem marks_get (k : Int) (n j : Nat) (h : j < (marks k n).length) : (marks k n)[j] = k + (j : Nat) := by simp [marks]

def MarkPost (w : World) (base : Nat) (ad : Option Addr) (n cap : Nat) (k : Int) (e : Ending) (w' : World) : Prop :=
  e = .returned (.int .i64 (k + n)) ∧ w'.ownsRow base 3 1 (.slice ad n cap) n ((marks k n).map (Value.int .i64)) ∧ w.grownBy w' (Value.slice ad n cap).ownBlock

theorem own_cell {wr : World} {B g n cap j : Nat} {zs : List Int} (hown : wr.ownsRow B 3 1 (.slice (some ⟨g, 0, none⟩) n cap) n (zs.map (Value.int .i64))) (hj : j < n) :
    (∃ u : Int, wr.cell? ⟨g, j, none⟩ = some (.int .i64 u)) ∧ wr.frozen? ⟨g, j, none⟩ = false := by
  refine ⟨⟨zs.getD j 0, ?_⟩, hown.frozenAt j⟩
  rw [hown.cellAt j (by omega)]
  have hl : zs.length = n := by have := hown.1; simpa using this
  have hk' : j < zs.length := by omega
  simp [hk']

theorem mark_round {wr : World} {B g n cap j : Nat} {zs : List Int} {k : Int} (hown : wr.ownsRow B 3 1 (.slice (some ⟨g, 0, none⟩) n cap) n ((over (marks k n) zs j).map (Value.int .i64))) (hj : j < n) (hz : zs.length = n) :
    (wr.setCell ⟨g, j, none⟩ (.int .i64 (k + j))).ownsRow B 3 1 (.slice (some ⟨g, 0, none⟩) n cap) n ((over (marks k n) zs (j + 1)).map (Value.int .i64)) ∧ wr.grownBy (wr.setCell ⟨g, j, none⟩ (.int .i64 (k + j))) (some g) := by
  have := hown.stored j (.int .i64 (k + j))
  rw [← List.map_set] at this
  have e := over_step (xs := marks k n) (ys := zs) (j := j) (by rw [marks_length]; omega) (by omega)
  rw [marks_get] at e
  rwa [e] at this

set_option maxHeartbeats 1600000 in
theorem markIntS_any (base : Nat) (ad : Option Addr) (n cap : Nat) (zs : List Int) (k : Int) (hk0 : 0 ≤ k) (hk1 : k ≤ 17592186044416) (hl : n ≤ 17592186044416) (w : World) (hown0 : w.ownsRow base 3 1 (.slice ad n cap) n (zs.map (Value.int .i64))) :
    Calls Try.prog 37 #[.slice ad n cap, .int .i64 k] w (MarkPost w base ad n cap k) := by
  have hzl : zs.length = n := by have := hown0.1; simpa using this
  have HZ := Lib.hid hzl
  clear hzl
  rcases hown0.2 with ⟨h1, h2⟩ | ⟨g, cap', cur, h1, h2, h3, h4, h5, h6, h7⟩
  · simp only [Value.slice.injEq] at h1
    obtain ⟨rfl, _, rfl⟩ := h1
    subst h2
    have HO := Lib.hid hown0
    clear hown0
    go_enter Try.func37, Try.ntmps37
    go_wp2
    refine wp_loop_rounds 1 ?_
    rw [rounds_succ]
    go_wp2
    go_ret
    refine ⟨by simp, ?_, World.grownBy.refl _ _⟩
    have hnil : zs = [] := List.length_eq_zero_iff.1 HZ.out
    have := HO.out
    rw [hnil] at this
    simpa [marks] using this
  · simp only [Value.slice.injEq] at h1
    obtain ⟨rfl, _, rfl⟩ := h1
    clear h2 h3 h4 h5 h6 h7
    have HO := Lib.hid hown0
    clear hown0
    go_enter Try.func37, Try.ntmps37
    go_wp2
    go_loopw [1, 5] (fun A J wr => ∃ j : Nat, j ≤ n ∧ A = .int .i64 (k + j) ∧ J = .int .i64 j ∧ wr.ownsRow base 3 1 (.slice (some ⟨g, 0, none⟩) n cap) n ((over (marks k n) zs j).map (Value.int .i64)) ∧ w.grownBy wr (some g)) (fun _ J _ => n - (intOf J).toNat)
    case atStart => exact ⟨0, Nat.zero_le _, by simp, rfl, by rw [over_zero]; exact HO.out, World.grownBy.refl _ _⟩
    case round =>
      obtain ⟨j, hj, rfl, rfl, hown, hg⟩ := hrel
      by_cases hjn : j < n
      · obtain ⟨⟨u, hcu⟩, hfu⟩ := own_cell hown hjn
        have HR := Lib.hid (mark_round hown hjn HZ.out)
        have HG := Lib.hid hg
        clear hown hg
        go_wp2
        go_roundw
        case rel => exact ⟨j + 1, by omega, by go_num, by go_num, HR.out.1, grown_trans HG.out HR.out.2⟩
        case measure => simp only [intOf]; omega
      · have HO2 := Lib.hid hown
        have HG := Lib.hid hg
        clear hown hg
        obtain rfl : j = n := by omega
        go_wp2
        go_ret
        refine ⟨rfl, ?_, HG.out⟩
        have h := HO2.out
        rwa [over_all _ _ (by rw [marks_length]; omega) (by rw [HZ.out]; omega)] at h

set_option maxHeartbeats 1600000 in
theorem heldIntS_any (ad : Option Addr) (n cap : Nat) (k : Int) (hk0 : 0 ≤ k) (hk1 : k ≤ 17592186044416) (hl : n ≤ 17592186044416) (w : World) (hz : IsInts w ad (marks k n)) :
    Calls Try.prog 88 #[.slice ad n cap, .int .i64 k] w fun e w' => e = .returned (.int .i64 (k + n)) ∧ w = w' := by
  go_enter Try.func88, Try.ntmps88
  go_wp2
  go_loop [1, 5] (fun A J => ∃ j : Nat, j ≤ n ∧ A = .int .i64 (k + j) ∧ J = .int .i64 j) (fun _ J => n - (intOf J).toNat)
  case atStart => exact ⟨0, Nat.zero_le _, by simp, rfl⟩
  case round =>
    obtain ⟨j, hj, rfl, rfl⟩ := hrel
    by_cases hjn : j < n
    · obtain ⟨b, off, z, rfl, hb, hc, hd⟩ := hz.at (k := j) (by rw [marks_length]; omega)
      obtain rfl : k + (j : Int) = z := by
        rw [List.drop_eq_getElem_cons (by rw [marks_length]; omega)] at hd
        have := (List.cons.inj hd).1
        rwa [marks_get] at this
      clear hd
      go_wp2
      go_round
      case rel => exact ⟨j + 1, by omega, by go_num, by go_num⟩
      case measure => simp only [intOf]; omega
    · obtain rfl : j = n := by omega
      go_wp2
      go_ret
      exact ⟨rfl, rfl⟩


/-- What a law's shell tells of a slice that came in. -/
theorem ints_of_row {w : World} {a : Option Addr} {len cap : Nat} {zs : List Int}
    (h : (a = none ∧ len = 0 ∧ cap = 0 ∧ zs = []) ∨ ∃ x, a = some x ∧ len ≤ cap ∧ cap ≤ maxLen ∧ zs.length = cap ∧ (∀ i, i < zs.length → w.cell? (x.add i) = some (.int .i64 (zs.getD i 0))) ∧ ∀ n ∈ zs, (Lit.int .i64 n).wf = true) :
    IsInts w a (zs.take len) ∧ (zs.take len).length = len ∧ len ≤ maxLen := by
  rcases h with ⟨rfl, rfl, rfl, rfl⟩ | ⟨x, rfl, hl, hm, hz, hc, _⟩
  · exact ⟨.inl (by simp), by simp, Nat.zero_le _⟩
  · refine ⟨?_, by simp; omega, by omega⟩
    by_cases h0 : len = 0
    · subst h0; exact .inl (by simp)
    · obtain ⟨b, off, spot⟩ := x
      have h0' := hc 0 (by omega)
      have hspot : spot = none := by simpa [Addr.add] using World.cell?_spot h0'
      subst hspot
      refine .inr ⟨b, off, rfl, ?_, fun i hi => ?_⟩
      · have := World.block_lt_of_cell? w _ h0'
        simpa [Addr.add] using this
      · have hi' : i < len := by simp at hi; omega
        have h := hc i (by omega)
        have e : (⟨b, off, none⟩ : Addr).add i = ⟨b, off + i, none⟩ := by
          unfold Addr.add; split
          · subst_vars; rfl
          · rfl
        rw [e] at h
        rw [h]
        have h1 : i < zs.length := by omega
        simp [hi', h1]


/-! ### What stays when a row is written, or blocks are added -/
theorem own_below {w w' : World} {base : Nat} {e : TypeId} {size : Nat} {v : Value} {n : Nat} {xs : List Value} (h : w.ownsRow base e size v n xs) (hb : Below w.heap.size w w') : w'.ownsRow base e size v n xs :=
  h.kept (row := none) ⟨hb.os, hb.tape, hb.output, hb.size, fun k hk _ => hb.block k hk⟩ (by
    cases hv : v.ownBlock with
    | none => exact .inl rfl
    | some k => exact .inr (by simp))

/-- Rows below p are not the row at or above p, and the other way round. -/
theorem ne_up {ar ag : Option Addr} {n c p : Nat} (h1 : ∀ a, ar = some a → a.block < p) (h2 : ∀ a, ag = some a → p ≤ a.block) : ∀ a, ar = some a → some a.block ≠ (Value.slice ag n c).ownBlock := by
  intro a ha
  cases ag with
  | none => simp [Value.ownBlock]
  | some b => have := h1 a ha; have := h2 b rfl; simp only [Value.ownBlock, ne_eq, Option.some.injEq]; omega
theorem ne_down {ar ag : Option Addr} {n c p : Nat} (h1 : ∀ a, ar = some a → p ≤ a.block) (h2 : ∀ a, ag = some a → a.block < p) : ∀ a, ar = some a → some a.block ≠ (Value.slice ag n c).ownBlock := by
  intro a ha
  cases ag with
  | none => simp [Value.ownBlock]
  | some b => have := h1 a ha; have := h2 b rfl; simp only [Value.ownBlock, ne_eq, Option.some.injEq]; omega
theorem own_ne {w w' : World} {base : Nat} {e : TypeId} {size : Nat} {ad : Option Addr} {k cap n : Nat} {r : Option Nat} {xs : List Value} (h : w.ownsRow base e size (.slice ad k cap) n xs) (hg : w.grownBy w' r)
    (hne : ∀ a, ad = some a → some a.block ≠ r) : w'.ownsRow base e size (.slice ad k cap) n xs :=
  h.kept hg (by
    cases ad with
    | none => exact .inl rfl
    | some a => exact .inr (hne a rfl))
/-- A row of one's own is written: all below is as it was. -/
theorem below_mark {w a b : World} {ag : Option Addr} {n c : Nat} (h : Below w.heap.size w a) (hg : a.grownBy b (Value.slice ag n c).ownBlock) (hp : ∀ x, ag = some x → w.heap.size ≤ x.block) : Below w.heap.size w b :=
  h.grown hg h.size (by
    intro k hk
    cases ag with
    | none => simp [Value.ownBlock] at hk
    | some x => have := hp x rfl; simp [Value.ownBlock] at hk; omega)

end Go.Proofs.Ytdnofcpobpoehaa

