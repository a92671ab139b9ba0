/- Sigma proofs, the program: rows of elements, images; copies and comparisons of slices. -/
import Derived.Test.YtdnofcpobpoehaaSigF
import Derived.Test.YtdnofcpobpoehaaG7
import Derived.Lib.AppendZeros
import Derived.Lib.SliceRun
import Derived.Deep.RegionHeld3
import Derived.Test.YtdnofcpobpoehaaElE
import Derived.Deep.LoopGhost
import Derived.Deep.AppendLies
namespace Go.Proofs.Ytdnofcpobpoehaa
open Go.RowKit
set_option linter.unusedVariables false
set_option linter.unusedSimpArgs false

theorem InI.ints {P : Nat} {w : World} {a : Option Addr} {n c : Nat} {z : List Int} (h : InI P w (.slice a n c) z) : IsInts w a z ∧ z.length = n ∧ (a = none → c = 0) ∧ n ≤ c := by
  obtain ⟨_, ad, cap, h1, h2, h3, h4⟩ := h
  simp only [Value.slice.injEq] at h1
  obtain ⟨rfl, rfl, rfl⟩ := h1
  exact ⟨h2.ints, rfl, h3, h4⟩

theorem drop_all_step {α : Type} {p : α → Bool} {rows rest : List α} {r : α} {k : Nat} {t : Bool} (h : rows.drop k = r :: rest) (hb : t = (rows.drop k).all p) :
    (p r = true → t = rest.all p) ∧ (p r = false → t = false) := by
  rw [h, List.all_cons] at hb
  exact ⟨fun h1 => by rw [hb, h1, Bool.true_and], fun h1 => by rw [hb, h1, Bool.false_and]⟩
theorem rowsB_off1 {P Q : Int} {rows : List (List Int)} (h : inB (rows.length : Int) 1 8 = false) : rowsB P Q rows = false := by
  rw [← Bool.not_eq_true, inB_true] at h
  rw [← Bool.not_eq_true, rowsB_true]
  omega
theorem rowsB_off2 {P Q : Int} {rows : List (List Int)} (h : inB (wid rows : Int) 1 8 = false) : rowsB P Q rows = false := by
  rw [← Bool.not_eq_true, inB_true] at h
  rw [← Bool.not_eq_true, rowsB_true]
  omega
theorem rowsB_on {P Q : Int} {rows : List (List Int)} (h1 : inB (rows.length : Int) 1 8 = true) (h2 : inB (wid rows : Int) 1 8 = true) : rowsB P Q rows = rows.all fun r => rowB P Q (wid rows) r := by
  rw [inB_true] at h1 h2
  unfold rowsB
  rw [decide_eq_true (by omega), decide_eq_true (by omega), Bool.true_and, Bool.true_and]
theorem wid_head {rows : List (List Int)} {z : List Int} (h : rows.drop 0 = z :: rows.drop (0 + 1)) : wid rows = z.length := by
  rw [List.drop_zero] at h
  unfold wid
  rw [h]; rfl
theorem rowB_out {P Q : Int} {n : Nat} {r : List Int} (h : ¬ r.length = n) : rowB P Q n r = false := by simp [rowB, h]
theorem rowB_in {P Q : Int} {n : Nat} {r : List Int} (h : r.length = n) (h8 : n ≤ 24) : rowB P Q n r = elsB P Q r := by simp [rowB, elsB, h, h8]

theorem imgs_step {P : Int} {rows : List (List Int)} {es : List Int} {z : List Int} {k : Nat} (h : rows.drop k = z :: rows.drop (k + 1)) : (imgs P rows es).drop k = powsFrom P 1 z es :: (imgs P rows es).drop (k + 1) := by
  unfold imgs
  rw [← List.map_drop, ← List.map_drop, h]; rfl
theorem set_over {xs ys : List Int} {x : Int} {k : Nat} (h : xs.drop k = x :: xs.drop (k + 1)) (hl : xs.length = ys.length) : (over xs ys k).set k x = over xs ys (k + 1) := by
  have hk : k < xs.length := by
    rcases Nat.lt_or_ge k xs.length with h1 | h1
    · exact h1
    · rw [List.drop_of_length_le h1] at h; cases h
  have e := over_step (xs := xs) (ys := ys) hk (by omega)
  rw [List.drop_eq_getElem_cons hk] at h
  rwa [(List.cons.inj h).1] at e

theorem own_put {wr : World} {B g n cap j : Nat} {zs : List Int} (hown : wr.ownsRow B 3 1 (.slice (some ⟨g, 0, none⟩) n cap) n (zs.map (Value.int .i64))) (z : Int) :
    (wr.setCell ⟨g, j, none⟩ (.int .i64 z)).ownsRow B 3 1 (.slice (some ⟨g, 0, none⟩) n cap) n ((zs.set j z).map (Value.int .i64)) := by
  have := (hown.stored j (.int .i64 z)).1
  rwa [← List.map_set] at this

/-- A list in a row of the call's own. -/
def OwnI (w : World) (zs : List Int) (e : Ending) (w' : World) : Prop := ∃ v, e = .returned v ∧ OwI w.heap.size w'.heap.size w' v zs ∧ Below w.heap.size w w'

set_option maxRecDepth 100000 in
set_option maxHeartbeats 3200000 in
theorem imagesOf_any (P Q G : Int) (hm : Mo P Q) {B C : Nat} {v : Value} {ad : Option Addr} {n cap : Nat} {rows : List (List Int)} {es : List Int} (hl : rows.length ≤ 8) (hr : ∀ z ∈ rows, z.length = es.length ∧ allEl P Q z = true) (he : allIn es 0 (Q - 1) = true) (h8 : es.length ≤ 8) {w : World} (hz : InS B w v rows) (hn : es.length = n) (hi : IsInts w ad es) :
    Calls Try.prog 159 #[gv P Q G, v, .slice ad n cap] w (OwnI w (imgs P rows es)) := by
  obtain ⟨ad', cap', rfl⟩ := hz.shape
  have hB := ba w (.cells #[.int .i64 P, .int .i64 Q, .int .i64 G] 29)
  have G_0 := Lib.hid (gr_new w P Q G 29)
  have HB_0 := Lib.hid hB
  have Z_0 := Lib.hid (hz.below hB)
  have E_0 := Lib.hid (hi.below hB (Nat.le_refl _))
  have HR := Lib.hid hr
  have HE := Lib.hid he
  have hsz : (w.alloc (.cells #[.int .i64 P, .int .i64 Q, .int .i64 G] 29)).heap.size = w.heap.size + 1 := by simp
  have HIL := Lib.hid (imgs_length P rows es)
  generalize hnr : rows.length = m at hz Z_0 hl HIL
  have HM := Lib.hid hnr
  have HN := Lib.hid hn
  have hn8 : n ≤ 8 := by omega
  obtain ⟨i0, hi1, hz0, hz1, hz2⟩ := info_parts Try.info3
  have HZ2 := Lib.hid hz2
  clear hB hz hr he hnr hn hi hz2
  go_enter Try.func159, Try.ntmps159
  go_wp2_with (at_make; refine wpList_make_full _ rfl _ _ 24 rfl (w.heap.size + 1) 3 i0 (.int .i64 0) 1 Try.underlying24 hi1 hz0 hz1 .i64 .i64 _ _ m rfl rfl rfl rfl (by rw [HZ2.out]; omega) (by unfold maxLen; omega) (by simp) ?_; intro w1 hown hgrow)
  go_loopw [8, 9, 15] (fun _ _ K wr => ∃ k : Nat, k ≤ m ∧ K = .int .i64 k ∧ wr.ownsRow (w.heap.size + 1) 3 1 (.slice (some ⟨w.heap.size + 1, 0, none⟩) m m) m ((over (imgs P rows es) (List.replicate m 0) k).map (Value.int .i64)) ∧ Below (w.heap.size + 1) (w.alloc (.cells #[.int .i64 P, .int .i64 Q, .int .i64 G] 29)) wr) (fun _ _ K _ => m - (intOf K).toNat)
  case atStart =>
    refine ⟨0, Nat.zero_le _, rfl, ?_, ?_⟩
    · rw [over_zero]
      have h := hown
      rw [show Value.cells (.int .i64 0) = #[.int .i64 0] from rfl, Nat.mul_one, toList_madeCells_one] at h
      simpa using h
    · exact (Below.refl _ _).grown hgrow (by simp) (by simp)
  case round =>
    obtain ⟨k, hk, rfl, hownr, hbel⟩ := hrel
    clear hown hgrow
    have hbel' : Below (w.alloc (.cells #[.int .i64 P, .int .i64 Q, .int .i64 G] 29)).heap.size (w.alloc (.cells #[.int .i64 P, .int .i64 Q, .int .i64 G] 29)) wr := by rw [hsz]; exact hbel
    have HBw := Lib.hid (bt HB_0.out hbel')
    have HBk := Lib.hid hbel
    have HO := Lib.hid hownr
    have Z_1 := Lib.hid (Z_0.out.below hbel')
    have E_1 := Lib.hid (E_0.out.below hbel' (Nat.le_refl _))
    obtain ⟨g0, g1, g2⟩ := G_0.out.below hbel'
    clear hbel hbel' hownr
    by_cases hkm : k < m
    · obtain ⟨b, off, a, c, z, rfl, hb, hc, hin, hd⟩ := Z_1.out.at (k := k) (by have := HM.out; omega)
      obtain ⟨⟨u, hcu⟩, hfu⟩ := own_cell HO.out hkm
      obtain ⟨hzl, hze⟩ := HR.out z (List.mem_of_mem_drop (i := k) (by rw [hd]; simp))
      have hok : powsOk P Q z es = true := by rw [powsOk_all _ _ _ _ hzl, hze, HE.out]; rfl
      have HOK := Lib.hid hok
      have HV := Lib.hid (show powsVal P Q z es = powsFrom P 1 z es by simp [powsVal, hok])
      have hzn : z.length = n := by rw [hzl, HN.out]
      have HI := Lib.hid (hin.ints).1
      have HD := Lib.hid (set_over (ys := List.replicate m 0) (imgs_step (P := P) (es := es) hd) (by rw [HIL.out]; simp))
      rw [hzn] at hc
      have HZN := Lib.hid hzn
      clear hd hin hzl hze hok hzn hcu hfu
      go_wp2_with fail
      refine (multiplyPowers_any P Q G hm _ _ n _ _ z es HZN.out HN.out (by omega) _ HI.out E_1.out).mono ?_
      rw [HOK.out, HV.out]
      rintro e w2 ⟨rfl, hb2⟩
      have HO2 := Lib.hid (own_below HO.out hb2)
      have HB2 := Lib.hid (HBk.out.trans (hb2.mono (by have := HBk.out.size; simp at this; omega)))
      obtain ⟨⟨u, hcu⟩, hfu⟩ := own_cell HO2.out hkm
      have HS := Lib.hid (own_put (j := k) HO2.out (powsFrom P 1 z es))
      clear hb2
      go_wp2
      go_roundw
      case rel => exact ⟨k + 1, by omega, by go_num, by have h := HS.out; rwa [HD.out] at h, HB2.out.setCell (Nat.le_refl _) _⟩
      case measure => simp only [intOf]; omega
    · obtain rfl : k = m := by omega
      have h2 := HO.out
      rw [over_all _ _ (by rw [HIL.out]; omega) (by simp)] at h2
      have HO3 := Lib.hid h2
      clear h2
      go_wp2
      go_ret
      refine ⟨_, rfl, ?_, HBw.out⟩
      have h3 := owI_mk HO3.out (by have := HBk.out.size; simp at this; omega)
      exact h3.wide (Nat.le_succ _) (Nat.le_refl _) (Nat.le_refl _)

end Go.Proofs.Ytdnofcpobpoehaa

/- Slices of integers: comparison, copy, concatenation (package slices, walked). -/
namespace Go.Proofs.Ytdnofcpobpoehaa
open Go.RowKit
set_option linter.unusedVariables false
set_option linter.unusedSimpArgs false

theorem eqv_step {a b ra rb : List Int} {x y : Int} {k : Nat} (h : a.drop k = x :: ra) (h' : b.drop k = y :: rb) (he : decide (a = b) = decide (a.drop k = b.drop k)) :
    (x = y → decide (a = b) = decide (ra = rb)) ∧ (x ≠ y → decide (a = b) = false) := by
  rw [h, h'] at he
  refine ⟨fun e => ?_, fun e => ?_⟩
  · rw [he, e]; simp
  · rw [he]; simp [e]

set_option maxHeartbeats 800000 in
theorem equal_any (ad ad' : Option Addr) (n n' cap cap' : Nat) (xs ys : List Int) (hn : xs.length = n) (hn' : ys.length = n') (hl : n ≤ 1152921504606846976) (hl' : n' ≤ 1152921504606846976) (w : World) (hz : IsInts w ad xs) (hz' : IsInts w ad' ys) :
    Calls Try.prog 162 #[.slice ad n cap, .slice ad' n' cap'] w fun e w' => e = .returned (.bool (decide (xs = ys))) ∧ Below w.heap.size w w' := by
  by_cases hnn : n = n'
  · subst hnn
    have HN := Lib.hid hn
    have HN' := Lib.hid hn'
    clear hn hn'
    go_enter Try.func162, Try.ntmps162
    go_wp2_with fail
    go_loopw [5, 13] (fun _ K wr => ∃ k : Nat, k ≤ n ∧ K = .int .i64 k ∧ decide (xs = ys) = decide (xs.drop k = ys.drop k) ∧ Below w.heap.size w wr) (fun _ K _ => n - (intOf K).toNat)
    case atStart => exact ⟨0, Nat.zero_le _, rfl, by simp, Below.refl _ _⟩
    case round =>
      obtain ⟨k, hk, rfl, he, hbel⟩ := hrel
      by_cases hkn : k < n
      · obtain ⟨b, off, x, rfl, hb, hc, hd⟩ := (hz.below hbel (Nat.le_refl _)).at (k := k) (by have := HN.out; omega)
        obtain ⟨b', off', y, rfl, hb', hc', hd'⟩ := (hz'.below hbel (Nat.le_refl _)).at (k := k) (by have := HN'.out; omega)
        have HS := Lib.hid (eqv_step hd hd' he)
        have HB := Lib.hid hbel
        clear he hd hd' hbel
        by_cases hxy : x = y
        · have hne : (x != y) = false := by simp [hxy]
          have HE := Lib.hid (HS.out.1 hxy)
          clear hxy HS
          go_wp2_with fail
          go_quiet (fail)
          go_wp2
          go_roundw
          case rel => exact ⟨k + 1, by omega, by go_num, HE.out, below_drewN HB.out _⟩
          case measure => simp only [intOf]; omega
        · have hne : (x != y) = true := by simp [hxy]
          have HE := Lib.hid (HS.out.2 hxy)
          clear hxy HS
          go_wp2_with fail
          go_quiet (fail)
          go_wp2
          go_ret
          exact ⟨by rw [HE.out]; rfl, below_drewN HB.out _⟩
      · have HE := Lib.hid he
        have HB := Lib.hid hbel
        clear he hbel
        go_wp2_with fail
        go_ret
        refine ⟨?_, HB.out⟩
        rw [HE.out, List.drop_of_length_le (by have := HN.out; omega), List.drop_of_length_le (by have := HN'.out; omega)]; rfl
  · have he : ¬ xs = ys := fun h => hnn (by rw [← hn, ← hn', h])
    rw [decide_eq_false he]
    have hni : ¬ (n : Int) = (n' : Int) := by omega
    clear he
    go_enter Try.func162, Try.ntmps162
    go_wp2_with fail
    go_ret
    exact ⟨rfl, Below.refl _ _⟩

set_option maxHeartbeats 800000 in
theorem clone_any (ad : Option Addr) (n cap : Nat) (zs : List Int) (hn : zs.length = n) (hl : n ≤ 1000000000) (hnil : ad = none → cap = 0) (w : World) (hz : IsInts w ad zs) :
    Calls Try.prog 85 #[.slice ad n cap] w (OwnI w zs) := by
  have q : ∀ (w : World) (a : Option Addr) (n c n' c' : Nat), (binOp .eql 24 (.slice a n c) (.slice none n' c')).run Try.prog w = .ok (.bool a.isNone) w := fun w a n c n' c' => Lib.run_eql_slice_nil w _ _ a n c n' c' Try.underlying24
  obtain ⟨i0, hi, hz0, hz1, hz2⟩ := info_parts Try.info3
  have hal := ba w (.cells #[] 3)
  have HZ := Lib.hid (hz.below hal (Nat.le_refl _))
  have HB := Lib.hid hal
  have HO := Lib.hid (own_lit w [] (by simp) 3)
  have HN := Lib.hid hn
  have HNIL := Lib.hid hnil
  have HI := Lib.hid hz
  clear hn hnil hz hal
  cases ad with
  | none =>
    go_enter Try.func85, Try.ntmps85
    go_wp2
    go_ret
    have h0 : zs = [] := by
      rcases HI.out with h0 | ⟨b, off, h1, _⟩
      · exact h0
      · cases h1
    subst h0
    exact ⟨_, rfl, owI_nil _ _ (Nat.le_refl _), Below.refl _ _⟩
  | some a =>
    go_enter Try.func85, Try.ntmps85
    go_wp2_with (at_builtin; refine wpList_append_ints rfl _ _ 24 rfl w.heap.size 3 i0 Try.underlying24 hi hz0 hz1 hz2 _ 0 [] rfl HO.out (some a) n cap zs rfl HN.out HZ.out HNIL.out (by omega) HB.out.size ?_)
    intro v' w1 hown' hgrow
    obtain ⟨va', vc', rfl⟩ := own_shape hown'
    have HO1 := Lib.hid hown'
    have HB1 := Lib.hid (HB.out.grown hgrow HB.out.size (fun q hq => (HO.out.lt q hq).1))
    clear hown' hgrow
    go_wp2
    go_ret
    have h := HO1.out
    exact ⟨_, rfl, owI_mk h HB1.out.size, HB1.out⟩

/-- A row without elements, of one's own, with room. -/
def GrowOut (w : World) (e : Ending) (w' : World) : Prop := ∃ v, e = .returned v ∧ w'.ownsRow w.heap.size 3 1 v 0 [] ∧ Below w.heap.size w w'

set_option maxHeartbeats 800000 in
theorem grow_any (m : Nat) (h0 : 0 < m) (hl : m ≤ 4000000) (w : World) :
    Calls Try.prog 158 #[.slice none 0 0, .int .i64 m] w (GrowOut w) := by
  obtain ⟨i0, hi, hz0, hz1, hz2⟩ := info_parts Try.info3
  have HZ2 := Lib.hid hz2
  have h0i : 0 < (m : Int) := by omega
  have hnn : ¬ (m : Int) < 0 := by omega
  have hr := Lib.run_append_nil_zeros (P := Try.prog) w 24 3 24 3 i0 (.int .i64 0) .i64 .i64 Try.underlying24 Try.underlying3 hi hz0 m h0 (by omega) (by omega) (by rw [hz2]; omega)
  have hge := grownCap_ge w m 0 3
  have hle := grownCap_le_maxLen w m 0 3 (by unfold maxLen; omega)
  generalize hcap : grownCap w m 0 3 = cap at hr hge hle
  clear hz2
  go_enter Try.func158, Try.ntmps158
  go_wp2_with (at_builtin; refine Lib.wpList_append_run _ rfl _ _ _ _ rfl _ _ rfl rfl _ _ hr ?_)
  go_ret
  refine ⟨_, rfl, ⟨by simp, .inr ⟨w.heap.size, cap, Builtin.zeroCells (Value.int .i64 0).cells m ++ Builtin.zeroCells (Value.int .i64 0).cells (cap - m), rfl, Nat.le_refl _, ?_, Nat.zero_le _, hle, ?_, by simp⟩⟩, ?_⟩
  · show (w.heap.push _)[w.heap.size]? = _
    rw [Array.getElem?_push_size]; rfl
  · simp [Builtin.zeroCells, Value.cells]; omega
  · exact (Below.refl _ w).drew.alloc (Nat.le_refl _) _

theorem sum_step {rows : List (List Int)} {z : List Int} {k : Nat} (h : rows.drop k = z :: rows.drop (k + 1)) : nS (rows.take (k + 1)) = nS (rows.take k) + z.length ∧ (rows.take (k + 1)).flatten = (rows.take k).flatten ++ z := by
  have hk : k < rows.length := by
    rcases Nat.lt_or_ge k rows.length with h1 | h1
    · exact h1
    · rw [List.drop_of_length_le h1] at h; cases h
  rw [List.drop_eq_getElem_cons hk] at h
  rw [List.take_succ_eq_append_getElem hk, ← (List.cons.inj h).1]
  refine ⟨?_, by rw [List.flatten_append, List.flatten_cons, List.flatten_nil, List.append_nil]⟩
  rw [nS_append]; simp [nS]
theorem nS_flat (rows : List (List Int)) : rows.flatten.length = nS rows := by simp [nS, List.length_flatten]

set_option maxRecDepth 100000 in
set_option maxHeartbeats 1600000 in
theorem concat_any {B : Nat} {v : Value} {rows : List (List Int)} (hl : rows.length ≤ 1000) (hr : nS rows ≤ 4000000) (h0 : 0 < nS rows) {w : World} (hz : InS B w v rows) :
    Calls Try.prog 123 #[v] w (OwnI w rows.flatten) := by
  obtain ⟨ad, cap, rfl⟩ := hz.shape
  obtain ⟨i0, hi, hz0, hz1, hz2⟩ := info_parts Try.info3
  have HR := Lib.hid hr
  have HF := Lib.hid (nS_flat rows)
  generalize hn : rows.length = n at hz hl
  have HN := Lib.hid hn
  have HZ := Lib.hid hz
  clear hn hz
  go_enter Try.func123, Try.ntmps123
  go_wp2_with fail
  go_loop [3, 5, 11] (fun S _ K => ∃ k : Nat, k ≤ n ∧ K = .int .i64 k ∧ S = .int .i64 (nS (rows.take k))) (fun _ _ K => n - (intOf K).toNat)
  case atStart => exact ⟨0, Nat.zero_le _, rfl, by simp [nS]⟩
  case round =>
    obtain ⟨k, hk, rfl, rfl⟩ := hrel
    by_cases hkn : k < n
    · obtain ⟨b, off, a, c, z, rfl, hb, hc, hin, hd⟩ := HZ.out.at (k := k) (by have := HN.out; omega)
      have hs := (sum_step hd).1
      have hle : nS (rows.take (k + 1)) ≤ 4000000 := by
        have := nS_drop rows (k + 1)
        have := HR.out
        omega
      have HS := Lib.hid hs
      have hsi : IntKind.i64.wrap ((nS (rows.take k) : Int) + (z.length : Int)) = (nS (rows.take (k + 1)) : Int) := by rw [IntKind.wrap_i64]; omega
      have hneg : ¬ (nS (rows.take (k + 1)) : Int) < 0 := by omega
      clear hin hd hs hle
      go_wp2_with fail
      go_round
      case rel => exact ⟨k + 1, by omega, by go_num, rfl⟩
      case measure => simp only [intOf]; omega
    · obtain rfl : k = n := by omega
      have e1 : nS (rows.take k) = nS rows := by rw [List.take_of_length_le (by have := HN.out; omega)]
      rw [e1]
      clear e1
      go_wp2_with fail
      refine (grow_any (nS rows) h0 (by omega) _).mono ?_
      rintro e w1 ⟨v1, rfl, ho1, hb1⟩
      obtain ⟨va, vc, rfl⟩ := own_shape ho1
      have HO1 := Lib.hid ho1
      have HB1 := Lib.hid hb1
      clear ho1 hb1
      go_wp2_with fail
      go_loopw [6, 8, 27] (fun V _ K wr => ∃ (j : Nat) (va : Option Addr) (vc : Nat), j ≤ k ∧ K = .int .i64 j ∧ V = .slice va (nS (rows.take j)) vc ∧ wr.ownsRow w.heap.size 3 1 (.slice va (nS (rows.take j)) vc) (nS (rows.take j)) ((rows.take j).flatten.map (Value.int .i64)) ∧ Below w.heap.size w wr) (fun _ _ K _ => k - (intOf K).toNat)
      case atStart => exact ⟨0, va, vc, Nat.zero_le _, rfl, rfl, by simpa [nS] using HO1.out, HB1.out⟩
      case round =>
        obtain ⟨j, va, vc, hj, rfl, rfl, hown, hbel⟩ := hrel
        have HO := Lib.hid hown
        have HB := Lib.hid hbel
        clear hown hbel
        by_cases hjk : j < k
        · obtain ⟨b, off, a, c, z, rfl, hb, hc, hin, hd⟩ := (HZ.out.below HB.out).at (k := j) (by have := HN.out; omega)
          obtain ⟨hi1, hi2, hi3, hi4⟩ := hin.ints
          have HI := Lib.hid hi1
          have HNIL := Lib.hid hi3
          have HS := Lib.hid (sum_step hd)
          have hle : nS (rows.take (j + 1)) ≤ 4000000 := by
            have := nS_drop rows (j + 1)
            have := HR.out
            omega
          have hle2 : nS (rows.take j) + z.length ≤ 4000000 := by have := HS.out.1; omega
          clear hi1 hi2 hi3 hi4 hin hd hle
          go_wp2_with (at_builtin; refine wpList_append_ints rfl _ _ 24 rfl w.heap.size 3 i0 Try.underlying24 hi hz0 hz1 hz2 _ (nS (rows.take j)) ((rows.take j).flatten) rfl HO.out a z.length c z rfl rfl HI.out HNIL.out (by omega) HB.out.size ?_)
          intro v' w2 hown2 hgrow
          obtain ⟨va', vc', rfl⟩ := own_shape hown2
          have HO2 := Lib.hid (show w2.ownsRow w.heap.size 3 1 (.slice va' (nS (rows.take (j + 1))) vc') (nS (rows.take (j + 1))) ((rows.take (j + 1)).flatten.map (Value.int .i64)) from by rw [HS.out.1, HS.out.2]; simpa using hown2)
          have HB2 := Lib.hid (HB.out.grown hgrow HB.out.size (fun q hq => (HO.out.lt q hq).1))
          clear hown2 hgrow
          go_wp2_with fail
          go_roundw
          case rel =>
            exact ⟨j + 1, va', vc', by omega, by go_num, by rw [HS.out.1], HO2.out, HB2.out⟩
          case measure => simp only [intOf]; omega
        · obtain rfl : j = k := by omega
          have h := HO.out
          rw [List.take_of_length_le (by have := HN.out; omega)] at h
          have HO3 := Lib.hid h
          have e1 : nS (rows.take j) = nS rows := by rw [List.take_of_length_le (by have := HN.out; omega)]
          rw [e1]
          clear e1 h
          go_wp2_with fail
          go_ret
          refine ⟨_, rfl, ?_, HB.out⟩
          have h := owI_mk HO3.out HB.out.size
          exact h

end Go.Proofs.Ytdnofcpobpoehaa

/- Sigma proofs, the program: a statement behind its interface: its linear statements and its elements. -/
namespace Go.Proofs.Ytdnofcpobpoehaa
open Go.RowKit
set_option linter.unusedVariables false
set_option linter.unusedSimpArgs false

/-! ### Two values, four numbers in a block -/
def V2 (w : World) (b : Nat) (x y : Value) : Prop := w.cell? ⟨b, 0, none⟩ = some x ∧ w.cell? ⟨b, 1, none⟩ = some y
theorem v2_new (w : World) (x y : Value) (t : TypeId) : V2 (w.alloc (.cells #[x, y] t)) w.heap.size x y := by
  refine ⟨?_, ?_⟩ <;> (rw [World.cell?_alloc_at _ _ _ _ rfl]; rfl)
theorem V2.lt {w : World} {b : Nat} {x y : Value} (h : V2 w b x y) : b < w.heap.size := World.block_lt_of_cell? w _ h.1
theorem V2.below {w w' : World} {b : Nat} {x y : Value} (h : V2 w b x y) (hb : Below w.heap.size w w') : V2 w' b x y := by
  have hl := h.lt
  exact ⟨by rw [hb.cell (p := ⟨b, 0, none⟩) hl]; exact h.1, by rw [hb.cell (p := ⟨b, 1, none⟩) hl]; exact h.2⟩
theorem V2.drew {w : World} {b : Nat} {x y : Value} (h : V2 w b x y) : V2 w.drew b x y := h
def V4 (w : World) (b : Nat) (a c d f : Int) : Prop := w.cell? ⟨b, 0, none⟩ = some (.int .i64 a) ∧ w.cell? ⟨b, 1, none⟩ = some (.int .i64 c) ∧ w.cell? ⟨b, 2, none⟩ = some (.int .i64 d) ∧ w.cell? ⟨b, 3, none⟩ = some (.int .i64 f)
theorem v4_new (w : World) (a c d f : Int) (t : TypeId) : V4 (w.alloc (.cells #[.int .i64 a, .int .i64 c, .int .i64 d, .int .i64 f] t)) w.heap.size a c d f := by
  refine ⟨?_, ?_, ?_, ?_⟩ <;> (rw [World.cell?_alloc_at _ _ _ _ rfl]; rfl)
theorem V4.lt {w : World} {b : Nat} {a c d f : Int} (h : V4 w b a c d f) : b < w.heap.size := World.block_lt_of_cell? w _ h.1
theorem V4.below {w w' : World} {b : Nat} {a c d f : Int} (h : V4 w b a c d f) (hb : Below w.heap.size w w') : V4 w' b a c d f := by
  have hl := h.lt
  exact ⟨by rw [hb.cell (p := ⟨b, 0, none⟩) hl]; exact h.1, by rw [hb.cell (p := ⟨b, 1, none⟩) hl]; exact h.2.1, by rw [hb.cell (p := ⟨b, 2, none⟩) hl]; exact h.2.2.1, by rw [hb.cell (p := ⟨b, 3, none⟩) hl]; exact h.2.2.2⟩
theorem V4.drew {w : World} {b : Nat} {a c d f : Int} (h : V4 w b a c d f) : V4 w.drew b a c d f := h
abbrev ev4 (a c d f : Int) : Value := .agg #[.int .i64 a, .int .i64 c, .int .i64 d, .int .i64 f]

/-! ### Lists of statements of equal logarithms, flat -/
def InE (P : Nat) (w : World) (v : Value) (zs : List Int) : Prop := P ≤ w.heap.size ∧ ∃ ad n cap, v = .slice ad n cap ∧ zs.length = n * 4 ∧ InB P w ad zs ∧ (ad = none → cap = 0)
theorem InE.below {P : Nat} {w w' : World} {v : Value} {zs : List Int} (h : InE P w v zs) (hb : Below w.heap.size w w') : InE P w' v zs := by
  obtain ⟨h0, ad, n, cap, rfl, hn, h1, h2⟩ := h
  exact ⟨Nat.le_trans h0 hb.size, ad, n, cap, rfl, hn, h1.below (hb.mono h0), h2⟩
theorem InE.mid {P A B : Nat} {w w' : World} {v : Value} {zs : List Int} (h : InE P w v zs) (hm : Mid A B w w') (hA : P ≤ A) : InE P w' v zs := by
  obtain ⟨h0, ad, n, cap, rfl, hn, h1, h2⟩ := h
  exact ⟨Nat.le_trans h0 hm.size, ad, n, cap, rfl, hn, h1.below (hm.toBelow hA h0), h2⟩
theorem InE.le {P : Nat} {w : World} {v : Value} {zs : List Int} (h : InE P w v zs) : P ≤ w.heap.size := h.1
theorem InE.shape {P : Nat} {w : World} {v : Value} {zs : List Int} (h : InE P w v zs) : ∃ ad n cap, v = .slice ad n cap ∧ zs.length = n * 4 ∧ IsInts w ad zs ∧ (ad = none → cap = 0) := by
  obtain ⟨_, ad, n, cap, rfl, hn, h1, h2⟩ := h
  exact ⟨ad, n, cap, rfl, hn, h1.ints, h2⟩
/-- The k-th four numbers. -/
theorem ints_quad {w : World} {ad : Option Addr} {zs : List Int} {n k : Nat} (h : IsInts w ad zs) (hk : k < n) (hn : zs.length = n * 4) :
    ∃ b off x y z t, ad = some ⟨b, off, none⟩ ∧ b < w.heap.size ∧ w.cell? ⟨b, off + k * 4, none⟩ = some (.int .i64 x) ∧ w.cell? ⟨b, off + k * 4 + 1, none⟩ = some (.int .i64 y) ∧ w.cell? ⟨b, off + k * 4 + 2, none⟩ = some (.int .i64 z) ∧ w.cell? ⟨b, off + k * 4 + 3, none⟩ = some (.int .i64 t) ∧
      zs.drop (k * 4) = x :: y :: z :: t :: zs.drop ((k + 1) * 4) := by
  rcases h with rfl | ⟨b, off, rfl, hb, hc⟩
  · simp at hn; omega
  · have g : ∀ j (hj : j < 4), w.cell? ⟨b, off + k * 4 + j, none⟩ = some (.int .i64 (zs[k * 4 + j]'(by omega))) := by
      intro j hj
      have := hc (k * 4 + j) (by omega)
      rw [Nat.add_assoc, this]
      simp [List.getElem?_eq_getElem (show k * 4 + j < zs.length by omega)]
    have hkl : k * 4 + 3 < zs.length := by omega
    refine ⟨b, off, zs[k * 4]'(by omega), zs[k * 4 + 1]'(by omega), zs[k * 4 + 2]'(by omega), zs[k * 4 + 3]'(by omega), rfl, hb, g 0 (by omega), g 1 (by omega), g 2 (by omega), g 3 (by omega), ?_⟩
    have d : ∀ j (hj : j < zs.length), zs.drop j = zs[j] :: zs.drop (j + 1) := fun j hj => List.drop_eq_getElem_cons hj
    rw [d (k * 4) (by omega), d (k * 4 + 1) (by omega), d (k * 4 + 1 + 1) (by omega), d (k * 4 + 1 + 1 + 1) (by omega)]
    rw [show k * 4 + 1 + 1 + 1 + 1 = (k + 1) * 4 by omega]

theorem comps_in (w : World) (a c d f : Int) (t : TypeId) : IsInts ((w.alloc (.cells #[.int .i64 a, .int .i64 c, .int .i64 d, .int .i64 f] t)).alloc (.cells #[.int .i64 a, .int .i64 c, .int .i64 d, .int .i64 f] 3)) (some ⟨w.heap.size + 1, 0, none⟩) [a, c, d, f] :=
  ints_spot7 _ _ (by simp) [a, c, d, f] 3

theorem components_any (a c d f : Int) (w : World) :
    Calls Try.prog 155 #[ev4 a c d f] w fun e w' => ∃ ad, e = .returned (.slice ad 4 4) ∧ IsInts w' ad [a, c, d, f] ∧ Below w.heap.size w w' := by
  go_enter Try.func155, Try.ntmps155
  go_wp2
  go_ret
  exact ⟨_, rfl, comps_in w a c d f _, bt (ba _ _) (ba _ _)⟩
/-- The two rows and the two images of a statement of equal logarithms, in blocks from lo on. -/
def Rw4 (lo : Nat) (w : World) (v : Value) (a b c d : Int) : Prop := ∃ p q r s : Nat, v = .agg #[.slice (some ⟨r, 0, none⟩) 2 2, .slice (some ⟨s, 0, none⟩) 2 2] ∧ (lo ≤ p ∧ lo ≤ q ∧ lo ≤ r ∧ lo ≤ s) ∧
  (w.cell? ⟨r, 0, none⟩ = some (.slice (some ⟨p, 0, none⟩) 1 1) ∧ w.cell? ⟨r, 1, none⟩ = some (.slice (some ⟨q, 0, none⟩) 1 1)) ∧ (w.cell? ⟨p, 0, none⟩ = some (.int .i64 a) ∧ w.cell? ⟨q, 0, none⟩ = some (.int .i64 c)) ∧ w.cell? ⟨s, 0, none⟩ = some (.int .i64 b) ∧ w.cell? ⟨s, 1, none⟩ = some (.int .i64 d)
/-- What lies in blocks from lo on stays. -/
def Stay (lo : Nat) (w w' : World) : Prop := ∀ a v, lo ≤ a.block → w.cell? a = some v → w'.cell? a = some v
theorem Rw4.stay {lo : Nat} {w w' : World} {v : Value} {a b c d : Int} (h : Rw4 lo w v a b c d) (hs : Stay lo w w') : Rw4 lo w' v a b c d := by
  obtain ⟨p, q, r, s, e, ⟨l1, l2, l3, l4⟩, ⟨h1, h2⟩, ⟨h3, h4⟩, h5, h6⟩ := h
  exact ⟨p, q, r, s, e, ⟨l1, l2, l3, l4⟩, ⟨hs _ _ l3 h1, hs _ _ l3 h2⟩, ⟨hs _ _ l1 h3, hs _ _ l2 h4⟩, hs _ _ l4 h5, hs _ _ l4 h6⟩
theorem stay_below {lo : Nat} {w w' : World} (hb : Below w.heap.size w w') : Stay lo w w' := by
  intro a v _ h
  rw [hb.cell (World.block_lt_of_cell? w _ h)]; exact h
theorem stay_set {lo g i : Nat} (w : World) (x : Value) (hg : g < lo) : Stay lo w (w.setCell ⟨g, i, none⟩ x) := by
  intro a v hl h
  rw [World.cell?_setCell_other _ _ _ _ (fun e => by subst e; simp at hl; omega)]; exact h
theorem Stay.trans {lo : Nat} {a b c : World} (h : Stay lo a b) (k : Stay lo b c) : Stay lo a c := fun x v hl hx => k x v hl (h x v hl hx)
theorem one_in {w : World} {p : Nat} {a : Int} (h : w.cell? ⟨p, 0, none⟩ = some (.int .i64 a)) : InI w.heap.size w (.slice (some ⟨p, 0, none⟩) 1 1) [a] :=
  ⟨Nat.le_refl _, _, _, rfl, .inr ⟨p, 0, rfl, World.block_lt_of_cell? w _ h, World.block_lt_of_cell? w _ h, fun i hi => by
    simp at hi; subst hi; exact h⟩, (fun h => by cases h), by simp⟩
theorem two_in {w : World} {p : Nat} {a b : Int} (h : w.cell? ⟨p, 0, none⟩ = some (.int .i64 a)) (h' : w.cell? ⟨p, 1, none⟩ = some (.int .i64 b)) : InI w.heap.size w (.slice (some ⟨p, 0, none⟩) 2 2) [a, b] :=
  ⟨Nat.le_refl _, _, _, rfl, .inr ⟨p, 0, rfl, World.block_lt_of_cell? w _ h, World.block_lt_of_cell? w _ h, fun i hi => by
    simp at hi
    match i, hi with
    | 0, _ => exact h
    | 1, _ => exact h'⟩, (fun h => by cases h), by simp⟩
theorem Rw4.ins {lo : Nat} {w : World} {x y : Value} {a b c d : Int} (h : Rw4 lo w (.agg #[x, y]) a b c d) : InS w.heap.size w x [[a], [c]] ∧ InI w.heap.size w y [b, d] := by
  obtain ⟨p, q, r, s, e, _, ⟨h1, h2⟩, ⟨h3, h4⟩, h5, h6⟩ := h
  simp only [Value.agg.injEq, Array.mk.injEq, List.cons.injEq, and_true] at e
  obtain ⟨rfl, rfl⟩ := e
  refine ⟨⟨Nat.le_refl _, _, _, rfl, (fun h => by cases h), .inr ⟨r, 0, rfl, World.block_lt_of_cell? w _ h1, World.block_lt_of_cell? w _ h1, fun i z hz => ?_⟩⟩, two_in h5 h6⟩
  match i, hz with
  | 0, hz => simp at hz; subst hz; exact ⟨_, h1, one_in h3⟩
  | 1, hz => simp at hz; subst hz; exact ⟨_, h2, one_in h4⟩

theorem cell_up {w : World} {a : Addr} {v : Value} (h : w.cell? a = some v) (o : Obj) : (w.alloc o).cell? a = some v := stay_below (lo := 0) (ba w o) a v (Nat.zero_le _) h
theorem cell_here (w : World) (b i : Nat) (hb : w.heap.size = b) (cs : Array Value) (t : TypeId) (v : Value) (h : cs[i]? = some v) : (w.alloc (.cells cs t)).cell? ⟨b, i, none⟩ = some v := by
  subst hb
  rw [World.cell?_alloc_at _ _ _ _ rfl]; exact h
theorem rw4_mk (w : World) (o1 o2 : Obj) (a b c d : Int) (t u : TypeId) : Rw4 w.heap.size ((((((w.alloc o1).alloc o2).alloc (.cells #[.int .i64 a] t)).alloc (.cells #[.int .i64 c] t)).alloc (.cells #[.slice (some ⟨w.heap.size + 1 + 1, 0, none⟩) 1 1, .slice (some ⟨w.heap.size + 1 + 1 + 1, 0, none⟩) 1 1] u)).alloc (.cells #[.int .i64 b, .int .i64 d] t))
    (.agg #[.slice (some ⟨w.heap.size + 4, 0, none⟩) 2 2, .slice (some ⟨w.heap.size + 5, 0, none⟩) 2 2]) a b c d := by
  refine ⟨w.heap.size + 1 + 1, w.heap.size + 1 + 1 + 1, w.heap.size + 4, w.heap.size + 5, rfl, by omega, ⟨?_, ?_⟩, ⟨?_, ?_⟩, ?_, ?_⟩
  · exact cell_up (cell_here _ _ _ (by simp) _ _ _ rfl) _
  · exact cell_up (cell_here _ _ _ (by simp) _ _ _ rfl) _
  · exact cell_up (cell_up (cell_up (cell_here _ _ _ (by simp) _ _ _ rfl) _) _) _
  · exact cell_up (cell_up (cell_here _ _ _ (by simp) _ _ _ rfl) _) _
  · exact cell_here _ _ _ (by simp) _ _ _ rfl
  · exact cell_here _ _ _ (by simp) _ _ _ rfl
theorem hasEqualLog_any (P Q G a b c d : Int) (hm : Mo P Q) (w : World) :
    Calls Try.prog 112 #[gv P Q G, ev4 a b c d] w fun e w' => e = .returned (.bool (allEl P Q [a, b, c, d])) ∧ Below w.heap.size w w' := by
  have e1 : allEl P Q [a, b, c, d] = elsB P Q [a, b, c, d] := (elsB_all (by simp)).symm
  rw [e1]
  clear e1
  have hal := ba (w.alloc (.cells #[.int .i64 P, .int .i64 Q, .int .i64 G] 29)) (.cells #[.int .i64 a, .int .i64 b, .int .i64 c, .int .i64 d] 93)
  have HB_0 := Lib.hid (bt (ba w (.cells #[.int .i64 P, .int .i64 Q, .int .i64 G] 29)) hal)
  have G_0 := Lib.hid (GR.below (gr_new w P Q G 29) hal)
  have hv := v4_new (w.alloc (.cells #[.int .i64 P, .int .i64 Q, .int .i64 G] 29)) a b c d 93
  rw [show (w.alloc (.cells #[.int .i64 P, .int .i64 Q, .int .i64 G] 29)).heap.size = w.heap.size + 1 by simp] at hv
  have V_0 := Lib.hid hv
  clear hal hv
  go_enter Try.func112, Try.ntmps112
  go_wp2_with fail
  obtain ⟨c0, c1, c2⟩ := G_0.out
  obtain ⟨d0, d1, d2, d3⟩ := V_0.out
  go_region_held3 (fun w' => w'.cell? ⟨w.heap.size, 0, none⟩ = some (.int .i64 P) ∧ w'.cell? ⟨w.heap.size, 1, none⟩ = some (.int .i64 Q) ∧ w'.cell? ⟨w.heap.size, 2, none⟩ = some (.int .i64 G) ∧ w'.cell? ⟨w.heap.size + 1, 0, none⟩ = some (.int .i64 a) ∧ w'.cell? ⟨w.heap.size + 1, 1, none⟩ = some (.int .i64 b) ∧ w'.cell? ⟨w.heap.size + 1, 2, none⟩ = some (.int .i64 c) ∧ w'.cell? ⟨w.heap.size + 1, 3, none⟩ = some (.int .i64 d)) (first | with_reducible exact ⟨x0, x1, x2, y0, y1, y2, y3⟩ | with_reducible exact ⟨z0, z1, z2, t0, t1, t2, t3⟩ | exact ⟨c0, c1, c2, d0, d1, d2, d3⟩) ((first
    | (go_at_call 155; refine (components_any a b c d _).mono ?_; rintro e vc ⟨ad, rfl, hi, hb⟩; have HI := Lib.hid hi; have HBc := Lib.hid (bt HB_0.out.drew hb); have Gc := Lib.hid (GR.below (GR.drew G_0.out) hb); have Vc := Lib.hid (V4.below (V4.drew V_0.out) hb); obtain ⟨x0, x1, x2⟩ := Gc.out; obtain ⟨y0, y1, y2, y3⟩ := Vc.out; clear hi hb)
    | (go_at_call 152; refine (areElements_any P Q G hm _ 4 4 [a, b, c, d] rfl (by decide) _ HI.out).mono ?_; rintro e vd ⟨rfl, hb⟩; have HBd := Lib.hid (bt HBc.out hb); obtain ⟨z0, z1, z2⟩ := Gc.out.below hb; obtain ⟨t0, t1, t2, t3⟩ := Vc.out.below hb; clear hb)
    | fail))
  all_goals (
    go_wp2
    go_ret
    exact ⟨rfl, by first | exact HBd.out | exact HBd.out.drew⟩)

theorem quads_all_step {P Q : Int} {zs : List Int} {a b c d : Int} {k : Nat} {t : Bool} (h : zs.drop (k * 4) = a :: b :: c :: d :: zs.drop ((k + 1) * 4)) (hb : t = allEl P Q (zs.drop (k * 4))) :
    (allEl P Q [a, b, c, d] = true → t = allEl P Q (zs.drop ((k + 1) * 4))) ∧ (allEl P Q [a, b, c, d] = false → t = false) := by
  rw [h] at hb
  simp only [allEl, List.all_cons, List.all_nil, Bool.and_true] at hb ⊢
  rw [hb]
  constructor
  · intro h1
    simp only [Bool.and_eq_true] at h1
    simp [h1]
  · intro h1
    rw [← Bool.not_eq_true] at h1 ⊢
    simp only [Bool.and_eq_true] at h1 ⊢
    intro h2
    exact h1 ⟨h2.1, h2.2.1, h2.2.2.1, h2.2.2.2.1⟩

/-! ### A statement -/
theorem as_ll (v : Value) (W : World) : (Instr.typeAssert (.iface 156 v) 149 156 true).run Try.prog W = .ok (.tuple #[v, .bool true]) W := by kernel_rfl
theorem lin_ok {P Q : Int} {rows : List (List Int)} {im : List Int} : (St.lin rows im).ok P Q = (rowsB P Q rows && (decide (im.length = rows.length) && allEl P Q im)) := rfl

theorem cho_ok {P Q : Int} {l : List Int} {n : Nat} (hn : l.length = n * 4) : (St.cho l).ok P Q = (inB (n : Int) 1 8 && allEl P Q l) := by
  show choB P Q l = _
  unfold choB
  congr 1
  rw [Bool.eq_iff_iff, inB_true, decide_eq_true_eq]
  omega

/-! ### Its linear statements -/
/-- A list of linear statements: two values of each. -/
def InL (w : World) (v : Value) (ps : List LinD) : Prop := ∃ g cap, v = .slice (some ⟨g, 0, none⟩) ps.length cap ∧ g < w.heap.size ∧ ∀ (i : Nat) p, ps[i]? = some p → ∃ x y, w.cell? ⟨g, i * 2, none⟩ = some x ∧ w.cell? ⟨g, i * 2 + 1, none⟩ = some y ∧ InS w.heap.size w x p.1 ∧ InI w.heap.size w y p.2
theorem InS.up {P P' : Nat} {w : World} {v : Value} {zss : List (List Int)} (h : InS P w v zss) (hP : P ≤ P') (hs : P' ≤ w.heap.size) : InS P' w v zss := by
  obtain ⟨h0, ad, cap, rfl, h1, h2⟩ := h
  refine ⟨hs, ad, cap, rfl, h1, ?_⟩
  rcases h2 with h2 | ⟨b, off, h2, h3, h4, h5⟩
  · exact .inl h2
  · refine .inr ⟨b, off, h2, Nat.lt_of_lt_of_le h3 hP, h4, fun i z hz => ?_⟩
    obtain ⟨u, hu, hi⟩ := h5 i z hz
    exact ⟨u, hu, hi.wide hP hs⟩
theorem InL.below {w w' : World} {v : Value} {ps : List LinD} (h : InL w v ps) (hb : Below w.heap.size w w') : InL w' v ps := by
  obtain ⟨g, cap, rfl, hg, hc⟩ := h
  refine ⟨g, cap, rfl, Nat.lt_of_lt_of_le hg hb.size, fun i p hp => ?_⟩
  obtain ⟨x, y, h1, h2, h3, h4⟩ := hc i p hp
  exact ⟨x, y, by rw [hb.cell (p := ⟨g, i * 2, none⟩) hg]; exact h1, by rw [hb.cell (p := ⟨g, i * 2 + 1, none⟩) hg]; exact h2, (h3.below hb).up hb.size (Nat.le_refl _), (h4.below hb).wide hb.size (Nat.le_refl _)⟩
theorem InL.drew {w : World} {v : Value} {ps : List LinD} (h : InL w v ps) : InL w.drew v ps := h
theorem InL.at {w : World} {ad : Option Addr} {n cap : Nat} {ps : List LinD} (h : InL w (.slice ad n cap) ps) {k : Nat} (hk : k < ps.length) :
    ∃ g a1 a2 b1 b2 p, ad = some ⟨g, 0, none⟩ ∧ g < w.heap.size ∧ w.cell? ⟨g, k * 2, none⟩ = some (.slice a1 p.1.length a2) ∧ w.cell? ⟨g, k * 2 + 1, none⟩ = some (.slice b1 p.2.length b2) ∧ InS w.heap.size w (.slice a1 p.1.length a2) p.1 ∧ InI w.heap.size w (.slice b1 p.2.length b2) p.2 ∧ ps.drop k = p :: ps.drop (k + 1) := by
  obtain ⟨g, cap', h1, hg, hc⟩ := h
  simp only [Value.slice.injEq] at h1
  obtain ⟨rfl, _, rfl⟩ := h1
  obtain ⟨x, y, h2, h3, h4, h5⟩ := hc k ps[k] (by simp [hk])
  obtain ⟨a1, a2, rfl⟩ := h4.shape
  obtain ⟨b1, b2, rfl⟩ := h5.shape
  exact ⟨g, a1, a2, b1, b2, ps[k], rfl, hg, h2, h3, h4, h5, List.drop_eq_getElem_cons hk⟩

def PartsOut (w : World) (ps : List LinD) (e : Ending) (w' : World) : Prop := ∃ v, e = .returned v ∧ InL w' v ps ∧ Below w.heap.size w w'

theorem linParts_any {B C : Nat} {a b : Value} {rows : List (List Int)} {im : List Int} {w : World} (hz : InS B w a rows) (hy : InI C w b im) :
    Calls Try.prog 200 #[.agg #[a, b]] w (PartsOut w [(rows, im)]) := by
  obtain ⟨a1, a2, rfl⟩ := hz.shape
  obtain ⟨b1, b2, rfl⟩ := hy.shape
  have hal := bt (ba w (.cells #[.slice a1 rows.length a2, .slice b1 im.length b2] 156)) (ba _ (.cells #[.slice a1 rows.length a2, .slice b1 im.length b2] 156))
  have hz2 := (hz.below hal)
  have hy2 := (hy.below hal)
  have HB := Lib.hid hal
  have HZ := Lib.hid (hz2.up hz2.le (Nat.le_refl _))
  have HY := Lib.hid (hy2.wide hy2.le (Nat.le_refl _))
  clear hal hz2 hy2 hz hy
  go_enter Try.func200, Try.ntmps200
  go_wp2
  go_ret
  refine ⟨_, rfl, ⟨w.heap.size + 1, 1, rfl, by simp, fun i p hp => ?_⟩, HB.out⟩
  match i, hp with
  | 0, hp =>
    simp only [List.getElem?_cons_zero, Option.some.injEq] at hp
    subst hp
    exact ⟨_, _, cell_here _ _ _ (by simp) _ _ _ rfl, cell_here _ _ _ (by simp) _ _ _ rfl, HZ.out, HY.out⟩

theorem Try.infoLL : (Try.prog.info? 156).map (fun i => (i.zero, i.size, i.bytes)) = some (some (.agg #[.slice none 0 0, .slice none 0 0]), 2, 48) := by kernel_rfl

def mixL (vs : List Value) (n : Nat) : List Value := vs ++ List.replicate (n - vs.length) (.slice none 0 0)
theorem mixL_set {vs : List Value} {n k : Nat} (hk : vs.length = k) (hn : k < n) (v : Value) : (mixL vs n).set k v = mixL (vs ++ [v]) n := by
  unfold mixL
  rw [List.set_append_right _ _ (by omega), hk, Nat.sub_self]
  obtain ⟨m, hm⟩ : ∃ m, n - k = m + 1 := ⟨n - k - 1, by omega⟩
  rw [hm, List.replicate_succ, List.set_cons_zero, List.append_assoc]
  congr 1
  simp only [List.length_append, List.length_cons, List.length_nil, List.cons_append, List.nil_append]
  rw [show n - (vs.length + (0 + 1)) = m by omega]

/-- What is filled so far: the first k fours' rows. -/
def Filled (lo g : Nat) (w : World) (l : List Int) (k : Nat) : Prop := ∀ j, j < k → ∃ x y, w.cell? ⟨g, j * 2, none⟩ = some x ∧ w.cell? ⟨g, j * 2 + 1, none⟩ = some y ∧ ∃ a b c d, (quads l)[j]? = some ([[a], [c]], [b, d]) ∧ Rw4 lo w (.agg #[x, y]) a b c d
theorem Filled.step {lo g : Nat} {w w' : World} {l : List Int} {k : Nat} (h : Filled lo g w l k) (hs : Stay lo w w') (hc : ∀ j, j < k * 2 → w'.cell? ⟨g, j, none⟩ = w.cell? ⟨g, j, none⟩) : Filled lo g w' l k := by
  intro j hj
  obtain ⟨x, y, h1, h2, a, b, c, d, h3, h4⟩ := h j hj
  exact ⟨x, y, by rw [hc _ (by omega)]; exact h1, by rw [hc _ (by omega)]; exact h2, a, b, c, d, h3, h4.stay hs⟩

theorem Rw4.lo {lo lo' : Nat} {w : World} {v : Value} {a b c d : Int} (h : Rw4 lo w v a b c d) (hl : lo' ≤ lo) : Rw4 lo' w v a b c d := by
  obtain ⟨p, q, r, s, e, ⟨l1, l2, l3, l4⟩, h2⟩ := h
  exact ⟨p, q, r, s, e, by omega, h2⟩
theorem mixL_get {vs : List Value} {n k : Nat} (hk : vs.length = k) (hn : k < n) : (mixL vs n)[k]? = some (.slice none 0 0) := by
  unfold mixL
  rw [List.getElem?_append_right (by omega), hk, Nat.sub_self]
  obtain ⟨m, hm⟩ : ∃ m, n - k = m + 1 := ⟨n - k - 1, by omega⟩
  rw [hm, List.replicate_succ]; rfl
theorem fill_step {w2 : World} {g k n : Nat} {vs : List Value} {x y : Value} {l : List Int} {a b c d : Int} (hO : w2.ownsRow g 156 2 (.slice (some ⟨g, 0, none⟩) n n) n (mixL vs (n * 2))) (hvs : vs.length = k * 2) (hk : k < n) (hF : Filled (g + 1) g w2 l k) (hq : (quads l)[k]? = some ([[a], [c]], [b, d])) (hr : Rw4 (g + 1) w2 (.agg #[x, y]) a b c d) :
    ((w2.setCell ⟨g, k * 2, none⟩ x).setCell ⟨g, k * 2 + 1, none⟩ y).ownsRow g 156 2 (.slice (some ⟨g, 0, none⟩) n n) n (mixL (vs ++ [x] ++ [y]) (n * 2)) ∧
    Filled (g + 1) g ((w2.setCell ⟨g, k * 2, none⟩ x).setCell ⟨g, k * 2 + 1, none⟩ y) l (k + 1) ∧
    ((∃ u, w2.cell? ⟨g, k * 2, none⟩ = some u) ∧ w2.frozen? ⟨g, k * 2, none⟩ = false) ∧ ((∃ u, w2.cell? ⟨g, k * 2 + 1, none⟩ = some u) ∧ w2.frozen? ⟨g, k * 2 + 1, none⟩ = false) ∧
    (∃ u, (w2.setCell ⟨g, k * 2, none⟩ x).cell? ⟨g, k * 2 + 1, none⟩ = some u) ∧ (w2.setCell ⟨g, k * 2, none⟩ x).frozen? ⟨g, k * 2 + 1, none⟩ = false := by
  have c1 := hO.cellAt (k * 2) (by omega)
  rw [mixL_get hvs (by omega)] at c1
  have f1 := hO.frozenAt (k * 2)
  have f2 := hO.frozenAt (k * 2 + 1)
  have hlen : (mixL vs (n * 2)).length = n * 2 := hO.1
  have c2 := hO.cellAt (k * 2 + 1) (by omega)
  rw [List.getElem?_eq_getElem (by omega)] at c2
  have o3 := (hO.stored (k * 2) x).1
  rw [mixL_set hvs (by omega)] at o3
  have c3 := o3.cellAt (k * 2 + 1) (by omega)
  have hv3 : (vs ++ [x]).length = k * 2 + 1 := by simp; omega
  rw [mixL_get hv3 (by omega)] at c3
  have f3 := o3.frozenAt (k * 2 + 1)
  have o4 := (o3.stored (k * 2 + 1) y).1
  rw [mixL_set hv3 (by omega)] at o4
  have st : Stay (g + 1) w2 ((w2.setCell ⟨g, k * 2, none⟩ x).setCell ⟨g, k * 2 + 1, none⟩ y) := (stay_set _ x (Nat.lt_succ_self g)).trans (stay_set _ y (Nat.lt_succ_self g))
  refine ⟨o4, ?_, ⟨⟨_, c1⟩, f1⟩, ⟨⟨_, c2⟩, f2⟩, ⟨_, c3⟩, f3⟩
  intro j hj
  by_cases hjk : j = k
  · subst hjk
    refine ⟨x, y, ?_, World.cell?_setCell_same _ _ _ c3, a, b, c, d, hq, hr.stay st⟩
    rw [World.cell?_setCell_other _ _ _ _ (by simp)]
    exact World.cell?_setCell_same _ _ _ c1
  · obtain ⟨x', y', h1, h2, a', b', c', d', h3, h4⟩ := hF j (by omega)
    refine ⟨x', y', ?_, ?_, a', b', c', d', h3, h4.stay st⟩
    · rw [World.cell?_setCell_other _ _ _ _ (by simp <;> omega), World.cell?_setCell_other _ _ _ _ (by simp <;> omega)]; exact h1
    · rw [World.cell?_setCell_other _ _ _ _ (by simp <;> omega), World.cell?_setCell_other _ _ _ _ (by simp <;> omega)]; exact h2
theorem filled_all {lo g n cap : Nat} {w : World} {l : List Int} (h : Filled lo g w l n) (hq : (quads l).length = n) (hg : g < w.heap.size) : InL w (.slice (some ⟨g, 0, none⟩) n cap) (quads l) := by
  refine ⟨g, cap, by rw [hq], hg, fun i p hp => ?_⟩
  have hi : i < n := by
    have := (List.getElem?_eq_some_iff.1 hp).1
    omega
  obtain ⟨x, y, h1, h2, a, b, c, d, h3, h4⟩ := h i hi
  rw [hp] at h3
  obtain rfl := Option.some.inj h3
  obtain ⟨k1, k2⟩ := h4.ins
  exact ⟨x, y, h1, h2, k1, k2⟩

/-! ### Its elements -/
end Go.Proofs.Ytdnofcpobpoehaa

namespace Go.Proofs.Ytdnofcpobpoehaa
open Go.RowKit
set_option linter.unusedVariables false
set_option linter.unusedSimpArgs false
set_option maxRecDepth 100000 in
set_option maxHeartbeats 1600000 in
theorem linElements_any {B C : Nat} {a b : Value} {rows : List (List Int)} {im : List Int} (hl : rows.length ≤ 8) (hr : nS rows ≤ 1000) (h0 : 0 < nS rows) (hi8 : im.length ≤ 8) {w : World} (hz : InS B w a rows) (hy : InI C w b im) :
    Calls Try.prog 199 #[.agg #[a, b]] w (OwnI w (rows.flatten ++ im)) := by
  obtain ⟨a1, a2, rfl⟩ := hz.shape
  obtain ⟨b1, b2, rfl⟩ := hy.shape
  obtain ⟨i0, hi0, hz0, hz1, hz2⟩ := info_parts Try.info3
  have hal := ba w (.cells #[.slice a1 rows.length a2, .slice b1 im.length b2] 156)
  have HB_0 := Lib.hid hal
  have V_0 := Lib.hid (v2_new w (.slice a1 rows.length a2) (.slice b1 im.length b2) 156)
  have Z_0 := Lib.hid (hz.below hal)
  have Y_0 := Lib.hid (hy.below hal)
  have HF := Lib.hid (nS_flat rows)
  have hcc := fun (W : World) (h : InS B W (.slice a1 rows.length a2) rows) => concat_any (by omega) (by omega) h0 h
  generalize rows.flatten = fl at HF hcc
  have HCC := Lib.hid hcc
  clear hal hz hy hcc
  go_enter Try.func199, Try.ntmps199
  go_wp2_with fail
  obtain ⟨c0, c1⟩ := V_0.out
  go_region_held3 (fun w' => w'.cell? ⟨w.heap.size, 0, none⟩ = some (.slice a1 rows.length a2) ∧ w'.cell? ⟨w.heap.size, 1, none⟩ = some (.slice b1 im.length b2)) (first | with_reducible exact ⟨x0, x1⟩ | with_reducible exact ⟨y0, y1⟩ | exact ⟨c0, c1⟩) ((first
    | (go_at_call 123; refine (HCC.out _ (Z_0.out.below (Below.refl _ _).drew)).mono ?_; rintro e v1 ⟨rc, rfl, ho, hb⟩; obtain ⟨ca, cc, rfl⟩ := ho.toIn.shape; have HBc := Lib.hid (bt HB_0.out.drew hb); obtain ⟨x0, x1⟩ := V2.below (V2.drew V_0.out) hb; have Yc := Lib.hid (InI.below (w := (w.alloc (.cells #[.slice a1 rows.length a2, .slice b1 im.length b2] 156)).drew) Y_0.out hb); have HO := Lib.hid (own_rebase (base' := w.heap.size + 1) ho.1 (fun g hg => (by have := (ho.1.lt g hg).1; simp at this; omega))); have HSZ := Lib.hid (show w.heap.size + 1 ≤ v1.heap.size from (by have := hb.size; simpa using this)); clear hb ho)
    | go_loud (refine step_append_ints (by rfl) _ _ _ (by rfl) (w.heap.size + 1) 3 i0 Try.underlying24 hi0 hz0 hz1 hz2 _ fl.length fl (by rfl) HO.out b1 im.length b2 im (by rfl) rfl (Yc.out.ints).1 (Yc.out.ints).2.2.1 (by have := HF.out; omega) HSZ.out ?_; intro v' w3 hown hgrow; obtain ⟨va, vc, rfl⟩ := own_shape hown; have HO3 := Lib.hid hown; have HB3 := Lib.hid (HBc.out.grown hgrow HBc.out.size (fun q hq => Nat.le_of_succ_le (HO.out.lt q hq).1)); have HSZ3 := Lib.hid (Nat.le_trans HSZ.out hgrow.size); have y0 := hgrow.cell (a := ⟨w.heap.size, 0, none⟩) x0 (by intro h; have := (HO.out.lt _ h.symm).1; exact absurd this (Nat.not_succ_le_self _)); have y1 := hgrow.cell (a := ⟨w.heap.size, 1, none⟩) x1 (by intro h; have := (HO.out.lt _ h.symm).1; exact absurd this (Nat.not_succ_le_self _)); clear hown hgrow)
    | fail))
  all_goals (
    go_wp2
    go_ret
    first
      | exact ⟨_, rfl, (owI_mk HO3.out HSZ3.out).wide (Nat.le_succ _) (Nat.le_refl _) (Nat.le_refl _), HB3.out⟩
      | exact ⟨_, rfl, (owI_mk HO3.out HSZ3.out).wide (Nat.le_succ _) (Nat.le_refl _) (Nat.le_refl _), HB3.out.drew⟩)

/-! ### A claim: its linear statements and the elements of its challenge lie ready -/
theorem clmParts_any {B : Nat} {a b : Value} {ps : List LinD} {es : List Int} {w : World} (hz : InL w a ps) (hy : InI B w b es) :
    Calls Try.prog 197 #[.agg #[a, b]] w (PartsOut w ps) := by
  obtain ⟨a1, a2, rfl, _⟩ := id hz
  obtain ⟨b1, b2, rfl⟩ := hy.shape
  have hal := ba w (.cells #[.slice (some ⟨a1, 0, none⟩) ps.length a2, .slice b1 es.length b2] 113)
  have HB := Lib.hid hal
  have HZ := Lib.hid (hz.below hal)
  have V_0 := Lib.hid (v2_new w (.slice (some ⟨a1, 0, none⟩) ps.length a2) (.slice b1 es.length b2) 113)
  obtain ⟨c0, c1⟩ := V_0.out
  clear hal hz hy
  go_enter Try.func197, Try.ntmps197
  go_wp2
  go_ret
  exact ⟨_, rfl, HZ.out, HB.out⟩
theorem clmElements_any {B : Nat} {a b : Value} {ps : List LinD} {es : List Int} {w : World} (hz : InL w a ps) (hy : InI B w b es) :
    Calls Try.prog 196 #[.agg #[a, b]] w fun e w' => ∃ v, e = .returned v ∧ InI w'.heap.size w' v es ∧ Below w.heap.size w w' := by
  obtain ⟨a1, a2, rfl, _⟩ := id hz
  obtain ⟨b1, b2, rfl⟩ := hy.shape
  have hal := ba w (.cells #[.slice (some ⟨a1, 0, none⟩) ps.length a2, .slice b1 es.length b2] 113)
  have HB := Lib.hid hal
  have hy2 := hy.below hal
  have HY := Lib.hid (hy2.wide hy2.le (Nat.le_refl _))
  have V_0 := Lib.hid (v2_new w (.slice (some ⟨a1, 0, none⟩) ps.length a2) (.slice b1 es.length b2) 113)
  obtain ⟨c0, c1⟩ := V_0.out
  clear hal hz hy hy2
  go_enter Try.func196, Try.ntmps196
  go_wp2
  go_ret
  exact ⟨_, rfl, HY.out, HB.out⟩

/-! ### What stands in blocks that are left alone -/
def KP (Q P : Nat) (R : World → Prop) (w : World) : Prop := P ≤ w.heap.size ∧ ∀ w' : World, P ≤ w'.heap.size → (∀ b, Q ≤ b → b < P → w'.heap[b]? = w.heap[b]?) → R w'
theorem KP.out {Q P : Nat} {R : World → Prop} {w : World} (h : KP Q P R w) : R w := h.2 w h.1 (fun _ _ _ => rfl)
theorem KP.below {Q P : Nat} {R : World → Prop} {w w' : World} (h : KP Q P R w) (hb : Below w.heap.size w w') : KP Q P R w' :=
  ⟨Nat.le_trans h.1 hb.size, fun w2 hs he => h.2 w2 hs (fun b h1 h2 => (he b h1 h2).trans (hb.block b (Nat.lt_of_lt_of_le h2 h.1)))⟩
theorem KP.mid {Q P A B : Nat} {R : World → Prop} {w w' : World} (h : KP Q P R w) (hm : Mid A B w w') (ho : P ≤ A ∨ B ≤ Q) : KP Q P R w' :=
  ⟨Nat.le_trans h.1 hm.size, fun w2 hs he => h.2 w2 hs (fun b h1 h2 => (he b h1 h2).trans (hm.block b (Nat.lt_of_lt_of_le h2 h.1) (by omega)))⟩
theorem KP.drew {Q P : Nat} {R : World → Prop} {w : World} (h : KP Q P R w) : KP Q P R w.drew := h
theorem kp_ints {Q P : Nat} {w : World} {ad : Option Addr} {zs : List Int} (h : IsInts w ad zs) (hP : P ≤ w.heap.size) (hb : ∀ a, ad = some a → Q ≤ a.block ∧ a.block < P) : KP Q P (fun w' => IsInts w' ad zs) w := by
  refine ⟨hP, fun w' hs he => ?_⟩
  rcases h with h | ⟨b, off, rfl, h2, h3⟩
  · exact .inl h
  · obtain ⟨hb1, hb2⟩ := hb _ rfl
    refine .inr ⟨b, off, rfl, Nat.lt_of_lt_of_le hb2 hs, fun i hi => ?_⟩
    rw [World.cell?_of_block (a := ⟨b, off + i, none⟩) (he b hb1 hb2)]
    exact h3 i hi

end Go.Proofs.Ytdnofcpobpoehaa

/- Sigma proofs, the program: commits that fit, what is left of a challenge, the form of a proof. -/
namespace Go.Proofs.Ytdnofcpobpoehaa
open Go.RowKit
set_option linter.unusedVariables false
set_option linter.unusedSimpArgs false

/-! ### A proof in a block -/
theorem B3.drew {w : World} {b : Nat} {x y z : Value} (h : B3 w b x y z) : B3 w.drew b x y z := h
abbrev pv3 (a1 : Option Addr) (n1 c1 : Nat) (a2 : Option Addr) (n2 c2 : Nat) (a3 : Option Addr) (n3 c3 : Nat) : Value := .agg #[.slice a1 n1 c1, .slice a2 n2 c2, .slice a3 n3 c3]
theorem InP.parts {P : Nat} {w : World} {v : Value} {p : PrD} (h : InP P w v p) : ∃ a1 c1 a2 c2 a3 c3, v = pv3 a1 p.c.length c1 a2 p.h.length c2 a3 p.r.length c3 ∧ InI P w (.slice a1 p.c.length c1) p.c ∧ InI P w (.slice a2 p.h.length c2) p.h ∧ InI P w (.slice a3 p.r.length c3) p.r := by
  obtain ⟨x, y, z, rfl, h1, h2, h3⟩ := h
  obtain ⟨a1, c1, rfl⟩ := h1.shape
  obtain ⟨a2, c2, rfl⟩ := h2.shape
  obtain ⟨a3, c3, rfl⟩ := h3.shape
  exact ⟨a1, c1, a2, c2, a3, c3, rfl, h1, h2, h3⟩
theorem InI.dr {P : Nat} {w : World} {v : Value} {zs : List Int} (h : InI P w v zs) : InI P w.drew v zs := h
theorem InS.dr {P : Nat} {w : World} {v : Value} {zs : List (List Int)} (h : InS P w v zs) : InS P w.drew v zs := h

/-! ### The form of a proof -/
theorem nRows_take {ps : List LinD} {p : LinD} {k : Nat} (h : ps.drop k = p :: ps.drop (k + 1)) : nRows (ps.take (k + 1)) = nRows (ps.take k) + p.1.length ∧ nCols (ps.take (k + 1)) = nCols (ps.take k) + wid p.1 := by
  have hk : k < ps.length := by
    rcases Nat.lt_or_ge k ps.length with h1 | h1
    · exact h1
    · rw [List.drop_of_length_le h1] at h; cases h
  rw [List.drop_eq_getElem_cons hk] at h
  rw [List.take_succ_eq_append_getElem hk, ← (List.cons.inj h).1]
  unfold nRows nCols
  simp only [List.map_append, List.sum_append, List.map_cons, List.map_nil, List.sum_cons, List.sum_nil, Nat.add_zero, and_self]
/-- What the loops over a list of linear statements need to know of it. -/
def Fit (ps : List LinD) : Prop := ps.length ≤ 8 ∧ ∀ p ∈ ps, 1 ≤ p.1.length ∧ p.1.length ≤ 8 ∧ 1 ≤ wid p.1 ∧ wid p.1 ≤ 8
theorem Fit.rows {ps : List LinD} (h : Fit ps) : ∀ k, k ≤ ps.length → nRows (ps.take k) ≤ k * 8 ∧ nCols (ps.take k) ≤ k * 8
  | 0, _ => by simp [nRows, nCols]
  | k + 1, hk => by
    have ih := Fit.rows h k (by omega)
    have hd := List.drop_eq_getElem_cons (show k < ps.length by omega)
    have hp := h.2 _ (List.getElem_mem (show k < ps.length by omega))
    have := nRows_take hd
    omega

set_option maxRecDepth 100000 in
set_option maxHeartbeats 3200000 in
theorem formLoop_any (P Q G : Int) (hm : Mo P Q) {ad : Option Addr} {n cap : Nat} {ps : List LinD} (hf : Fit ps) {B : Nat} {v : Value} {p : PrD} (hl : p.n ≤ 1048576) {w : World} (hL : InL w (.slice ad n cap) ps) (hP : InP B w v p) :
    Calls Try.prog 133 #[gv P Q G, .slice ad n cap, v] w fun e w' => e = .returned (.bool (formB P Q ps p)) ∧ Below w.heap.size w w' := by
  obtain ⟨a1, c1, a2, c2, a3, c3, rfl, h1, h2, h3⟩ := hP.parts
  have hn : n = ps.length := by obtain ⟨g, cap', h, _⟩ := hL; simp only [Value.slice.injEq] at h; exact h.2.1
  subst hn
  obtain ⟨hl1, hl2, hl3⟩ : p.c.length ≤ 1048576 ∧ p.h.length ≤ 1048576 ∧ p.r.length ≤ 1048576 := by unfold PrD.n at hl; omega
  have hal := ba (w.alloc (.cells #[.int .i64 P, .int .i64 Q, .int .i64 G] 29)) (.cells #[.slice a1 p.c.length c1, .slice a2 p.h.length c2, .slice a3 p.r.length c3] 50)
  have HB_0 := Lib.hid (bt (ba w (.cells #[.int .i64 P, .int .i64 Q, .int .i64 G] 29)) hal)
  have G_0 := Lib.hid (GR.below (gr_new w P Q G 29) hal)
  have hv := b3_new (w.alloc (.cells #[.int .i64 P, .int .i64 Q, .int .i64 G] 29)) (.slice a1 p.c.length c1) (.slice a2 p.h.length c2) (.slice a3 p.r.length c3) 50
  rw [show (w.alloc (.cells #[.int .i64 P, .int .i64 Q, .int .i64 G] 29)).heap.size = w.heap.size + 1 by simp] at hv
  have V_0 := Lib.hid hv
  have C_0 := Lib.hid (h1.below HB_0.out)
  have H_0 := Lib.hid (h2.below HB_0.out)
  have R_0 := Lib.hid (h3.below HB_0.out)
  have L_0 := Lib.hid (hL.below HB_0.out)
  have HF := Lib.hid hf
  have hps := hf.1
  clear hal hv h1 h2 h3 hP hL hf
  go_enter Try.func133, Try.ntmps133
  go_wp2_with fail
  generalize hW : (w.alloc (.cells #[.int .i64 P, .int .i64 Q, .int .i64 G] 29)).alloc (.cells #[.slice a1 p.c.length c1, .slice a2 p.h.length c2, .slice a3 p.r.length c3] 50) = W at *
  go_loopw [7, 8, 13] (fun R C K wr => ∃ k : Nat, k ≤ ps.length ∧ K = .int .i64 k ∧ R = .int .i64 (nRows (ps.take k)) ∧ C = .int .i64 (nCols (ps.take k)) ∧ Below W.heap.size W wr) (fun _ _ K _ => ps.length - (intOf K).toNat)
  case atStart => exact ⟨0, Nat.zero_le _, rfl, by simp [nRows], by simp [nCols], Below.refl _ _⟩
  case round =>
    obtain ⟨k, hk, rfl, rfl, rfl, hbel⟩ := hrel
    have HB := Lib.hid (bt HB_0.out hbel)
    have HBk := Lib.hid hbel
    have V_1 := Lib.hid (V_0.out.below hbel)
    have G_1 := Lib.hid (G_0.out.below hbel)
    have hcnt := HF.out.rows k hk
    by_cases hkn : k < ps.length
    · obtain ⟨g, x1, x2, y1, y2, q, rfl, hg, hc0, hc1, hs, hi, hd⟩ := (L_0.out.below hbel).at hkn
      have hq := HF.out.2 q (List.mem_of_mem_drop (i := k) (by rw [hd]; simp))
      obtain ⟨b0, off0, z1, z2, z0, rfl, hb0, hcz, hiz, hdz⟩ := hs.at (k := 0) (by omega)
      rw [Nat.add_zero] at hcz
      have hw0 := wid_head hdz
      have HS := Lib.hid (nRows_take hd)
      have hcnt2 := HF.out.rows (k + 1) hkn
      have hsum := nRows_take hd
      rw [hw0] at hsum hq
      have e1 : IntKind.i64.wrap ((nRows (ps.take k) : Int) + (q.1.length : Int)) = (nRows (ps.take (k + 1)) : Int) := by rw [IntKind.wrap_i64]; omega
      have e2 : IntKind.i64.wrap ((nCols (ps.take k) : Int) + (z0.length : Int)) = (nCols (ps.take (k + 1)) : Int) := by rw [IntKind.wrap_i64]; omega
      have hq0 : 1 ≤ q.1.length := hq.1
      have hq0 : 1 ≤ q.1.length := hq.1
      clear hs hi hd hdz hw0 hsum hcnt hcnt2 hbel hiz hq
      go_wp2_with fail
      go_roundw
      case rel => exact ⟨k + 1, by omega, by go_num, rfl, rfl, bt HBk.out (ba _ _)⟩
      case measure => simp only [intOf]; omega
    · obtain rfl : k = ps.length := by omega
      obtain ⟨g0, g1, g2⟩ := G_1.out
      obtain ⟨pv0, pv1, pv2, _⟩ := V_1.out
      have C_1 := Lib.hid (C_0.out.below hbel)
      have H_1 := Lib.hid (H_0.out.below hbel)
      have R_1 := Lib.hid (R_0.out.below hbel)
      rw [List.take_length] at hcnt ⊢
      clear hbel hcnt
      by_cases h0 : ¬ p.c.length = nRows ps
      · have HFV := Lib.hid (show formB P Q ps p = false by simp [formB, h0])
        have B0 : ((p.c.length : Int) == (nRows ps : Int)) = false := by simp; omega
        clear h0
        go_wp2
        go_ret
        exact ⟨by rw [HFV.out]; rfl, HB.out⟩
      have h0 := Decidable.not_not.1 h0
      have B0 : ((p.c.length : Int) == (nRows ps : Int)) = true := by simp [h0]
      cases h1 : elsB P Q p.c
      · have HFV := Lib.hid (show formB P Q ps p = false by simp [formB, h0, h1])
        have K1 := Lib.hid (show elsB P Q p.c = false from h1)
        clear h0 h1
        go_wp2_with fail
        refine (areElements_any P Q G hm _ _ _ p.c rfl (by omega) _ (C_1.out.ints).1).mono ?_
        rw [K1.out]
        rintro e v2 ⟨rfl, hb⟩
        have HB_2 := Lib.hid (bt HB.out hb)
        have G_2 := Lib.hid (G_1.out.below hb)
        have V_2 := Lib.hid (V_1.out.below hb)
        have C_2 := Lib.hid (C_1.out.below hb)
        have H_2 := Lib.hid (H_1.out.below hb)
        have R_2 := Lib.hid (R_1.out.below hb)
        clear hb g0 g1 g2 pv0 pv1 pv2
        obtain ⟨g0, g1, g2⟩ := G_2.out
        obtain ⟨pv0, pv1, pv2, _⟩ := V_2.out
        go_wp2
        go_ret
        exact ⟨by rw [HFV.out]; rfl, HB_2.out⟩
      have K1 := Lib.hid (show elsB P Q p.c = true from h1)
      by_cases h2 : ¬ p.h.length = ps.length
      · have HFV := Lib.hid (show formB P Q ps p = false by simp [formB, h0, h1, h2])
        have B2 : ((p.h.length : Int) == (ps.length : Int)) = false := by simp; omega
        clear h0 h1 h2
        go_wp2_with fail
        refine (areElements_any P Q G hm _ _ _ p.c rfl (by omega) _ (C_1.out.ints).1).mono ?_
        rw [K1.out]
        rintro e v2 ⟨rfl, hb⟩
        have HB_2 := Lib.hid (bt HB.out hb)
        have G_2 := Lib.hid (G_1.out.below hb)
        have V_2 := Lib.hid (V_1.out.below hb)
        have C_2 := Lib.hid (C_1.out.below hb)
        have H_2 := Lib.hid (H_1.out.below hb)
        have R_2 := Lib.hid (R_1.out.below hb)
        clear hb g0 g1 g2 pv0 pv1 pv2
        obtain ⟨g0, g1, g2⟩ := G_2.out
        obtain ⟨pv0, pv1, pv2, _⟩ := V_2.out
        go_wp2
        go_ret
        exact ⟨by rw [HFV.out]; rfl, HB_2.out⟩
      have h2 := Decidable.not_not.1 h2
      have B2 : ((p.h.length : Int) == (ps.length : Int)) = true := by simp [h2]
      cases h3 : exsB' Q p.h
      · have HFV := Lib.hid (show formB P Q ps p = false by simp [formB, h0, h1, h2, h3])
        have K3 := Lib.hid (show exsB Q p.h = false from h3)
        clear h0 h1 h2 h3
        go_wp2_with fail
        refine (areElements_any P Q G hm _ _ _ p.c rfl (by omega) _ (C_1.out.ints).1).mono ?_
        rw [K1.out]
        rintro e v2 ⟨rfl, hb⟩
        have HB_2 := Lib.hid (bt HB.out hb)
        have G_2 := Lib.hid (G_1.out.below hb)
        have V_2 := Lib.hid (V_1.out.below hb)
        have C_2 := Lib.hid (C_1.out.below hb)
        have H_2 := Lib.hid (H_1.out.below hb)
        have R_2 := Lib.hid (R_1.out.below hb)
        clear hb g0 g1 g2 pv0 pv1 pv2
        obtain ⟨g0, g1, g2⟩ := G_2.out
        obtain ⟨pv0, pv1, pv2, _⟩ := V_2.out
        go_wp2_with fail
        refine (areExponents_any P Q G _ _ _ p.h rfl (by omega) _ (H_2.out.ints).1).mono ?_
        rw [K3.out]
        rintro e v3 ⟨rfl, hb⟩
        have HB_3 := Lib.hid (bt HB_2.out hb)
        have G_3 := Lib.hid (G_2.out.below hb)
        have V_3 := Lib.hid (V_2.out.below hb)
        have C_3 := Lib.hid (C_2.out.below hb)
        have H_3 := Lib.hid (H_2.out.below hb)
        have R_3 := Lib.hid (R_2.out.below hb)
        clear hb g0 g1 g2 pv0 pv1 pv2
        obtain ⟨g0, g1, g2⟩ := G_3.out
        obtain ⟨pv0, pv1, pv2, _⟩ := V_3.out
        go_wp2
        go_ret
        exact ⟨by rw [HFV.out]; rfl, HB_3.out⟩
      have K3 := Lib.hid (show exsB Q p.h = true from h3)
      by_cases h4 : ¬ p.r.length = nCols ps
      · have HFV := Lib.hid (show formB P Q ps p = false by simp [formB, h0, h1, h2, h3, h4])
        have B4 : ((p.r.length : Int) == (nCols ps : Int)) = false := by simp; omega
        clear h0 h1 h2 h3 h4
        go_wp2_with fail
        refine (areElements_any P Q G hm _ _ _ p.c rfl (by omega) _ (C_1.out.ints).1).mono ?_
        rw [K1.out]
        rintro e v2 ⟨rfl, hb⟩
        have HB_2 := Lib.hid (bt HB.out hb)
        have G_2 := Lib.hid (G_1.out.below hb)
        have V_2 := Lib.hid (V_1.out.below hb)
        have C_2 := Lib.hid (C_1.out.below hb)
        have H_2 := Lib.hid (H_1.out.below hb)
        have R_2 := Lib.hid (R_1.out.below hb)
        clear hb g0 g1 g2 pv0 pv1 pv2
        obtain ⟨g0, g1, g2⟩ := G_2.out
        obtain ⟨pv0, pv1, pv2, _⟩ := V_2.out
        go_wp2_with fail
        refine (areExponents_any P Q G _ _ _ p.h rfl (by omega) _ (H_2.out.ints).1).mono ?_
        rw [K3.out]
        rintro e v3 ⟨rfl, hb⟩
        have HB_3 := Lib.hid (bt HB_2.out hb)
        have G_3 := Lib.hid (G_2.out.below hb)
        have V_3 := Lib.hid (V_2.out.below hb)
        have C_3 := Lib.hid (C_2.out.below hb)
        have H_3 := Lib.hid (H_2.out.below hb)
        have R_3 := Lib.hid (R_2.out.below hb)
        clear hb g0 g1 g2 pv0 pv1 pv2
        obtain ⟨g0, g1, g2⟩ := G_3.out
        obtain ⟨pv0, pv1, pv2, _⟩ := V_3.out
        go_wp2
        go_ret
        exact ⟨by rw [HFV.out]; rfl, HB_3.out⟩
      have h4 := Decidable.not_not.1 h4
      have B4 : ((p.r.length : Int) == (nCols ps : Int)) = true := by simp [h4]
      have HFV := Lib.hid (show formB P Q ps p = exsB Q p.r by rw [show exsB Q p.r = exsB' Q p.r from rfl]; simp [formB, h0, h1, h2, h3, h4])
      clear h0 h1 h2 h3 h4
      go_wp2_with fail
      refine (areElements_any P Q G hm _ _ _ p.c rfl (by omega) _ (C_1.out.ints).1).mono ?_
      rw [K1.out]
      rintro e v2 ⟨rfl, hb⟩
      have HB_2 := Lib.hid (bt HB.out hb)
      have G_2 := Lib.hid (G_1.out.below hb)
      have V_2 := Lib.hid (V_1.out.below hb)
      have C_2 := Lib.hid (C_1.out.below hb)
      have H_2 := Lib.hid (H_1.out.below hb)
      have R_2 := Lib.hid (R_1.out.below hb)
      clear hb g0 g1 g2 pv0 pv1 pv2
      obtain ⟨g0, g1, g2⟩ := G_2.out
      obtain ⟨pv0, pv1, pv2, _⟩ := V_2.out
      go_wp2_with fail
      refine (areExponents_any P Q G _ _ _ p.h rfl (by omega) _ (H_2.out.ints).1).mono ?_
      rw [K3.out]
      rintro e v3 ⟨rfl, hb⟩
      have HB_3 := Lib.hid (bt HB_2.out hb)
      have G_3 := Lib.hid (G_2.out.below hb)
      have V_3 := Lib.hid (V_2.out.below hb)
      have C_3 := Lib.hid (C_2.out.below hb)
      have H_3 := Lib.hid (H_2.out.below hb)
      have R_3 := Lib.hid (R_2.out.below hb)
      clear hb g0 g1 g2 pv0 pv1 pv2
      obtain ⟨g0, g1, g2⟩ := G_3.out
      obtain ⟨pv0, pv1, pv2, _⟩ := V_3.out
      go_wp2_with fail
      refine (areExponents_any P Q G _ _ _ p.r rfl (by omega) _ (R_3.out.ints).1).mono ?_
      rintro e v4 ⟨rfl, hb⟩
      have HB_4 := Lib.hid (bt HB_3.out hb)
      have G_4 := Lib.hid (G_3.out.below hb)
      have V_4 := Lib.hid (V_3.out.below hb)
      have C_4 := Lib.hid (C_3.out.below hb)
      have H_4 := Lib.hid (H_3.out.below hb)
      have R_4 := Lib.hid (R_3.out.below hb)
      clear hb g0 g1 g2 pv0 pv1 pv2
      obtain ⟨g0, g1, g2⟩ := G_4.out
      obtain ⟨pv0, pv1, pv2, _⟩ := V_4.out
      go_wp2
      go_ret
      exact ⟨by rw [HFV.out]; rfl, HB_4.out⟩

end Go.Proofs.Ytdnofcpobpoehaa

/- Sigma proofs, the program: the commits that fit. -/
namespace Go.Proofs.Ytdnofcpobpoehaa
open Go.RowKit
set_option linter.unusedVariables false
set_option linter.unusedSimpArgs false

theorem IsInts.tail {w : World} {b off : Nat} {zs : List Int} (h : IsInts w (some ⟨b, off, none⟩) zs) (c : Nat) : IsInts w (some ⟨b, off + c, none⟩) (zs.drop c) := by
  rcases h with rfl | ⟨b', off', h1, hb, hc⟩
  · exact .inl (by simp)
  · simp only [Option.some.injEq, Addr.mk.injEq, and_true] at h1
    obtain ⟨rfl, rfl⟩ := h1
    refine .inr ⟨b, off + c, rfl, hb, fun i hi => ?_⟩
    rw [List.length_drop] at hi
    rw [Nat.add_assoc, hc (c + i) (by omega)]
    simp
theorem IsInts.init {w : World} {ad : Option Addr} {zs : List Int} (h : IsInts w ad zs) (c : Nat) : IsInts w ad (zs.take c) := by
  rcases h with rfl | ⟨b', off', rfl, hb, hc⟩
  · exact .inl (by simp)
  · refine .inr ⟨b', off', rfl, hb, fun i hi => ?_⟩
    rw [List.length_take] at hi
    rw [hc i (by omega)]
    congr 2
    simp only [List.getD_eq_getElem?_getD]
    rw [List.getElem?_take_of_lt (by omega)]

/-- The blocks from lo to hi are as they were. -/
def Keep (lo hi : Nat) (w w' : World) : Prop := hi ≤ w'.heap.size ∧ ∀ k, lo ≤ k → k < hi → w'.heap[k]? = w.heap[k]?
theorem Keep.refl (lo : Nat) (w : World) : Keep lo w.heap.size w w := ⟨Nat.le_refl _, fun _ _ _ => rfl⟩
theorem Keep.below {lo hi : Nat} {a w w' : World} (h : Keep lo hi a w) (hb : Below w.heap.size w w') : Keep lo hi a w' :=
  ⟨Nat.le_trans h.1 hb.size, fun k h1 h2 => (hb.block k (Nat.lt_of_lt_of_le h2 h.1)).trans (h.2 k h1 h2)⟩
theorem Keep.cell {lo hi b i : Nat} {w w' : World} {v : Value} (h : Keep lo hi w w') (h1 : lo ≤ b) (h2 : b < hi) (hc : w.cell? ⟨b, i, none⟩ = some v) : w'.cell? ⟨b, i, none⟩ = some v := by
  rw [World.cell?_of_block (a := ⟨b, i, none⟩) (h.2 b h1 h2)]; exact hc
/-- A slice that lies below lo or from hi on. -/
def Off (lo hi : Nat) (va : Option Addr) : Prop := ∀ a, va = some a → a.block < lo ∨ hi ≤ a.block
theorem Keep.grown {lo hi n c : Nat} {a w w' : World} {va : Option Addr} (h : Keep lo hi a w) (ho : Off lo hi va) (hg : w.grownBy w' (Value.slice va n c).ownBlock) : Keep lo hi a w' := by
  refine ⟨Nat.le_trans h.1 hg.size, fun k h1 h2 => (hg.block k (Nat.lt_of_lt_of_le h2 h.1) ?_).trans (h.2 k h1 h2)⟩
  intro he
  cases va with
  | none => simp [Value.ownBlock] at he
  | some x =>
    simp only [Value.ownBlock, Option.some.injEq] at he
    have := ho x rfl
    omega
theorem Off.next {lo hi n c g H : Nat} {va : Option Addr} (h : Off lo hi va) (hat : (Value.slice va n c).ownBlock = some g ∨ g = H) (hH : hi ≤ H) : Off lo hi (some ⟨g, 0, none⟩) := by
  rintro a ⟨⟩
  rcases hat with h1 | h1
  · cases va with
    | none => simp [Value.ownBlock] at h1
    | some x =>
      simp only [Value.ownBlock, Option.some.injEq] at h1
      have := h x rfl
      simp only
      omega
  · simp only; omega
theorem off_own {w : World} {base : Nat} {e : TypeId} {size n c hi m : Nat} {va : Option Addr} {xs : List Value} (h : w.ownsRow base e size (.slice va n c) m xs) : Off w.heap.size hi va := by
  rintro a rfl
  exact .inl (h.lt a.block rfl).2
theorem InI.upto {P : Nat} {w w' : World} {v : Value} {zs : List Int} (h : InI P w v zs) (hb : Below P w w') : InI P w' v zs := h.belowP hb

/-- What the commits need of the linear statements. -/
def Sound (P Q : Int) (ps : List LinD) : Prop := Fit ps ∧ ∀ p ∈ ps, (∀ r ∈ p.1, r.length = wid p.1 ∧ allEl P Q r = true) ∧ p.2.length = p.1.length ∧ allEl P Q p.2 = true
/-- The commits of one linear statement. -/
def zipC (P Q : Int) (p : LinD) (c : Int) (rs : List Int) : List Int := List.zipWith (fun x y => decW P Q y x c) (imgs P p.1 (rs.take (wid p.1))) p.2
theorem cmts_step {P Q e : Int} {ps : List LinD} {q : LinD} {h r : List Int} {k c : Nat} (hd : ps.drop k = q :: ps.drop (k + 1)) (hh : h.drop k = e :: h.drop (k + 1)) :
    cmts P Q (ps.drop k) (h.drop k) (r.drop c) = zipC P Q q e (r.drop c) ++ cmts P Q (ps.drop (k + 1)) (h.drop (k + 1)) (r.drop (c + wid q.1)) := by
  rw [hd, hh]
  show _ ++ cmts P Q _ _ ((r.drop c).drop _) = _
  rw [List.drop_drop]; rfl
theorem zip_take {P Q e : Int} {xs ys : List Int} {x y : Int} {j : Nat} (hx : xs.drop j = x :: xs.drop (j + 1)) (hy : ys.drop j = y :: ys.drop (j + 1)) :
    (List.zipWith (fun x y => decW P Q y x e) xs ys).take (j + 1) = (List.zipWith (fun x y => decW P Q y x e) xs ys).take j ++ [decW P Q y x e] := by
  have hj : j < xs.length := by
    rcases Nat.lt_or_ge j xs.length with h | h
    · exact h
    · rw [List.drop_of_length_le h] at hx; cases hx
  have hj' : j < ys.length := by
    rcases Nat.lt_or_ge j ys.length with h | h
    · exact h
    · rw [List.drop_of_length_le h] at hy; cases hy
  rw [List.drop_eq_getElem_cons hj] at hx
  rw [List.drop_eq_getElem_cons hj'] at hy
  rw [List.take_succ_eq_append_getElem (by simp; omega)]
  simp only [List.getElem_zipWith]
  rw [(List.cons.inj hx).1, (List.cons.inj hy).1]
theorem nCols_all {ps : List LinD} {p : LinD} (h : p ∈ ps) : wid p.1 ≤ nCols ps := by
  induction ps with
  | nil => cases h
  | cons a t ih =>
    unfold nCols at *
    simp only [List.map_cons, List.sum_cons, List.mem_cons] at *
    rcases h with rfl | h
    · omega
    · have := ih h; omega
theorem nCols_split (ps : List LinD) (k : Nat) : nCols (ps.take k) + nCols (ps.drop k) = nCols ps := by
  unfold nCols
  rw [← List.sum_append, ← List.map_append, List.take_append_drop]

set_option maxRecDepth 100000 in
set_option maxHeartbeats 6400000 in
theorem commitsOf_any (P Q G : Int) (hg : goodB P Q G = true) {ad : Option Addr} {n cap : Nat} {ps : List LinD} (hs : Sound P Q ps) (h1p : 1 ≤ ps.length) {B : Nat} {v : Value} {p : PrD} (hh : p.h.length = ps.length) (hr : p.r.length = nCols ps) (hhi : allIn p.h 0 (Q - 1) = true) (hri : allIn p.r 0 (Q - 1) = true) {w : World} (hL : InL w (.slice ad n cap) ps) (hP : InP B w v p) :
    Calls Try.prog 128 #[gv P Q G, .slice ad n cap, v] w (OwnI w (cmts P Q ps p.h p.r)) := by
  obtain ⟨a1, c1, a2, c2, a3, c3, rfl, h1, h2, h3⟩ := hP.parts
  have hn : n = ps.length := by obtain ⟨g, cap', h, _⟩ := hL; simp only [Value.slice.injEq] at h; exact h.2.1
  subst hn
  have hP2 := (good_mo hg).1
  have hmo := good_mo hg
  have hQ2 : 2 ≤ Q ∧ Q ≤ 2000000000 := (good_rng hg).2.1
  obtain ⟨i0, hi0, hz0, hz1, hz2⟩ := info_parts Try.info3
  have hps8 := hs.1.1
  have hrl : p.r.length ≤ 64 := by
    have := (hs.1.rows ps.length (Nat.le_refl _)).2
    rw [List.take_length] at this
    omega
  have hr1 : 1 ≤ p.r.length := by
    have h0 := hs.1.2 _ (List.getElem_mem (show 0 < ps.length by omega))
    have := nCols_all (List.getElem_mem (show 0 < ps.length by omega))
    omega
  obtain ⟨rb, ro, rfl⟩ : ∃ rb ro, a3 = some ⟨rb, ro, none⟩ := by
    rcases (h3.ints).1 with h | ⟨b, off, h, _⟩
    · rw [h] at hr1; simp at hr1
    · exact ⟨b, off, h⟩
  have hrc := (h3.ints).2.2.2
  have hal := ba (w.alloc (.cells #[.int .i64 P, .int .i64 Q, .int .i64 G] 29)) (.cells #[.slice a1 p.c.length c1, .slice a2 p.h.length c2, .slice (some ⟨rb, ro, none⟩) p.r.length c3] 50)
  have HB_0 := Lib.hid (bt (ba w (.cells #[.int .i64 P, .int .i64 Q, .int .i64 G] 29)) hal)
  have G_0 := Lib.hid (GR.below (gr_new w P Q G 29) hal)
  have hv := b3_new (w.alloc (.cells #[.int .i64 P, .int .i64 Q, .int .i64 G] 29)) (.slice a1 p.c.length c1) (.slice a2 p.h.length c2) (.slice (some ⟨rb, ro, none⟩) p.r.length c3) 50
  rw [show (w.alloc (.cells #[.int .i64 P, .int .i64 Q, .int .i64 G] 29)).heap.size = w.heap.size + 1 by simp] at hv
  have V_0 := Lib.hid hv
  have H_0 := Lib.hid (h2.below HB_0.out)
  have R_0 := Lib.hid (h3.below HB_0.out)
  have L_0 := Lib.hid (hL.below HB_0.out)
  have HS := Lib.hid hs
  have HG := Lib.hid hg
  have HHI := Lib.hid (show ∀ e ∈ p.h, 0 ≤ e ∧ e < Q from fun e he => by
    unfold allIn at hhi; rw [List.all_eq_true] at hhi; have := inB_true.1 (hhi e he); omega)
  have HRI := Lib.hid hri
  have HH := Lib.hid hh
  have HRL := Lib.hid hr
  clear hal hv h1 h2 h3 hP hL hs hhi hri hh hr hg
  obtain ⟨pv0, pv1, pv2, _⟩ := V_0.out
  obtain ⟨g0, g1, g2⟩ := G_0.out
  go_enter Try.func128, Try.ntmps128
  go_wp2_with fail
  generalize hW : (w.alloc (.cells #[.int .i64 P, .int .i64 Q, .int .i64 G] 29)).alloc (.cells #[.slice a1 p.c.length c1, .slice a2 p.h.length c2, .slice (some ⟨rb, ro, none⟩) p.r.length c3] 50) = W at *
  clear pv0 pv1 pv2 g0 g1 g2
  go_loopg [7, 8, 20] ps.length (fun gk V R K wr => ∃ (k : Nat) (va : Option Addr) (vc : Nat) (A : List Int) (d : Nat), gk + k = ps.length ∧ k ≤ ps.length ∧ K = .int .i64 k ∧ V = .slice va A.length vc ∧ wr.ownsRow W.heap.size 3 1 (.slice va A.length vc) A.length (A.map (Value.int .i64)) ∧ A.length ≤ k * 8 ∧
    R = .slice (some ⟨rb, ro + d, none⟩) (p.r.length - nCols (ps.take k)) (c3 - nCols (ps.take k)) ∧ (nCols (ps.take k) < p.r.length → d = nCols (ps.take k)) ∧ cmts P Q ps p.h p.r = A ++ cmts P Q (ps.drop k) (p.h.drop k) (p.r.drop (nCols (ps.take k))) ∧ Below W.heap.size W wr)
  case atStart => exact ⟨0, none, 0, [], 0, by omega, Nat.zero_le _, rfl, rfl, by simpa using World.ownsRow_nil _ _ _ _, by simp, by simp [nCols], by simp [nCols], by simp [nCols], Below.refl _ _⟩
  case round =>
    obtain ⟨k, va, vc, A, d, hgk, hk, rfl, rfl, hown, hAl, rfl, hdc, hcm, hbel⟩ := hrel
    have HGK := Lib.hid hgk
    have HO := Lib.hid hown
    have HCM := Lib.hid hcm
    have HBk := Lib.hid hbel
    have HB := Lib.hid (bt HB_0.out hbel)
    clear hgk hown hcm
    by_cases hkn : k < ps.length
    · have hL0 := L_0.out
      obtain ⟨g, x1, x2, y1, y2, q, rfl, hgl, hc0, hc1, hsq, hiq, hd⟩ := hL0.at hkn
      have hqm : q ∈ ps := List.mem_of_mem_drop (i := k) (by rw [hd]; simp)
      obtain ⟨hq1, hq2, hq3, hq4⟩ := HS.out.1.2 q hqm
      obtain ⟨hqr, hqi, hqe⟩ := HS.out.2 q hqm
      obtain ⟨b0, off0, z1, z2, z0, rfl, hb0, hcz, hiz, hdz⟩ := hsq.at (k := 0) (by omega)
      rw [Nat.add_zero] at hcz
      have hw0 := wid_head hdz
      obtain ⟨eb, eo, e, rfl, hbb, hce, hde⟩ := (H_0.out.ints).1.at (k := k) (by rw [HH.out]; exact hkn)
      have her := HHI.out e (mem_drop hde)
      obtain ⟨c, hcd⟩ : ∃ c, nCols (ps.take k) = c := ⟨_, rfl⟩
      rw [hcd] at hdc
      have hcs := (nRows_take hd).2
      rw [hcd, hw0] at hcs
      have hctot : c + z0.length ≤ p.r.length := by
        have h1 := nCols_split ps (k + 1)
        have := HRL.out
        omega
      have hdc2 : c = d := (hdc (by omega)).symm
      subst hdc2
      obtain ⟨es, hes⟩ : ∃ es, (p.r.drop c).take (wid q.1) = es := ⟨_, rfl⟩
      have hesl : es.length = z0.length := by rw [← hes, List.length_take, List.length_drop, hw0]; omega
      have hesi : allIn es 0 (Q - 1) = true := by
        have h1 := HRI.out
        unfold allIn at h1 ⊢
        rw [List.all_eq_true] at h1 ⊢
        intro z hz
        rw [← hes] at hz
        exact h1 z (List.mem_of_mem_drop (List.mem_of_mem_take hz))
      obtain ⟨xs, hxs⟩ : ∃ xs, imgs P q.1 es = xs := ⟨_, rfl⟩
      have hxl : xs.length = q.1.length := by rw [← hxs, imgs_length]
      have hxe : allEl P Q xs = true := by
        rw [← hxs]
        unfold allEl imgs
        rw [List.all_map, List.all_eq_true]
        exact fun r hr => pows_el HG.out r es 1 (one_el HG.out) (hqr r hr).2 hesi
      have HZP := Lib.hid (show zipC P Q q e (p.r.drop c) = List.zipWith (fun x y => decW P Q y x e) xs q.2 by unfold zipC; rw [hes, hxs])
      have himg := fun (W' : World) (ad' : Option Addr) (cap' : Nat) (hS' : InS W.heap.size W' (.slice (some ⟨b0, off0, none⟩) q.1.length x2) q.1) (hI' : IsInts W' ad' es) => imagesOf_any P Q G hmo (C := 0) (cap := cap') (by omega) (fun r hr => ⟨by rw [(hqr r hr).1, hw0, hesl], (hqr r hr).2⟩) hesi (by omega) hS' hesl hI'
      rw [hxs] at himg
      have HIMG := Lib.hid himg
      have HXL := Lib.hid hxl
      have HXE := Lib.hid (all_rng hxe)
      have HYE := Lib.hid (show ∀ y ∈ q.2, elB P Q y = true from by unfold allEl at hqe; rwa [List.all_eq_true] at hqe)
      have HYL := Lib.hid (show q.2.length = q.1.length from hqi)
      have HSQ := Lib.hid hsq
      have HIQ := Lib.hid hiq
      have HNEXT := Lib.hid (cmts_step (P := P) (Q := Q) (r := p.r) (c := c) hd hde)
      have HCS := Lib.hid hcs
      have HW0 := Lib.hid hw0
      have hal := ba wr (.cells #[.slice (some ⟨b0, off0, none⟩) q.1.length x2, .slice y1 q.2.length y2] 156)
      have HBL := Lib.hid (show Below W.heap.size W (wr.alloc (.cells #[.slice (some ⟨b0, off0, none⟩) q.1.length x2, .slice y1 q.2.length y2] 156)) from bt hbel hal)
      have VB := Lib.hid (v2_new wr (.slice (some ⟨b0, off0, none⟩) q.1.length x2) (.slice y1 q.2.length y2) 156)
      have hcz' := (HBL.out.cell (p := ⟨b0, off0, none⟩) hb0).trans hcz
      have hsp : z0.length ≤ c3 - c := by omega
      have hsp0 : c ≤ c3 := by omega
      have hz1' : 1 ≤ z0.length := by omega
      obtain ⟨g0, g1, g2⟩ := G_0.out.below HBL.out
      obtain ⟨vb0, vb1⟩ := VB.out
      have hc0' := (hbel.cell (p := ⟨g, k * 2, none⟩) hgl).trans hc0
      have hc1' := (hbel.cell (p := ⟨g, k * 2 + 1, none⟩) hgl).trans hc1
      have hq10 : 0 < q.1.length := by omega
      rw [hcd] at HCM ⊢
      have HES := Lib.hid (show IsInts (wr.alloc (.cells #[.slice (some ⟨b0, off0, none⟩) q.1.length x2, .slice y1 q.2.length y2] 156)) (some ⟨rb, ro + c, none⟩) es from by
        have h := ((R_0.out.below HBL.out).ints).1
        have h2 := (h.tail c).init (wid q.1)
        rwa [hes] at h2)
      have HOA := Lib.hid (own_below HO.out hal)
      have hoff := fun hi => off_own (hi := hi) HO.out
      have HOFF := Lib.hid hoff
      clear hoff
      have hs1 : (wr.alloc (.cells #[.slice (some ⟨b0, off0, none⟩) q.1.length x2, .slice y1 q.2.length y2] 156)).heap.size = wr.heap.size + 1 := by simp
      have hsW : W.heap.size ≤ wr.heap.size := hbel.size
      have hx8 : xs.length ≤ 8 := by omega
      clear hL0 hqr hqi hqe hiz hdz hde hd hcs hesi hxe himg hxl hal hsq hiq hqm hxs hes hesl hcz hc0 hc1 hcd
      go_wp2_with fail
      generalize hw1 : wr.alloc (.cells #[.slice (some ⟨b0, off0, none⟩) q.1.length x2, .slice y1 q.2.length y2] 156) = w1 at *
      go_region_held3 (fun w' => w'.cell? ⟨w.heap.size, 0, none⟩ = some (.int .i64 P) ∧ w'.cell? ⟨w.heap.size, 1, none⟩ = some (.int .i64 Q) ∧ w'.cell? ⟨w.heap.size, 2, none⟩ = some (.int .i64 G) ∧ w'.cell? ⟨wr.heap.size, 0, none⟩ = some (.slice (some ⟨b0, off0, none⟩) q.1.length x2) ∧ w'.cell? ⟨wr.heap.size, 1, none⟩ = some (.slice y1 q.2.length y2)) (first | with_reducible exact ⟨s0, s1, s2, t0, t1⟩ | exact ⟨g0, g1, g2, vb0, vb1⟩) ((first
        | (go_at_call 159; refine (HIMG.out _ _ _ (HSQ.out.belowP HBL.out).dr HES.out).mono ?_; rintro e w3 ⟨rx, rfl, ho, hb⟩; obtain ⟨xa, xc, rfl⟩ := ho.toIn.shape; have hb3 : Below w1.heap.size w1 w3 := bt ((Below.refl _ w1).drew) hb; have XO := Lib.hid ho; have HB3 := Lib.hid (bt HBL.out hb3); have HO3 := Lib.hid (own_below HOA.out hb3); have VB3 := Lib.hid (VB.out.below hb3); have HSZ := Lib.hid (Nat.le_trans (Nat.le_of_eq hs1.symm) hb3.size); obtain ⟨s0, s1, s2⟩ := G_0.out.below HB3.out; obtain ⟨t0, t1⟩ := VB3.out; clear hb hb3 ho)
        | fail))
      all_goals (
        clear s0 s1 s2 t0 t1 g0 g1 g2 vb0 vb1 hcz' hc0' hc1' HES HOA
        generalize hN : wr.heap.size = N at *
        clear hN
        go_wp2_with fail
        all_goals (
        go_loopg [7, 42] xs.length (fun gj V J wj => ∃ (j : Nat) (vb : Option Addr) (vd : Nat), gj + j = xs.length ∧ j ≤ xs.length ∧ J = .int .i64 j ∧ V = .slice vb (A.length + j) vd ∧ wj.ownsRow W.heap.size 3 1 (.slice vb (A.length + j) vd) (A.length + j) ((A ++ (List.zipWith (fun x y => decW P Q y x e) xs q.2).take j).map (Value.int .i64)) ∧ Off N w3.heap.size vb ∧ Keep N w3.heap.size w3 wj ∧ Below W.heap.size W wj)
        case atStart => exact ⟨0, va, vc, by omega, Nat.zero_le _, rfl, rfl, by simpa using HO3.out, HOFF.out _, Keep.refl _ _, HB3.out⟩
        case round =>
          obtain ⟨j, vb, vd, hgj, hj, rfl, rfl, hownj, hoffj, hkeep, hbelj⟩ := hrel
          have HGJ := Lib.hid hgj
          have HOJ := Lib.hid hownj
          have HKJ := Lib.hid hkeep
          have HOFJ := Lib.hid hoffj
          have HBJ := Lib.hid hbelj
          have HXJ := Lib.hid (own_ints (own_block XO.out.1 (fun g hg => hkeep.2 g (by have := (XO.out.1.lt g hg).1; have h2 := hs1; simp at this; omega) (XO.out.2.1 g hg)))).1
          clear hgj hownj hkeep hoffj
          by_cases hjm : j < xs.length
          · obtain ⟨xb, xo, x, hxa, hxb, hcx, hdx⟩ := HXJ.out.at (k := j) hjm
            obtain ⟨yb, yo, y, hya, hyb, hcy, hdy⟩ := (HIQ.out.ints).1.at (k := j) (by rw [HYL.out, ← HXL.out]; exact hjm)
            have hxr := HXE.out x (mem_drop hdx)
            have hye := HYE.out y (mem_drop hdy)
            have hyr := el_rng hye
            have HZS := Lib.hid (zip_take (P := P) (Q := Q) (e := e) hdx hdy)
            have hpr := pow_lt y e P hP2.1
            have hpe := el_pow HG.out hye her.1
            have hiv := inv_el HG.out hpe
            have hir := pow_lt (Num.pow y e P) (Q - 1) P hP2.1
            have HOK := Lib.hid hiv.1
            have HIV := Lib.hid (show x * Num.inv (Num.pow y e P) P % P = decW P Q y x e by rw [hiv.2]; rfl)
            have hi0 : 0 ≤ Num.inv (Num.pow y e P) P ∧ Num.inv (Num.pow y e P) P < P := by rw [hiv.2]; exact hir
            obtain ⟨hiv0, hiv1⟩ := hi0
            obtain ⟨g0, g1, g2⟩ := G_0.out.below hbelj
            obtain ⟨pv0, pv1, pv2, _⟩ := V_0.out.below hbelj
            have hbx := HKJ.out.cell (Nat.le_refl _) (by have := HSZ.out; omega) VB3.out.2
            have hyy := (hbelj.cell (p := ⟨yb, yo + j, none⟩) hyb).trans hcy
            have hee := (hbelj.cell (p := ⟨eb, eo + k, none⟩) hbb).trans hce
            have hjy : (j : Int) < (q.2.length : Int) := by have := HYL.out; have := HXL.out; omega
            have hkh : (k : Int) < (p.h.length : Int) := by have := HH.out; omega
            subst hxa hya
            clear hdx hdy hye hpe hiv hir hcy hce
            go_wp2_with fail
            go_region_held3 (fun w' => (w'.cell? ⟨w.heap.size, 0, none⟩ = some (.int .i64 P) ∧ w'.cell? ⟨w.heap.size, 1, none⟩ = some (.int .i64 Q) ∧ w'.cell? ⟨w.heap.size, 2, none⟩ = some (.int .i64 G)) ∧ w'.cell? ⟨N, 1, none⟩ = some (.slice (some ⟨yb, yo, none⟩) q.2.length y2) ∧ w'.cell? ⟨w.heap.size + 1, 1, none⟩ = some (.slice (some ⟨eb, eo, none⟩) p.h.length c2) ∧ w'.cell? ⟨yb, yo + j, none⟩ = some (.int .i64 y) ∧ w'.cell? ⟨eb, eo + k, none⟩ = some (.int .i64 e)) (first | with_reducible exact ⟨⟨s0, s1, s2⟩, t0, t1, t2, t3⟩ | exact ⟨⟨g0, g1, g2⟩, hbx, pv1, hyy, hee⟩) ((first
              | (go_at_call 132; refine (power_any P Q G y e hyr.1 (by omega) her.1 (by omega) hP2.1 hP2.2 _).mono ?_; rintro e' wp ⟨rfl, hb⟩; have hbp : Below wr.heap.size wr wp := bt ((Below.refl _ wr).drew) hb; have HBP := Lib.hid (bt HBJ.out hbp); have HKP := Lib.hid (HKJ.out.below hbp); have HOP := Lib.hid (own_below HOJ.out hbp); obtain ⟨s0, s1, s2⟩ := G_0.out.below HBP.out; have t0 := hbp.cell (p := ⟨N, 1, none⟩) (by have h1 := HKJ.out.1; have h2 := HSZ.out; show N < wr.heap.size; omega) |>.trans hbx; obtain ⟨_, t1, _, _⟩ := V_0.out.below HBP.out; have t2 := (hbp.cell (p := ⟨yb, yo + j, none⟩) (Nat.lt_of_lt_of_le hyb HBJ.out.size)).trans hyy; have t3 := (hbp.cell (p := ⟨eb, eo + k, none⟩) (Nat.lt_of_lt_of_le hbb HBJ.out.size)).trans hee; clear hb hbp)
              | fail))
            all_goals (
              clear g0 g1 g2 pv0 pv1 pv2 hbx hyy hee
              go_wp2_with fail
              refine (ediv_any P x (Num.pow y e P) hP2.1 hP2.2 hxr.1 hxr.2 hpr.1 hpr.2 HOK.out hiv0 hiv1 _).mono ?_
              rintro e' w' ⟨rfl, rfl⟩
              rw [HIV.out]
              go_wp2_with (at_builtin; refine wpList_append_lies _ rfl _ _ 24 rfl W.heap.size 3 i0 (.int .i64 0) 1 8 Try.underlying24 hi0 hz0 hz1 hz2 rfl (by decide) _ _ _ rfl (HOP.out.alloc _) ⟨wp.heap.size, 0, none⟩ 1 1 [.int .i64 (decW P Q y x e)] rfl rfl (cell_one_new _ _ _) (ints_oneCell .i64 [decW P Q y x e]) (by decide) (by unfold maxLen; have := HXL.out; omega) (by have := HXL.out; omega) (by have := HBP.out.size; simp; omega) (wp.heap.size + 1) (by simp) ?_)
              intro gx cx w4 hown4 hgr4 hat4 hlt4
              have HO4 := Lib.hid (show w4.ownsRow W.heap.size 3 1 (.slice (some ⟨gx, 0, none⟩) (A.length + j + 1) cx) (A.length + j + 1) ((A ++ (List.zipWith (fun x y => decW P Q y x e) xs q.2).take (j + 1)).map (Value.int .i64)) from by
                rw [HZS.out, ← List.append_assoc, List.map_append]
                first | exact hown4 | simpa using hown4)
              have HF4 := Lib.hid (HOFJ.out.next hat4 (by have := HKP.out.1; omega))
              have HK4 := Lib.hid ((HKP.out.below (ba wp _)).grown HOFJ.out hgr4)
              have HB4 := Lib.hid ((HBP.out.alloc HBP.out.size _).grown hgr4 (by have := HBP.out.size; simp; omega) (fun q hq => (HOP.out.lt q hq).1))
              clear hown4 hgr4 hat4 hlt4
              go_wp2_with fail
              go_roundg (xs.length - (j + 1))
              case measure => have := HGJ.out; omega
              case rel => exact ⟨j + 1, _, cx, by omega, by omega, by go_num, rfl, HO4.out, HF4.out, HK4.out, HB4.out⟩)
          · obtain rfl : j = xs.length := by omega
            have hzl : (List.zipWith (fun x y => decW P Q y x e) xs q.2).length = xs.length := by
              rw [List.length_zipWith, HYL.out, HXL.out, Nat.min_self]
            have HO5 := Lib.hid (show wr.ownsRow W.heap.size 3 1 (.slice vb (A ++ List.zipWith (fun x y => decW P Q y x e) xs q.2).length vd) (A ++ List.zipWith (fun x y => decW P Q y x e) xs q.2).length ((A ++ List.zipWith (fun x y => decW P Q y x e) xs q.2).map (Value.int .i64)) from by
              have h := HOJ.out
              rw [List.take_of_length_le (by omega)] at h
              rwa [List.length_append, hzl])
            have HLE := Lib.hid (show (A ++ List.zipWith (fun x y => decW P Q y x e) xs q.2).length = A.length + xs.length by rw [List.length_append, hzl])
            clear hzl
            go_wp2_with fail
            go_roundg (ps.length - (k + 1))
            case measure => have := HGK.out; omega
            case rel =>
              refine ⟨k + 1, vb, vd, A ++ List.zipWith (fun x y => decW P Q y x e) xs q.2, ?_⟩
              rw [HCS.out]
              have h1 := HCM.out
              rw [HNEXT.out, HZP.out, ← List.append_assoc, HW0.out] at h1
              by_cases hcc : c3 - c = z0.length
              · refine ⟨c, by omega, by omega, by go_num, by rw [HLE.out], HO5.out, by have := HLE.out; have := HXL.out; omega, ?_, fun h => by omega, h1, HBJ.out⟩
                first | (exfalso; omega) | (rw [show c3 - (c + z0.length) = 0 by omega, Nat.sub_sub])
              · refine ⟨c + z0.length, by omega, by omega, by go_num, by rw [HLE.out], HO5.out, by have := HLE.out; have := HXL.out; omega, ?_, fun _ => rfl, h1, HBJ.out⟩
                first | (exfalso; omega) | (rw [Nat.add_assoc, Nat.sub_sub, Nat.sub_sub])))
    · obtain rfl : k = ps.length := by omega
      have h1 := HCM.out
      rw [List.drop_length] at h1
      have h2 : ∀ a b : List Int, cmts P Q [] a b = [] := fun a b => rfl
      rw [h2, List.append_nil] at h1
      have HC1 := Lib.hid h1
      have hwW : w.heap.size ≤ W.heap.size := HB_0.out.size
      clear hbel h1 h2
      go_wp2_with fail
      go_ret
      refine ⟨.slice va A.length vc, rfl, ?_, HB.out⟩
      rw [HC1.out]
      exact (owI_mk HO.out HBk.out.size).wide hwW (Nat.le_refl _) (Nat.le_refl _)

end Go.Proofs.Ytdnofcpobpoehaa

/- Sigma proofs, the program: what is left of a challenge; the verifier; the prover. -/
namespace Go.Proofs.Ytdnofcpobpoehaa
open Go.RowKit
set_option linter.unusedVariables false
set_option linter.unusedSimpArgs false

theorem ssub_any (q a b : Int) (h2 : 2 ≤ q) (h3 : q ≤ 2000000000) (ha0 : 0 ≤ a) (ha : a < q) (hb0 : 0 ≤ b) (hb : b < q) (w : World) :
    Calls Try.prog 83 #[.int .i64 q, .int .i64 a, .int .i64 b] w fun e w' => e = .returned (.int .i64 ((a - b) % q)) ∧ w = w' := by
  go_enter Try.func83, Try.ntmps83
  go_wp2
  go_ret
  refine ⟨?_, rfl⟩
  show Ending.returned (.int .i64 ((a - b + q) % q)) = _
  rw [Int.add_emod_right]
theorem subF_step {Q e t : Int} {cs rest : List Int} {c : Int} {k : Nat} (h : cs.drop k = c :: rest) (ht : t = subF Q e (cs.drop k)) : t = subF Q ((e - c) % Q) rest := by
  rw [ht, h, ← Int.add_emod_right]; rfl

theorem InE.dr {P : Nat} {w : World} {v : Value} {zs : List Int} (h : InE P w v zs) : InE P w.drew v zs := h
/-- What is left of a challenge, if there is one. -/
def msV (P Q G : Int) (s : ByteArray) (els cm ch : List Int) : Int := if chB P Q G s (els ++ cm) 3 then subF Q (chX P Q G s (els ++ cm)) ch else 0
def EqOut (v : Value) (w : World) (e : Ending) (w' : World) : Prop := e = .returned v ∧ Below w.heap.size w w'

theorem rows_pair {B C : Nat} {w : World} {x y : Value} {a b : List Int} (hx : InI B w x a) (hy : InI C w y b) (t : TypeId) : InS (w.alloc (.cells #[x, y] t)).heap.size (w.alloc (.cells #[x, y] t)) (.slice (some ⟨w.heap.size, 0, none⟩) 2 2) [a, b] := by
  have hb := ba w (.cells #[x, y] t)
  have h1 := hx.below hb
  have h2 := hy.below hb
  refine ⟨Nat.le_refl _, some ⟨w.heap.size, 0, none⟩, 2, rfl, (fun h => by cases h), .inr ⟨w.heap.size, 0, rfl, by simp, by simp, fun i z hz => ?_⟩⟩
  match i, hz with
  | 0, hz =>
    simp only [List.getElem?_cons_zero, Option.some.injEq] at hz; subst hz
    exact ⟨x, cell_here _ _ _ rfl _ _ _ rfl, h1.wide h1.le (Nat.le_refl _)⟩
  | 1, hz =>
    simp only [List.getElem?_cons_succ, List.getElem?_cons_zero, Option.some.injEq] at hz; subst hz
    exact ⟨y, cell_here _ _ _ rfl _ _ _ rfl, h2.wide h2.le (Nat.le_refl _)⟩
theorem concatRows_any {B : Nat} {v : Value} {w : World} {a b : List Int} (hl : a.length + b.length ≤ 4000000) (h0 : 0 < a.length) (hz : InS B w v [a, b]) :
    Calls Try.prog 123 #[v] w (OwnI w (a ++ b)) := by
  have h := concat_any (rows := [a, b]) (by simp) (by simp only [nS_cons]; simp [nS]; omega) (by simp only [nS_cons]; simp [nS]; omega) hz
  rwa [show [a, b].flatten = a ++ b by simp] at h

end Go.Proofs.Ytdnofcpobpoehaa

/- Sigma proofs, the program: the challenge that is missing. -/
namespace Go.Proofs.Ytdnofcpobpoehaa
open Go.RowKit
set_option linter.unusedVariables false
set_option linter.unusedSimpArgs false

set_option maxRecDepth 100000 in
set_option maxHeartbeats 3200000 in
theorem msLin_any (P Q G : Int) (hg : goodB P Q G = true) (s : ByteArray) (hs : s.size ≤ 1048576) {B1 B2 : Nat} {u1 u2 : Value} {rows : List (List Int)} {im : List Int} (hl : rows.length ≤ 8) (hr : nS rows ≤ 1000) (h0 : 0 < nS rows) (hi8 : im.length ≤ 8) {B : Nat} {v : Value} {p : PrD} (hpn : p.n ≤ 1048576) (hhi : ∀ e ∈ p.h, 0 ≤ e ∧ e < Q) {w : World} (hu1 : InS B1 w u1 rows) (hu2 : InI B2 w u2 im) (hP : InP B w v p) :
    Calls Try.prog 129 #[gv P Q G, .string s, .iface 156 (.agg #[u1, u2]), v] w (EqOut (.tuple #[.int .i64 (msV P Q G s (St.lin rows im).els p.c p.h), .bool (chB P Q G s ((St.lin rows im).els ++ p.c) 3)]) w) := by
  obtain ⟨y1, y2, rfl⟩ := hu1.shape
  obtain ⟨z1, z2, rfl⟩ := hu2.shape
  obtain ⟨a1, c1, a2, c2, a3, c3, rfl, h1, h2, h3⟩ := hP.parts
  obtain ⟨hl1, hl2, hl3⟩ : p.c.length ≤ 1048576 ∧ p.h.length ≤ 1048576 ∧ p.r.length ≤ 1048576 := by unfold PrD.n at hpn; omega
  have hcl9 : p.c.length ≤ 900000 ∨ 900000 < p.c.length := by omega
  have hQ2 : 2 ≤ Q ∧ Q ≤ 2000000000 := (good_rng hg).2.1
  have hm1 : ∀ (k : Nat) (W : World), (method (k + 1) 156 (.agg #[.slice y1 rows.length y2, .slice z1 im.length z2]) "loop.example/g00878/impl.elements").run Try.prog W = .ok (199, (.agg #[.slice y1 rows.length y2, .slice z1 im.length z2])) W := fun _ _ => by kernel_rfl
  have hal := ba (w.alloc (.cells #[.int .i64 P, .int .i64 Q, .int .i64 G] 29)) (.cells #[.slice a1 p.c.length c1, .slice a2 p.h.length c2, .slice a3 p.r.length c3] 50)
  have HB_0 := Lib.hid (bt (ba w (.cells #[.int .i64 P, .int .i64 Q, .int .i64 G] 29)) hal)
  have G_0 := Lib.hid (GR.below (gr_new w P Q G 29) hal)
  have hv := b3_new (w.alloc (.cells #[.int .i64 P, .int .i64 Q, .int .i64 G] 29)) (.slice a1 p.c.length c1) (.slice a2 p.h.length c2) (.slice a3 p.r.length c3) 50
  have hs1 : (w.alloc (.cells #[.int .i64 P, .int .i64 Q, .int .i64 G] 29)).heap.size = w.heap.size + 1 := by simp
  rw [hs1] at hv
  have V_0 := Lib.hid hv
  have C_0 := Lib.hid (h1.below HB_0.out)
  have H_0 := Lib.hid (h2.below HB_0.out)
  have M1_0 := Lib.hid (hu1.below HB_0.out)
  have M2_0 := Lib.hid (hu2.below HB_0.out)
  have helc := fun (W : World) (h1 : InS B1 W (.slice y1 rows.length y2) rows) (h2 : InI B2 W (.slice z1 im.length z2) im) => linElements_any hl hr h0 hi8 h1 h2
  have hel : (St.lin rows im).els = rows.flatten ++ im := rfl
  rw [hel]
  obtain ⟨es, hes⟩ : ∃ es, rows.flatten ++ im = es := ⟨_, rfl⟩
  have hesl : es.length ≤ 2000 ∧ 0 < es.length := by rw [← hes]; rw [List.length_append, nS_flat]; omega
  rw [hes] at helc ⊢
  clear hes
  have HEL := Lib.hid helc
  have HHI := Lib.hid hhi
  have hesl0 := hesl.1
  have HE0 := Lib.hid hesl.2
  obtain ⟨g0, g1, g2⟩ := G_0.out
  obtain ⟨pv0, pv1, pv2, _⟩ := V_0.out
  have hsW : ((w.alloc (.cells #[.int .i64 P, .int .i64 Q, .int .i64 G] 29)).alloc (.cells #[.slice a1 p.c.length c1, .slice a2 p.h.length c2, .slice a3 p.r.length c3] 50)).heap.size = w.heap.size + 1 + 1 := by simp
  clear hal hv h1 h2 h3 hP helc hhi hel hs1 hesl hu1 hu2
  go_enter Try.func129, Try.ntmps129
  go_wp2_with fail
  generalize hW : ((w.alloc (.cells #[.int .i64 P, .int .i64 Q, .int .i64 G] 29)).alloc (.cells #[.slice a1 p.c.length c1, .slice a2 p.h.length c2, .slice a3 p.r.length c3] 50)) = W at *
  have HB_1 := Lib.hid (Below.refl W.heap.size W)
  have G_1 := Lib.hid G_0.out
  have V_1 := Lib.hid V_0.out
  have C_1 := Lib.hid C_0.out
  have H_1 := Lib.hid H_0.out
  have M1_1 := Lib.hid M1_0.out
  have M2_1 := Lib.hid M2_0.out
  clear g0 g1 g2 pv0 pv1 pv2
  have hbd : Below W.heap.size W W.drew := (Below.refl _ W).drew
  have HB_s := Lib.hid (bt HB_1.out hbd)
  have G_s := Lib.hid (G_1.out.below hbd)
  have V_s := Lib.hid (V_1.out.below hbd)
  have C_s := Lib.hid (C_1.out.below hbd)
  have H_s := Lib.hid (H_1.out.below hbd)
  have M1_s := Lib.hid (M1_1.out.below hbd)
  have M2_s := Lib.hid (M2_1.out.below hbd)
  clear hbd
  refine wp_region_held_drew (S := (fun w' => (w'.cell? ⟨w.heap.size, 0, none⟩ = some (.int .i64 P) ∧ w'.cell? ⟨w.heap.size, 1, none⟩ = some (.int .i64 Q) ∧ w'.cell? ⟨w.heap.size, 2, none⟩ = some (.int .i64 G)) ∧ w'.cell? ⟨w.heap.size + 1, 0, none⟩ = some (.slice a1 p.c.length c1))) (by kernel_rfl) (show _ from ⟨⟨G_1.out.1, G_1.out.2.1, G_1.out.2.2⟩, V_1.out.1⟩) (fun hHeld => ?_)
  generalize hW0 : W.drew = Ws at *
  clear hW0
  refine wpAnyH_take (i := 0) (v := ?_) rfl (by kernel_rfl) (by kernel_rfl) (by kernel_rfl) (fun _ _ _ h => h) (Or.inl ⟨by kernel_rfl, ?_⟩) (by assumption) ?_
  rotate_left 1
  · intro w9 hSw
    try dsimp only at hSw
    go_simp
    try with_reducible rfl
  try simp only [Act.put, List.getElem_toArray, List.getElem_cons_succ, List.getElem_cons_zero, List.setIfInBounds_toArray, List.set_cons_zero, List.set_cons_succ]
  refine wpAnyH_take (i := 1) (v := ?_) rfl (by kernel_rfl) (by kernel_rfl) (by kernel_rfl) (fun _ _ _ h => h) (Or.inl ⟨by kernel_rfl, ?_⟩) (by assumption) ?_
  rotate_left 1
  · intro w9 hSw
    try dsimp only at hSw
    go_simp
    try with_reducible rfl
  try simp only [Act.put, List.getElem_toArray, List.getElem_cons_succ, List.getElem_cons_zero, List.setIfInBounds_toArray, List.set_cons_zero, List.set_cons_succ]
  refine wpAnyH_take (i := 2) (v := ?_) rfl (by kernel_rfl) (by kernel_rfl) (by kernel_rfl) (fun _ _ _ h => h) (Or.inl ⟨by kernel_rfl, ?_⟩) (by assumption) ?_
  rotate_left 1
  · intro w9 hSw
    try dsimp only at hSw
    go_simp
    try with_reducible rfl
  try simp only [Act.put, List.getElem_toArray, List.getElem_cons_succ, List.getElem_cons_zero, List.setIfInBounds_toArray, List.set_cons_zero, List.set_cons_succ]
  refine wpAnyH_take (i := 4) (v := ?_) rfl (by kernel_rfl) (by kernel_rfl) (by kernel_rfl) (fun _ _ _ h => h) (Or.inl ⟨by kernel_rfl, ?_⟩) (by assumption) ?_
  rotate_left 1
  · intro w9 hSw
    try dsimp only at hSw
    go_simp
    try with_reducible rfl
  try simp only [Act.put, List.getElem_toArray, List.getElem_cons_succ, List.getElem_cons_zero, List.setIfInBounds_toArray, List.set_cons_zero, List.set_cons_succ]
  refine wpAnyH_take (i := 5) (v := ?_) rfl (by kernel_rfl) (by kernel_rfl) (by kernel_rfl) (fun _ _ _ h => h) (Or.inl ⟨by kernel_rfl, ?_⟩) (by assumption) ?_
  rotate_left 1
  · intro w9 hSw
    try dsimp only at hSw
    go_simp
    try with_reducible rfl
  try simp only [Act.put, List.getElem_toArray, List.getElem_cons_succ, List.getElem_cons_zero, List.setIfInBounds_toArray, List.set_cons_zero, List.set_cons_succ]
  refine wpAnyH_ready (rs := [3]) (by kernel_rfl) (by simp) ?_
  refine AllReadyH.cons rfl (fun K hK => ?_) (AllReadyH.nil)
  go_simp
  go_at_call 199
  refine (HEL.out _ M1_s.out M2_s.out).mono ?_
  rintro e' Wsd ⟨rc, rfl, ho, hb⟩
  obtain ⟨ra, rcc, rfl⟩ := (ho.toIn).shape
  have HB_sd := Lib.hid (bt HB_s.out hb)
  have G_sd := Lib.hid (G_s.out.below hb)
  have V_sd := Lib.hid (V_s.out.below hb)
  have C_sd := Lib.hid (C_s.out.below hb)
  have H_sd := Lib.hid (H_s.out.below hb)
  have M1_sd := Lib.hid (M1_s.out.below hb)
  have M2_sd := Lib.hid (M2_s.out.below hb)
  have O_sd := Lib.hid (ho.toIn)
  clear ho
  clear hb
  go_wp2_with fail
  refine hK.out _ _ (show _ from ⟨⟨G_sd.out.1, G_sd.out.2.1, G_sd.out.2.2⟩, V_sd.out.1⟩) (fun hHeld => ?_)
  clear hK K
  try simp only [Act.put, List.getElem_toArray, List.getElem_cons_succ, List.getElem_cons_zero, List.setIfInBounds_toArray, List.set_cons_zero, List.set_cons_succ]
  refine wpAnyH_ready (rs := [6]) (by kernel_rfl) (by simp) ?_
  refine AllReadyH.cons rfl (fun K hK => ?_) (AllReadyH.nil)
  go_simp
  have hb := ba Wsd (.cells #[.slice ra es.length rcc, .slice a1 p.c.length c1] 24)
  have HB_sdg := Lib.hid (bt HB_sd.out hb)
  have G_sdg := Lib.hid (G_sd.out.below hb)
  have V_sdg := Lib.hid (V_sd.out.below hb)
  have C_sdg := Lib.hid (C_sd.out.below hb)
  have H_sdg := Lib.hid (H_sd.out.below hb)
  have M1_sdg := Lib.hid (M1_sd.out.below hb)
  have M2_sdg := Lib.hid (M2_sd.out.below hb)
  have O_sdg := Lib.hid (O_sd.out.below hb)
  have OO_sdg := Lib.hid (rows_pair O_sd.out C_sd.out 24)
  clear hb
  refine hK.out _ _ (show _ from ⟨⟨G_sdg.out.1, G_sdg.out.2.1, G_sdg.out.2.2⟩, V_sdg.out.1⟩) (fun hHeld => ?_)
  clear hK K
  try simp only [Act.put, List.getElem_toArray, List.getElem_cons_succ, List.getElem_cons_zero, List.setIfInBounds_toArray, List.set_cons_zero, List.set_cons_succ]
  generalize hW9 : Wsd.alloc (.cells #[.slice ra es.length rcc, .slice a1 p.c.length c1] 24) = Wsdg at *
  clear hW9
  refine wpAnyH_ready (rs := [7]) (by kernel_rfl) (by simp) ?_
  refine AllReadyH.cons rfl (fun K hK => ?_) (AllReadyH.nil)
  go_simp
  go_at_call 123
  refine (concatRows_any (by omega) HE0.out OO_sdg.out).mono ?_
  rintro e' Wsdgh ⟨rc3, rfl, ho, hb⟩
  obtain ⟨rb3, rcc3, rfl⟩ := ho.toIn.shape
  have HB_sdgh := Lib.hid (bt HB_sdg.out hb)
  have G_sdgh := Lib.hid (G_sdg.out.below hb)
  have V_sdgh := Lib.hid (V_sdg.out.below hb)
  have C_sdgh := Lib.hid (C_sdg.out.below hb)
  have H_sdgh := Lib.hid (H_sdg.out.below hb)
  have M1_sdgh := Lib.hid (M1_sdg.out.below hb)
  have M2_sdgh := Lib.hid (M2_sdg.out.below hb)
  have O_sdgh := Lib.hid (O_sdg.out.below hb)
  have OO_sdgh := Lib.hid (OO_sdg.out.below hb)
  have CC_sdgh := Lib.hid ho.toIn
  clear ho
  clear hb
  go_wp2_with fail
  refine hK.out _ _ (show _ from ⟨⟨G_sdgh.out.1, G_sdgh.out.2.1, G_sdgh.out.2.2⟩, V_sdgh.out.1⟩) (fun hHeld => ?_)
  clear hK K
  try simp only [Act.put, List.getElem_toArray, List.getElem_cons_succ, List.getElem_cons_zero, List.setIfInBounds_toArray, List.set_cons_zero, List.set_cons_succ]
  refine wpAnyH_ready (rs := [8]) (by kernel_rfl) (by simp) ?_
  refine AllReadyH.cons rfl (fun K hK => ?_) (AllReadyH.nil)
  go_simp
  go_at_call 160
  refine (challenge_any P Q G s hs _ _ _ (es ++ p.c) (by simp only [List.length_append]) (by omega) _ (CC_sdgh.out.ints).1).mono ?_
  rintro e' Wsdghi ⟨rfl, hb⟩
  have HB_sdghi := Lib.hid (bt HB_sdgh.out hb)
  have G_sdghi := Lib.hid (G_sdgh.out.below hb)
  have V_sdghi := Lib.hid (V_sdgh.out.below hb)
  have C_sdghi := Lib.hid (C_sdgh.out.below hb)
  have H_sdghi := Lib.hid (H_sdgh.out.below hb)
  have M1_sdghi := Lib.hid (M1_sdgh.out.below hb)
  have M2_sdghi := Lib.hid (M2_sdgh.out.below hb)
  have O_sdghi := Lib.hid (O_sdgh.out.below hb)
  have OO_sdghi := Lib.hid (OO_sdgh.out.below hb)
  have CC_sdghi := Lib.hid (CC_sdgh.out.below hb)
  clear hb
  go_wp2_with fail
  refine hK.out _ _ (show _ from ⟨⟨G_sdghi.out.1, G_sdghi.out.2.1, G_sdghi.out.2.2⟩, V_sdghi.out.1⟩) (fun hHeld => ?_)
  clear hK K
  try simp only [Act.put, List.getElem_toArray, List.getElem_cons_succ, List.getElem_cons_zero, List.setIfInBounds_toArray, List.set_cons_zero, List.set_cons_succ]
  refine wpAnyH_take (i := 9) (v := ?_) rfl (by kernel_rfl) (by kernel_rfl) (by kernel_rfl) (fun _ _ _ h => h) (Or.inl ⟨by kernel_rfl, ?_⟩) (by assumption) ?_
  rotate_left 1
  · intro w9 hSw
    try dsimp only at hSw
    go_simp
    try with_reducible rfl
  try simp only [Act.put, List.getElem_toArray, List.getElem_cons_succ, List.getElem_cons_zero, List.setIfInBounds_toArray, List.set_cons_zero, List.set_cons_succ]
  refine wpAnyH_take (i := 10) (v := ?_) rfl (by kernel_rfl) (by kernel_rfl) (by kernel_rfl) (fun _ _ _ h => h) (Or.inl ⟨by kernel_rfl, ?_⟩) (by assumption) ?_
  rotate_left 1
  · intro w9 hSw
    try dsimp only at hSw
    go_simp
    try with_reducible rfl
  try simp only [Act.put, List.getElem_toArray, List.getElem_cons_succ, List.getElem_cons_zero, List.setIfInBounds_toArray, List.set_cons_zero, List.set_cons_succ]
  refine wpAnyH_take (i := 11) (v := ?_) rfl (by kernel_rfl) (by kernel_rfl) (by kernel_rfl) (fun _ _ _ h => h) (Or.inl ⟨by kernel_rfl, ?_⟩) (by assumption) ?_
  rotate_left 1
  · intro w9 hSw
    try dsimp only at hSw
    go_simp
    try with_reducible rfl
  try simp only [Act.put, List.getElem_toArray, List.getElem_cons_succ, List.getElem_cons_zero, List.setIfInBounds_toArray, List.set_cons_zero, List.set_cons_succ]
  refine wpAnyH_take (i := 12) (v := ?_) rfl (by kernel_rfl) (by kernel_rfl) (by kernel_rfl) (fun _ _ _ h => h) (Or.inl ⟨by kernel_rfl, ?_⟩) (by assumption) ?_
  rotate_left 1
  · intro w9 hSw
    try dsimp only at hSw
    go_simp
    try with_reducible rfl
  try simp only [Act.put, List.getElem_toArray, List.getElem_cons_succ, List.getElem_cons_zero, List.setIfInBounds_toArray, List.set_cons_zero, List.set_cons_succ]
  refine wpAnyH_take (i := 13) (v := ?_) rfl (by kernel_rfl) (by kernel_rfl) (by kernel_rfl) (fun _ _ _ h => h) (Or.inl ⟨by kernel_rfl, ?_⟩) (by assumption) ?_
  rotate_left 1
  · intro w9 hSw
    try dsimp only at hSw
    go_simp
    try with_reducible rfl
  try simp only [Act.put, List.getElem_toArray, List.getElem_cons_succ, List.getElem_cons_zero, List.setIfInBounds_toArray, List.set_cons_zero, List.set_cons_succ]
  refine wpAnyH_done (by kernel_rfl) ?_ _
  have H_4 := Lib.hid H_sdghi.out
  have G_4 := Lib.hid G_sdghi.out
  have HBF := Lib.hid (bt HB_0.out HB_sdghi.out)
  obtain ⟨pv0, pv1, pv2, _⟩ := V_sdghi.out
  obtain ⟨g0, g1, g2⟩ := G_sdghi.out
  cases hk : chB P Q G s (es ++ p.c) 3
  · have HK := Lib.hid hk
    have HMS := Lib.hid (show msV P Q G s es p.c p.h = 0 by simp [msV, hk])
    go_wp2_with fail
    go_ret2
    exact ⟨by rw [HMS.out, HK.out]; rfl, HBF.out⟩
  · have HK := Lib.hid hk
    obtain ⟨ex, hex⟩ : ∃ ex, chX P Q G s (es ++ p.c) = ex := ⟨_, rfl⟩
    have HMS := Lib.hid (show msV P Q G s es p.c p.h = subF Q ex p.h by simp [msV, hk, hex])
    have hcv : chV P Q G s (es ++ p.c) = ex := by simp [chV, hk, hex]
    have hxr : 0 ≤ ex ∧ ex < Q := by rw [← hex]; exact chX_rng (by omega)
    rw [hcv]
    have HXR := Lib.hid hxr
    clear hcv hex hk hxr
    go_wp2_with fail
    clear pv0 pv1 pv2 g0 g1 g2
    go_loop [10, 13, 31] (fun E _ K => ∃ (k : Nat) (x : Int), k ≤ p.h.length ∧ K = .int .i64 k ∧ E = .int .i64 x ∧ (0 ≤ x ∧ x < Q) ∧ subF Q ex p.h = subF Q x (p.h.drop k)) (fun _ _ K => p.h.length - (intOf K).toNat)
    case atStart => exact ⟨0, ex, Nat.zero_le _, rfl, rfl, HXR.out, by simp⟩
    case round =>
      obtain ⟨k, x, hk, rfl, rfl, ⟨x0, x1⟩, he⟩ := hrel
      by_cases hkn : k < p.h.length
      · obtain ⟨b, off, c, hba, hb, hc, hd⟩ := (H_4.out.ints).1.at (k := k) hkn
        subst hba
        have hcr := HHI.out c (mem_drop hd)
        obtain ⟨y0', y1'⟩ := hcr
        have HS := Lib.hid (subF_step hd he)
        have hn0 : 0 ≤ (x - c) % Q := Int.emod_nonneg _ (by omega)
        have hn1 : (x - c) % Q < Q := Int.emod_lt_of_pos _ (by omega)
        obtain ⟨g0, g1, g2⟩ := G_4.out
        clear hd he
        go_wp2_with fail
        refine (ssub_any Q x c hQ2.1 hQ2.2 x0 x1 y0' y1' _).mono ?_
        rintro e' w' ⟨rfl, rfl⟩
        go_wp2_with fail
        go_round
        case rel => exact ⟨k + 1, _, by omega, by go_num, rfl, ⟨hn0, hn1⟩, HS.out⟩
        case measure => simp only [intOf]; omega
      · have HE := Lib.hid he
        clear he
        go_wp2_with fail
        go_ret2
        refine ⟨?_, HBF.out⟩
        rw [HMS.out, HE.out, List.drop_of_length_le (by omega), HK.out]; rfl

set_option maxRecDepth 100000 in
set_option maxHeartbeats 3200000 in
theorem msClm_any (P Q G : Int) (hg : goodB P Q G = true) (s : ByteArray) (hs : s.size ≤ 1048576) {B1 : Nat} {u1 u2 : Value} {ps : List LinD} {es : List Int} (hl : es.length ≤ 72) (h0 : 0 < es.length) {B : Nat} {v : Value} {p : PrD} (hpn : p.n ≤ 1048576) (hhi : ∀ e ∈ p.h, 0 ≤ e ∧ e < Q) {w : World} (hu1 : InL w u1 ps) (hu2 : InI B1 w u2 es) (hP : InP B w v p) :
    Calls Try.prog 129 #[gv P Q G, .string s, .iface 113 (.agg #[u1, u2]), v] w (EqOut (.tuple #[.int .i64 (msV P Q G s (St.clm ps es).els p.c p.h), .bool (chB P Q G s ((St.clm ps es).els ++ p.c) 3)]) w) := by
  obtain ⟨y1, y2, rfl, _⟩ := id hu1
  obtain ⟨z1, z2, rfl⟩ := hu2.shape
  obtain ⟨a1, c1, a2, c2, a3, c3, rfl, h1, h2, h3⟩ := hP.parts
  obtain ⟨hl1, hl2, hl3⟩ : p.c.length ≤ 1048576 ∧ p.h.length ≤ 1048576 ∧ p.r.length ≤ 1048576 := by unfold PrD.n at hpn; omega
  have hcl9 : p.c.length ≤ 900000 ∨ 900000 < p.c.length := by omega
  have hQ2 : 2 ≤ Q ∧ Q ≤ 2000000000 := (good_rng hg).2.1
  have hm1 : ∀ (k : Nat) (W : World), (method (k + 1) 113 (.agg #[.slice (some ⟨y1, 0, none⟩) ps.length y2, .slice z1 es.length z2]) "loop.example/g00878/impl.elements").run Try.prog W = .ok (196, (.agg #[.slice (some ⟨y1, 0, none⟩) ps.length y2, .slice z1 es.length z2])) W := fun _ _ => by kernel_rfl
  have hal := ba (w.alloc (.cells #[.int .i64 P, .int .i64 Q, .int .i64 G] 29)) (.cells #[.slice a1 p.c.length c1, .slice a2 p.h.length c2, .slice a3 p.r.length c3] 50)
  have HB_0 := Lib.hid (bt (ba w (.cells #[.int .i64 P, .int .i64 Q, .int .i64 G] 29)) hal)
  have G_0 := Lib.hid (GR.below (gr_new w P Q G 29) hal)
  have hv := b3_new (w.alloc (.cells #[.int .i64 P, .int .i64 Q, .int .i64 G] 29)) (.slice a1 p.c.length c1) (.slice a2 p.h.length c2) (.slice a3 p.r.length c3) 50
  have hs1 : (w.alloc (.cells #[.int .i64 P, .int .i64 Q, .int .i64 G] 29)).heap.size = w.heap.size + 1 := by simp
  rw [hs1] at hv
  have V_0 := Lib.hid hv
  have C_0 := Lib.hid (h1.below HB_0.out)
  have H_0 := Lib.hid (h2.below HB_0.out)
  have M1_0 := Lib.hid (hu1.below HB_0.out)
  have M2_0 := Lib.hid (hu2.below HB_0.out)
  have helc := fun (W : World) (h1 : InL W (.slice (some ⟨y1, 0, none⟩) ps.length y2) ps) (h2 : InI B1 W (.slice z1 es.length z2) es) => clmElements_any h1 h2
  have hel : (St.clm ps es).els = es := rfl
  rw [hel]
  have hesl : es.length ≤ 2000 ∧ 0 < es.length := by omega
  have HEL := Lib.hid helc
  have HHI := Lib.hid hhi
  have hesl0 := hesl.1
  have HE0 := Lib.hid hesl.2
  obtain ⟨g0, g1, g2⟩ := G_0.out
  obtain ⟨pv0, pv1, pv2, _⟩ := V_0.out
  have hsW : ((w.alloc (.cells #[.int .i64 P, .int .i64 Q, .int .i64 G] 29)).alloc (.cells #[.slice a1 p.c.length c1, .slice a2 p.h.length c2, .slice a3 p.r.length c3] 50)).heap.size = w.heap.size + 1 + 1 := by simp
  clear hal hv h1 h2 h3 hP helc hhi hel hs1 hesl hu1 hu2
  go_enter Try.func129, Try.ntmps129
  go_wp2_with fail
  generalize hW : ((w.alloc (.cells #[.int .i64 P, .int .i64 Q, .int .i64 G] 29)).alloc (.cells #[.slice a1 p.c.length c1, .slice a2 p.h.length c2, .slice a3 p.r.length c3] 50)) = W at *
  have HB_1 := Lib.hid (Below.refl W.heap.size W)
  have G_1 := Lib.hid G_0.out
  have V_1 := Lib.hid V_0.out
  have C_1 := Lib.hid C_0.out
  have H_1 := Lib.hid H_0.out
  have M1_1 := Lib.hid M1_0.out
  have M2_1 := Lib.hid M2_0.out
  clear g0 g1 g2 pv0 pv1 pv2
  have hbd : Below W.heap.size W W.drew := (Below.refl _ W).drew
  have HB_s := Lib.hid (bt HB_1.out hbd)
  have G_s := Lib.hid (G_1.out.below hbd)
  have V_s := Lib.hid (V_1.out.below hbd)
  have C_s := Lib.hid (C_1.out.below hbd)
  have H_s := Lib.hid (H_1.out.below hbd)
  have M1_s := Lib.hid (M1_1.out.below hbd)
  have M2_s := Lib.hid (M2_1.out.below hbd)
  clear hbd
  refine wp_region_held_drew (S := (fun w' => (w'.cell? ⟨w.heap.size, 0, none⟩ = some (.int .i64 P) ∧ w'.cell? ⟨w.heap.size, 1, none⟩ = some (.int .i64 Q) ∧ w'.cell? ⟨w.heap.size, 2, none⟩ = some (.int .i64 G)) ∧ w'.cell? ⟨w.heap.size + 1, 0, none⟩ = some (.slice a1 p.c.length c1))) (by kernel_rfl) (show _ from ⟨⟨G_1.out.1, G_1.out.2.1, G_1.out.2.2⟩, V_1.out.1⟩) (fun hHeld => ?_)
  generalize hW0 : W.drew = Ws at *
  clear hW0
  refine wpAnyH_take (i := 0) (v := ?_) rfl (by kernel_rfl) (by kernel_rfl) (by kernel_rfl) (fun _ _ _ h => h) (Or.inl ⟨by kernel_rfl, ?_⟩) (by assumption) ?_
  rotate_left 1
  · intro w9 hSw
    try dsimp only at hSw
    go_simp
    try with_reducible rfl
  try simp only [Act.put, List.getElem_toArray, List.getElem_cons_succ, List.getElem_cons_zero, List.setIfInBounds_toArray, List.set_cons_zero, List.set_cons_succ]
  refine wpAnyH_take (i := 1) (v := ?_) rfl (by kernel_rfl) (by kernel_rfl) (by kernel_rfl) (fun _ _ _ h => h) (Or.inl ⟨by kernel_rfl, ?_⟩) (by assumption) ?_
  rotate_left 1
  · intro w9 hSw
    try dsimp only at hSw
    go_simp
    try with_reducible rfl
  try simp only [Act.put, List.getElem_toArray, List.getElem_cons_succ, List.getElem_cons_zero, List.setIfInBounds_toArray, List.set_cons_zero, List.set_cons_succ]
  refine wpAnyH_take (i := 2) (v := ?_) rfl (by kernel_rfl) (by kernel_rfl) (by kernel_rfl) (fun _ _ _ h => h) (Or.inl ⟨by kernel_rfl, ?_⟩) (by assumption) ?_
  rotate_left 1
  · intro w9 hSw
    try dsimp only at hSw
    go_simp
    try with_reducible rfl
  try simp only [Act.put, List.getElem_toArray, List.getElem_cons_succ, List.getElem_cons_zero, List.setIfInBounds_toArray, List.set_cons_zero, List.set_cons_succ]
  refine wpAnyH_take (i := 4) (v := ?_) rfl (by kernel_rfl) (by kernel_rfl) (by kernel_rfl) (fun _ _ _ h => h) (Or.inl ⟨by kernel_rfl, ?_⟩) (by assumption) ?_
  rotate_left 1
  · intro w9 hSw
    try dsimp only at hSw
    go_simp
    try with_reducible rfl
  try simp only [Act.put, List.getElem_toArray, List.getElem_cons_succ, List.getElem_cons_zero, List.setIfInBounds_toArray, List.set_cons_zero, List.set_cons_succ]
  refine wpAnyH_take (i := 5) (v := ?_) rfl (by kernel_rfl) (by kernel_rfl) (by kernel_rfl) (fun _ _ _ h => h) (Or.inl ⟨by kernel_rfl, ?_⟩) (by assumption) ?_
  rotate_left 1
  · intro w9 hSw
    try dsimp only at hSw
    go_simp
    try with_reducible rfl
  try simp only [Act.put, List.getElem_toArray, List.getElem_cons_succ, List.getElem_cons_zero, List.setIfInBounds_toArray, List.set_cons_zero, List.set_cons_succ]
  refine wpAnyH_ready (rs := [3]) (by kernel_rfl) (by simp) ?_
  refine AllReadyH.cons rfl (fun K hK => ?_) (AllReadyH.nil)
  go_simp
  go_at_call 196
  refine (HEL.out _ M1_s.out M2_s.out).mono ?_
  rintro e' Wsd ⟨rc, rfl, ho, hb⟩
  obtain ⟨ra, rcc, rfl⟩ := (ho).shape
  have HB_sd := Lib.hid (bt HB_s.out hb)
  have G_sd := Lib.hid (G_s.out.below hb)
  have V_sd := Lib.hid (V_s.out.below hb)
  have C_sd := Lib.hid (C_s.out.below hb)
  have H_sd := Lib.hid (H_s.out.below hb)
  have M1_sd := Lib.hid (M1_s.out.below hb)
  have M2_sd := Lib.hid (M2_s.out.below hb)
  have O_sd := Lib.hid (ho)
  clear ho
  clear hb
  go_wp2_with fail
  refine hK.out _ _ (show _ from ⟨⟨G_sd.out.1, G_sd.out.2.1, G_sd.out.2.2⟩, V_sd.out.1⟩) (fun hHeld => ?_)
  clear hK K
  try simp only [Act.put, List.getElem_toArray, List.getElem_cons_succ, List.getElem_cons_zero, List.setIfInBounds_toArray, List.set_cons_zero, List.set_cons_succ]
  refine wpAnyH_ready (rs := [6]) (by kernel_rfl) (by simp) ?_
  refine AllReadyH.cons rfl (fun K hK => ?_) (AllReadyH.nil)
  go_simp
  have hb := ba Wsd (.cells #[.slice ra es.length rcc, .slice a1 p.c.length c1] 24)
  have HB_sdg := Lib.hid (bt HB_sd.out hb)
  have G_sdg := Lib.hid (G_sd.out.below hb)
  have V_sdg := Lib.hid (V_sd.out.below hb)
  have C_sdg := Lib.hid (C_sd.out.below hb)
  have H_sdg := Lib.hid (H_sd.out.below hb)
  have M1_sdg := Lib.hid (M1_sd.out.below hb)
  have M2_sdg := Lib.hid (M2_sd.out.below hb)
  have O_sdg := Lib.hid (O_sd.out.below hb)
  have OO_sdg := Lib.hid (rows_pair O_sd.out C_sd.out 24)
  clear hb
  refine hK.out _ _ (show _ from ⟨⟨G_sdg.out.1, G_sdg.out.2.1, G_sdg.out.2.2⟩, V_sdg.out.1⟩) (fun hHeld => ?_)
  clear hK K
  try simp only [Act.put, List.getElem_toArray, List.getElem_cons_succ, List.getElem_cons_zero, List.setIfInBounds_toArray, List.set_cons_zero, List.set_cons_succ]
  generalize hW9 : Wsd.alloc (.cells #[.slice ra es.length rcc, .slice a1 p.c.length c1] 24) = Wsdg at *
  clear hW9
  refine wpAnyH_ready (rs := [7]) (by kernel_rfl) (by simp) ?_
  refine AllReadyH.cons rfl (fun K hK => ?_) (AllReadyH.nil)
  go_simp
  go_at_call 123
  refine (concatRows_any (by omega) HE0.out OO_sdg.out).mono ?_
  rintro e' Wsdgh ⟨rc3, rfl, ho, hb⟩
  obtain ⟨rb3, rcc3, rfl⟩ := ho.toIn.shape
  have HB_sdgh := Lib.hid (bt HB_sdg.out hb)
  have G_sdgh := Lib.hid (G_sdg.out.below hb)
  have V_sdgh := Lib.hid (V_sdg.out.below hb)
  have C_sdgh := Lib.hid (C_sdg.out.below hb)
  have H_sdgh := Lib.hid (H_sdg.out.below hb)
  have M1_sdgh := Lib.hid (M1_sdg.out.below hb)
  have M2_sdgh := Lib.hid (M2_sdg.out.below hb)
  have O_sdgh := Lib.hid (O_sdg.out.below hb)
  have OO_sdgh := Lib.hid (OO_sdg.out.below hb)
  have CC_sdgh := Lib.hid ho.toIn
  clear ho
  clear hb
  go_wp2_with fail
  refine hK.out _ _ (show _ from ⟨⟨G_sdgh.out.1, G_sdgh.out.2.1, G_sdgh.out.2.2⟩, V_sdgh.out.1⟩) (fun hHeld => ?_)
  clear hK K
  try simp only [Act.put, List.getElem_toArray, List.getElem_cons_succ, List.getElem_cons_zero, List.setIfInBounds_toArray, List.set_cons_zero, List.set_cons_succ]
  refine wpAnyH_ready (rs := [8]) (by kernel_rfl) (by simp) ?_
  refine AllReadyH.cons rfl (fun K hK => ?_) (AllReadyH.nil)
  go_simp
  go_at_call 160
  refine (challenge_any P Q G s hs _ _ _ (es ++ p.c) (by simp only [List.length_append]) (by omega) _ (CC_sdgh.out.ints).1).mono ?_
  rintro e' Wsdghi ⟨rfl, hb⟩
  have HB_sdghi := Lib.hid (bt HB_sdgh.out hb)
  have G_sdghi := Lib.hid (G_sdgh.out.below hb)
  have V_sdghi := Lib.hid (V_sdgh.out.below hb)
  have C_sdghi := Lib.hid (C_sdgh.out.below hb)
  have H_sdghi := Lib.hid (H_sdgh.out.below hb)
  have M1_sdghi := Lib.hid (M1_sdgh.out.below hb)
  have M2_sdghi := Lib.hid (M2_sdgh.out.below hb)
  have O_sdghi := Lib.hid (O_sdgh.out.below hb)
  have OO_sdghi := Lib.hid (OO_sdgh.out.below hb)
  have CC_sdghi := Lib.hid (CC_sdgh.out.below hb)
  clear hb
  go_wp2_with fail
  refine hK.out _ _ (show _ from ⟨⟨G_sdghi.out.1, G_sdghi.out.2.1, G_sdghi.out.2.2⟩, V_sdghi.out.1⟩) (fun hHeld => ?_)
  clear hK K
  try simp only [Act.put, List.getElem_toArray, List.getElem_cons_succ, List.getElem_cons_zero, List.setIfInBounds_toArray, List.set_cons_zero, List.set_cons_succ]
  refine wpAnyH_take (i := 9) (v := ?_) rfl (by kernel_rfl) (by kernel_rfl) (by kernel_rfl) (fun _ _ _ h => h) (Or.inl ⟨by kernel_rfl, ?_⟩) (by assumption) ?_
  rotate_left 1
  · intro w9 hSw
    try dsimp only at hSw
    go_simp
    try with_reducible rfl
  try simp only [Act.put, List.getElem_toArray, List.getElem_cons_succ, List.getElem_cons_zero, List.setIfInBounds_toArray, List.set_cons_zero, List.set_cons_succ]
  refine wpAnyH_take (i := 10) (v := ?_) rfl (by kernel_rfl) (by kernel_rfl) (by kernel_rfl) (fun _ _ _ h => h) (Or.inl ⟨by kernel_rfl, ?_⟩) (by assumption) ?_
  rotate_left 1
  · intro w9 hSw
    try dsimp only at hSw
    go_simp
    try with_reducible rfl
  try simp only [Act.put, List.getElem_toArray, List.getElem_cons_succ, List.getElem_cons_zero, List.setIfInBounds_toArray, List.set_cons_zero, List.set_cons_succ]
  refine wpAnyH_take (i := 11) (v := ?_) rfl (by kernel_rfl) (by kernel_rfl) (by kernel_rfl) (fun _ _ _ h => h) (Or.inl ⟨by kernel_rfl, ?_⟩) (by assumption) ?_
  rotate_left 1
  · intro w9 hSw
    try dsimp only at hSw
    go_simp
    try with_reducible rfl
  try simp only [Act.put, List.getElem_toArray, List.getElem_cons_succ, List.getElem_cons_zero, List.setIfInBounds_toArray, List.set_cons_zero, List.set_cons_succ]
  refine wpAnyH_take (i := 12) (v := ?_) rfl (by kernel_rfl) (by kernel_rfl) (by kernel_rfl) (fun _ _ _ h => h) (Or.inl ⟨by kernel_rfl, ?_⟩) (by assumption) ?_
  rotate_left 1
  · intro w9 hSw
    try dsimp only at hSw
    go_simp
    try with_reducible rfl
  try simp only [Act.put, List.getElem_toArray, List.getElem_cons_succ, List.getElem_cons_zero, List.setIfInBounds_toArray, List.set_cons_zero, List.set_cons_succ]
  refine wpAnyH_take (i := 13) (v := ?_) rfl (by kernel_rfl) (by kernel_rfl) (by kernel_rfl) (fun _ _ _ h => h) (Or.inl ⟨by kernel_rfl, ?_⟩) (by assumption) ?_
  rotate_left 1
  · intro w9 hSw
    try dsimp only at hSw
    go_simp
    try with_reducible rfl
  try simp only [Act.put, List.getElem_toArray, List.getElem_cons_succ, List.getElem_cons_zero, List.setIfInBounds_toArray, List.set_cons_zero, List.set_cons_succ]
  refine wpAnyH_done (by kernel_rfl) ?_ _
  have H_4 := Lib.hid H_sdghi.out
  have G_4 := Lib.hid G_sdghi.out
  have HBF := Lib.hid (bt HB_0.out HB_sdghi.out)
  obtain ⟨pv0, pv1, pv2, _⟩ := V_sdghi.out
  obtain ⟨g0, g1, g2⟩ := G_sdghi.out
  cases hk : chB P Q G s (es ++ p.c) 3
  · have HK := Lib.hid hk
    have HMS := Lib.hid (show msV P Q G s es p.c p.h = 0 by simp [msV, hk])
    go_wp2_with fail
    go_ret2
    exact ⟨by rw [HMS.out, HK.out]; rfl, HBF.out⟩
  · have HK := Lib.hid hk
    obtain ⟨ex, hex⟩ : ∃ ex, chX P Q G s (es ++ p.c) = ex := ⟨_, rfl⟩
    have HMS := Lib.hid (show msV P Q G s es p.c p.h = subF Q ex p.h by simp [msV, hk, hex])
    have hcv : chV P Q G s (es ++ p.c) = ex := by simp [chV, hk, hex]
    have hxr : 0 ≤ ex ∧ ex < Q := by rw [← hex]; exact chX_rng (by omega)
    rw [hcv]
    have HXR := Lib.hid hxr
    clear hcv hex hk hxr
    go_wp2_with fail
    clear pv0 pv1 pv2 g0 g1 g2
    go_loop [10, 13, 31] (fun E _ K => ∃ (k : Nat) (x : Int), k ≤ p.h.length ∧ K = .int .i64 k ∧ E = .int .i64 x ∧ (0 ≤ x ∧ x < Q) ∧ subF Q ex p.h = subF Q x (p.h.drop k)) (fun _ _ K => p.h.length - (intOf K).toNat)
    case atStart => exact ⟨0, ex, Nat.zero_le _, rfl, rfl, HXR.out, by simp⟩
    case round =>
      obtain ⟨k, x, hk, rfl, rfl, ⟨x0, x1⟩, he⟩ := hrel
      by_cases hkn : k < p.h.length
      · obtain ⟨b, off, c, hba, hb, hc, hd⟩ := (H_4.out.ints).1.at (k := k) hkn
        subst hba
        have hcr := HHI.out c (mem_drop hd)
        obtain ⟨y0', y1'⟩ := hcr
        have HS := Lib.hid (subF_step hd he)
        have hn0 : 0 ≤ (x - c) % Q := Int.emod_nonneg _ (by omega)
        have hn1 : (x - c) % Q < Q := Int.emod_lt_of_pos _ (by omega)
        obtain ⟨g0, g1, g2⟩ := G_4.out
        clear hd he
        go_wp2_with fail
        refine (ssub_any Q x c hQ2.1 hQ2.2 x0 x1 y0' y1' _).mono ?_
        rintro e' w' ⟨rfl, rfl⟩
        go_wp2_with fail
        go_round
        case rel => exact ⟨k + 1, _, by omega, by go_num, rfl, ⟨hn0, hn1⟩, HS.out⟩
        case measure => simp only [intOf]; omega
      · have HE := Lib.hid he
        clear he
        go_wp2_with fail
        go_ret2
        refine ⟨?_, HBF.out⟩
        rw [HMS.out, HE.out, List.drop_of_length_le (by omega), HK.out]; rfl

end Go.Proofs.Ytdnofcpobpoehaa

