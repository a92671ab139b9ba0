/- Sigma proofs, the program: rows of elements, images; copies and comparisons of slices. -/
import Derived.Test.YtglfbhkdmkneoaaSigF
import Derived.Test.YtglfbhkdmkneoaaG7
import Derived.Lib.AppendZeros
import Derived.Lib.SliceRun
import Derived.Deep.RegionHeld3
import Derived.Test.YtglfbhkdmkneoaaElE
import Derived.Deep.LoopGhost
import Derived.Deep.AppendLies
namespace Go.Proofs.Ytglfbhkdmkneoaa
open Go.RowKit
set_option linter.unusedVariables false
set_option linter.unusedSimpArgs false

theorem InI.ints {P : Nat} {w : World} {a : Option Addr} {n c : Nat} {z : List Int} (h : InI P w (.slice a n c) z) : IsInts w a z ∧ z.length = n ∧ (a = none → c = 0) ∧ n ≤ c := by
  obtain ⟨_, ad, cap, h1, h2, h3, h4⟩ := h
  simp only [Value.slice.injEq] at h1
  obtain ⟨rfl, rfl, rfl⟩ := h1
  exact ⟨h2.ints, rfl, h3, h4⟩

theorem drop_all_step {α : Type} {p : α → Bool} {rows rest : List α} {r : α} {k : Nat} {t : Bool} (h : rows.drop k = r :: rest) (hb : t = (rows.drop k).all p) :
    (p r = true → t = rest.all p) ∧ (p r = false → t = false) := by
  rw [h, List.all_cons] at hb
  exact ⟨fun h1 => by rw [hb, h1, Bool.true_and], fun h1 => by rw [hb, h1, Bool.false_and]⟩
theorem rowsB_off1 {P Q : Int} {rows : List (List Int)} (h : inB (rows.length : Int) 1 8 = false) : rowsB P Q rows = false := by
  rw [← Bool.not_eq_true, inB_true] at h
  rw [← Bool.not_eq_true, rowsB_true]
  omega
theorem rowsB_off2 {P Q : Int} {rows : List (List Int)} (h : inB (wid rows : Int) 1 8 = false) : rowsB P Q rows = false := by
  rw [← Bool.not_eq_true, inB_true] at h
  rw [← Bool.not_eq_true, rowsB_true]
  omega
theorem rowsB_on {P Q : Int} {rows : List (List Int)} (h1 : inB (rows.length : Int) 1 8 = true) (h2 : inB (wid rows : Int) 1 8 = true) : rowsB P Q rows = rows.all fun r => rowB P Q (wid rows) r := by
  rw [inB_true] at h1 h2
  unfold rowsB
  rw [decide_eq_true (by omega), decide_eq_true (by omega), Bool.true_and, Bool.true_and]
theorem wid_head {rows : List (List Int)} {z : List Int} (h : rows.drop 0 = z :: rows.drop (0 + 1)) : wid rows = z.length := by
  rw [List.drop_zero] at h
  unfold wid
  rw [h]; rfl
theorem rowB_out {P Q : Int} {n : Nat} {r : List Int} (h : ¬ r.length = n) : rowB P Q n r = false := by simp [rowB, h]
theorem rowB_in {P Q : Int} {n : Nat} {r : List Int} (h : r.length = n) (h8 : n ≤ 24) : rowB P Q n r = elsB P Q r := by simp [rowB, elsB, h, h8]

theorem imgs_step {P : Int} {rows : List (List Int)} {es : List Int} {z : List Int} {k : Nat} (h : rows.drop k = z :: rows.drop (k + 1)) : (imgs P rows es).drop k = powsFrom P 1 z es :: (imgs P rows es).drop (k + 1) := by
  unfold imgs
  rw [← List.map_drop, ← List.map_drop, h]; rfl
theorem set_over {xs ys : List Int} {x : Int} {k : Nat} (h : xs.drop k = x :: xs.drop (k + 1)) (hl : xs.length = ys.length) : (over xs ys k).set k x = over xs ys (k + 1) := by
  have hk : k < xs.length := by
    rcases Nat.lt_or_ge k xs.length with h1 | h1
    · exact h1
    · rw [List.drop_of_length_le h1] at h; cases h
  have e := over_step (xs := xs) (ys := ys) hk (by omega)
  rw [List.drop_eq_getElem_cons hk] at h
  rwa [(List.cons.inj h).1] at e

theorem own_put {wr : World} {B g n cap j : Nat} {zs : List Int} (hown : wr.ownsRow B 3 1 (.slice (some ⟨g, 0, none⟩) n cap) n (zs.map (Value.int .i64))) (z : Int) :
    (wr.setCell ⟨g, j, none⟩ (.int .i64 z)).ownsRow B 3 1 (.slice (some ⟨g, 0, none⟩) n cap) n ((zs.set j z).map (Value.int .i64)) := by
  have := (hown.stored j (.int .i64 z)).1
  rwa [← List.map_set] at this

/-- A list in a row of the call's own. -/
def OwnI (w : World) (zs : List Int) (e : Ending) (w' : World) : Prop := ∃ v, e = .returned v ∧ OwI w.heap.size w'.heap.size w' v zs ∧ Below w.heap.size w w'

end Go.Proofs.Ytglfbhkdmkneoaa

/- Slices of integers: comparison, copy, concatenation (package slices, walked). -/
namespace Go.Proofs.Ytglfbhkdmkneoaa
open Go.RowKit
set_option linter.unusedVariables false
set_option linter.unusedSimpArgs false

theorem eqv_step {a b ra rb : List Int} {x y : Int} {k : Nat} (h : a.drop k = x :: ra) (h' : b.drop k = y :: rb) (he : decide (a = b) = decide (a.drop k = b.drop k)) :
    (x = y → decide (a = b) = decide (ra = rb)) ∧ (x ≠ y → decide (a = b) = false) := by
  rw [h, h'] at he
  refine ⟨fun e => ?_, fun e => ?_⟩
  · rw [he, e]; simp
  · rw [he]; simp [e]

/-- A row without elements, of one's own, with room. -/
def GrowOut (w : World) (e : Ending) (w' : World) : Prop := ∃ v, e = .returned v ∧ w'.ownsRow w.heap.size 3 1 v 0 [] ∧ Below w.heap.size w w'

set_option maxHeartbeats 800000 in
theorem grow_any (m : Nat) (h0 : 0 < m) (hl : m ≤ 4000000) (w : World) :
    Calls Try.prog 154 #[.slice none 0 0, .int .i64 m] w (GrowOut w) := by
  obtain ⟨i0, hi, hz0, hz1, hz2⟩ := info_parts Try.info3
  have HZ2 := Lib.hid hz2
  have h0i : 0 < (m : Int) := by omega
  have hnn : ¬ (m : Int) < 0 := by omega
  have hr := Lib.run_append_nil_zeros (P := Try.prog) w 24 3 24 3 i0 (.int .i64 0) .i64 .i64 Try.underlying24 Try.underlying3 hi hz0 m h0 (by omega) (by omega) (by rw [hz2]; omega)
  have hge := grownCap_ge w m 0 3
  have hle := grownCap_le_maxLen w m 0 3 (by unfold maxLen; omega)
  generalize hcap : grownCap w m 0 3 = cap at hr hge hle
  clear hz2
  go_enter Try.func154, Try.ntmps154
  go_wp2_with (at_builtin; refine Lib.wpList_append_run _ rfl _ _ _ _ rfl _ _ rfl rfl _ _ hr ?_)
  go_ret
  refine ⟨_, rfl, ⟨by simp, .inr ⟨w.heap.size, cap, Builtin.zeroCells (Value.int .i64 0).cells m ++ Builtin.zeroCells (Value.int .i64 0).cells (cap - m), rfl, Nat.le_refl _, ?_, Nat.zero_le _, hle, ?_, by simp⟩⟩, ?_⟩
  · show (w.heap.push _)[w.heap.size]? = _
    rw [Array.getElem?_push_size]; rfl
  · simp [Builtin.zeroCells, Value.cells]; omega
  · exact (Below.refl _ w).drew.alloc (Nat.le_refl _) _

theorem sum_step {rows : List (List Int)} {z : List Int} {k : Nat} (h : rows.drop k = z :: rows.drop (k + 1)) : nS (rows.take (k + 1)) = nS (rows.take k) + z.length ∧ (rows.take (k + 1)).flatten = (rows.take k).flatten ++ z := by
  have hk : k < rows.length := by
    rcases Nat.lt_or_ge k rows.length with h1 | h1
    · exact h1
    · rw [List.drop_of_length_le h1] at h; cases h
  rw [List.drop_eq_getElem_cons hk] at h
  rw [List.take_succ_eq_append_getElem hk, ← (List.cons.inj h).1]
  refine ⟨?_, by rw [List.flatten_append, List.flatten_cons, List.flatten_nil, List.append_nil]⟩
  rw [nS_append]; simp [nS]
theorem nS_flat (rows : List (List Int)) : rows.flatten.length = nS rows := by simp [nS, List.length_flatten]

set_option maxRecDepth 100000 in
set_option maxHeartbeats 1600000 in
theorem concat_any {B : Nat} {v : Value} {rows : List (List Int)} (hl : rows.length ≤ 1000) (hr : nS rows ≤ 4000000) (h0 : 0 < nS rows) {w : World} (hz : InS B w v rows) :
    Calls Try.prog 127 #[v] w (OwnI w rows.flatten) := by
  obtain ⟨ad, cap, rfl⟩ := hz.shape
  obtain ⟨i0, hi, hz0, hz1, hz2⟩ := info_parts Try.info3
  have HR := Lib.hid hr
  have HF := Lib.hid (nS_flat rows)
  generalize hn : rows.length = n at hz hl
  have HN := Lib.hid hn
  have HZ := Lib.hid hz
  clear hn hz
  go_enter Try.func127, Try.ntmps127
  go_wp2_with fail
  go_loop [3, 5, 11] (fun S _ K => ∃ k : Nat, k ≤ n ∧ K = .int .i64 k ∧ S = .int .i64 (nS (rows.take k))) (fun _ _ K => n - (intOf K).toNat)
  case atStart => exact ⟨0, Nat.zero_le _, rfl, by simp [nS]⟩
  case round =>
    obtain ⟨k, hk, rfl, rfl⟩ := hrel
    by_cases hkn : k < n
    · obtain ⟨b, off, a, c, z, rfl, hb, hc, hin, hd⟩ := HZ.out.at (k := k) (by have := HN.out; omega)
      have hs := (sum_step hd).1
      have hle : nS (rows.take (k + 1)) ≤ 4000000 := by
        have := nS_drop rows (k + 1)
        have := HR.out
        omega
      have HS := Lib.hid hs
      have hsi : IntKind.i64.wrap ((nS (rows.take k) : Int) + (z.length : Int)) = (nS (rows.take (k + 1)) : Int) := by rw [IntKind.wrap_i64]; omega
      have hneg : ¬ (nS (rows.take (k + 1)) : Int) < 0 := by omega
      clear hin hd hs hle
      go_wp2_with fail
      go_round
      case rel => exact ⟨k + 1, by omega, by go_num, rfl⟩
      case measure => simp only [intOf]; omega
    · obtain rfl : k = n := by omega
      have e1 : nS (rows.take k) = nS rows := by rw [List.take_of_length_le (by have := HN.out; omega)]
      rw [e1]
      clear e1
      go_wp2_with fail
      refine (grow_any (nS rows) h0 (by omega) _).mono ?_
      rintro e w1 ⟨v1, rfl, ho1, hb1⟩
      obtain ⟨va, vc, rfl⟩ := own_shape ho1
      have HO1 := Lib.hid ho1
      have HB1 := Lib.hid hb1
      clear ho1 hb1
      go_wp2_with fail
      go_loopw [6, 8, 27] (fun V _ K wr => ∃ (j : Nat) (va : Option Addr) (vc : Nat), j ≤ k ∧ K = .int .i64 j ∧ V = .slice va (nS (rows.take j)) vc ∧ wr.ownsRow w.heap.size 3 1 (.slice va (nS (rows.take j)) vc) (nS (rows.take j)) ((rows.take j).flatten.map (Value.int .i64)) ∧ Below w.heap.size w wr) (fun _ _ K _ => k - (intOf K).toNat)
      case atStart => exact ⟨0, va, vc, Nat.zero_le _, rfl, rfl, by simpa [nS] using HO1.out, HB1.out⟩
      case round =>
        obtain ⟨j, va, vc, hj, rfl, rfl, hown, hbel⟩ := hrel
        have HO := Lib.hid hown
        have HB := Lib.hid hbel
        clear hown hbel
        by_cases hjk : j < k
        · obtain ⟨b, off, a, c, z, rfl, hb, hc, hin, hd⟩ := (HZ.out.below HB.out).at (k := j) (by have := HN.out; omega)
          obtain ⟨hi1, hi2, hi3, hi4⟩ := hin.ints
          have HI := Lib.hid hi1
          have HNIL := Lib.hid hi3
          have HS := Lib.hid (sum_step hd)
          have hle : nS (rows.take (j + 1)) ≤ 4000000 := by
            have := nS_drop rows (j + 1)
            have := HR.out
            omega
          have hle2 : nS (rows.take j) + z.length ≤ 4000000 := by have := HS.out.1; omega
          clear hi1 hi2 hi3 hi4 hin hd hle
          go_wp2_with (at_builtin; refine wpList_append_ints rfl _ _ 24 rfl w.heap.size 3 i0 Try.underlying24 hi hz0 hz1 hz2 _ (nS (rows.take j)) ((rows.take j).flatten) rfl HO.out a z.length c z rfl rfl HI.out HNIL.out (by omega) HB.out.size ?_)
          intro v' w2 hown2 hgrow
          obtain ⟨va', vc', rfl⟩ := own_shape hown2
          have HO2 := Lib.hid (show w2.ownsRow w.heap.size 3 1 (.slice va' (nS (rows.take (j + 1))) vc') (nS (rows.take (j + 1))) ((rows.take (j + 1)).flatten.map (Value.int .i64)) from by rw [HS.out.1, HS.out.2]; simpa using hown2)
          have HB2 := Lib.hid (HB.out.grown hgrow HB.out.size (fun q hq => (HO.out.lt q hq).1))
          clear hown2 hgrow
          go_wp2_with fail
          go_roundw
          case rel =>
            exact ⟨j + 1, va', vc', by omega, by go_num, by rw [HS.out.1], HO2.out, HB2.out⟩
          case measure => simp only [intOf]; omega
        · obtain rfl : j = k := by omega
          have h := HO.out
          rw [List.take_of_length_le (by have := HN.out; omega)] at h
          have HO3 := Lib.hid h
          have e1 : nS (rows.take j) = nS rows := by rw [List.take_of_length_le (by have := HN.out; omega)]
          rw [e1]
          clear e1 h
          go_wp2_with fail
          go_ret
          refine ⟨_, rfl, ?_, HB.out⟩
          have h := owI_mk HO3.out HB.out.size
          exact h

end Go.Proofs.Ytglfbhkdmkneoaa

/- Sigma proofs, the program: a statement behind its interface: its linear statements and its elements. -/
namespace Go.Proofs.Ytglfbhkdmkneoaa
open Go.RowKit
set_option linter.unusedVariables false
set_option linter.unusedSimpArgs false

/-! ### Two values, four numbers in a block -/
def V2 (w : World) (b : Nat) (x y : Value) : Prop := w.cell? ⟨b, 0, none⟩ = some x ∧ w.cell? ⟨b, 1, none⟩ = some y
theorem v2_new (w : World) (x y : Value) (t : TypeId) : V2 (w.alloc (.cells #[x, y] t)) w.heap.size x y := by
  refine ⟨?_, ?_⟩ <;> (rw [World.cell?_alloc_at _ _ _ _ rfl]; rfl)
theorem V2.lt {w : World} {b : Nat} {x y : Value} (h : V2 w b x y) : b < w.heap.size := World.block_lt_of_cell? w _ h.1
theorem V2.below {w w' : World} {b : Nat} {x y : Value} (h : V2 w b x y) (hb : Below w.heap.size w w') : V2 w' b x y := by
  have hl := h.lt
  exact ⟨by rw [hb.cell (p := ⟨b, 0, none⟩) hl]; exact h.1, by rw [hb.cell (p := ⟨b, 1, none⟩) hl]; exact h.2⟩
theorem V2.drew {w : World} {b : Nat} {x y : Value} (h : V2 w b x y) : V2 w.drew b x y := h
def V4 (w : World) (b : Nat) (a c d f : Int) : Prop := w.cell? ⟨b, 0, none⟩ = some (.int .i64 a) ∧ w.cell? ⟨b, 1, none⟩ = some (.int .i64 c) ∧ w.cell? ⟨b, 2, none⟩ = some (.int .i64 d) ∧ w.cell? ⟨b, 3, none⟩ = some (.int .i64 f)
theorem v4_new (w : World) (a c d f : Int) (t : TypeId) : V4 (w.alloc (.cells #[.int .i64 a, .int .i64 c, .int .i64 d, .int .i64 f] t)) w.heap.size a c d f := by
  refine ⟨?_, ?_, ?_, ?_⟩ <;> (rw [World.cell?_alloc_at _ _ _ _ rfl]; rfl)
theorem V4.lt {w : World} {b : Nat} {a c d f : Int} (h : V4 w b a c d f) : b < w.heap.size := World.block_lt_of_cell? w _ h.1
theorem V4.below {w w' : World} {b : Nat} {a c d f : Int} (h : V4 w b a c d f) (hb : Below w.heap.size w w') : V4 w' b a c d f := by
  have hl := h.lt
  exact ⟨by rw [hb.cell (p := ⟨b, 0, none⟩) hl]; exact h.1, by rw [hb.cell (p := ⟨b, 1, none⟩) hl]; exact h.2.1, by rw [hb.cell (p := ⟨b, 2, none⟩) hl]; exact h.2.2.1, by rw [hb.cell (p := ⟨b, 3, none⟩) hl]; exact h.2.2.2⟩
theorem V4.drew {w : World} {b : Nat} {a c d f : Int} (h : V4 w b a c d f) : V4 w.drew b a c d f := h
abbrev ev4 (a c d f : Int) : Value := .agg #[.int .i64 a, .int .i64 c, .int .i64 d, .int .i64 f]

/-! ### Lists of statements of equal logarithms, flat -/
def InE (P : Nat) (w : World) (v : Value) (zs : List Int) : Prop := P ≤ w.heap.size ∧ ∃ ad n cap, v = .slice ad n cap ∧ zs.length = n * 4 ∧ InB P w ad zs ∧ (ad = none → cap = 0)
theorem InE.below {P : Nat} {w w' : World} {v : Value} {zs : List Int} (h : InE P w v zs) (hb : Below w.heap.size w w') : InE P w' v zs := by
  obtain ⟨h0, ad, n, cap, rfl, hn, h1, h2⟩ := h
  exact ⟨Nat.le_trans h0 hb.size, ad, n, cap, rfl, hn, h1.below (hb.mono h0), h2⟩
theorem InE.mid {P A B : Nat} {w w' : World} {v : Value} {zs : List Int} (h : InE P w v zs) (hm : Mid A B w w') (hA : P ≤ A) : InE P w' v zs := by
  obtain ⟨h0, ad, n, cap, rfl, hn, h1, h2⟩ := h
  exact ⟨Nat.le_trans h0 hm.size, ad, n, cap, rfl, hn, h1.below (hm.toBelow hA h0), h2⟩
theorem InE.le {P : Nat} {w : World} {v : Value} {zs : List Int} (h : InE P w v zs) : P ≤ w.heap.size := h.1
theorem InE.shape {P : Nat} {w : World} {v : Value} {zs : List Int} (h : InE P w v zs) : ∃ ad n cap, v = .slice ad n cap ∧ zs.length = n * 4 ∧ IsInts w ad zs ∧ (ad = none → cap = 0) := by
  obtain ⟨_, ad, n, cap, rfl, hn, h1, h2⟩ := h
  exact ⟨ad, n, cap, rfl, hn, h1.ints, h2⟩
/-- The k-th four numbers. -/
theorem ints_quad {w : World} {ad : Option Addr} {zs : List Int} {n k : Nat} (h : IsInts w ad zs) (hk : k < n) (hn : zs.length = n * 4) :
    ∃ b off x y z t, ad = some ⟨b, off, none⟩ ∧ b < w.heap.size ∧ w.cell? ⟨b, off + k * 4, none⟩ = some (.int .i64 x) ∧ w.cell? ⟨b, off + k * 4 + 1, none⟩ = some (.int .i64 y) ∧ w.cell? ⟨b, off + k * 4 + 2, none⟩ = some (.int .i64 z) ∧ w.cell? ⟨b, off + k * 4 + 3, none⟩ = some (.int .i64 t) ∧
      zs.drop (k * 4) = x :: y :: z :: t :: zs.drop ((k + 1) * 4) := by
  rcases h with rfl | ⟨b, off, rfl, hb, hc⟩
  · simp at hn; omega
  · have g : ∀ j (hj : j < 4), w.cell? ⟨b, off + k * 4 + j, none⟩ = some (.int .i64 (zs[k * 4 + j]'(by omega))) := by
      intro j hj
      have := hc (k * 4 + j) (by omega)
      rw [Nat.add_assoc, this]
      simp [List.getElem?_eq_getElem (show k * 4 + j < zs.length by omega)]
    have hkl : k * 4 + 3 < zs.length := by omega
    refine ⟨b, off, zs[k * 4]'(by omega), zs[k * 4 + 1]'(by omega), zs[k * 4 + 2]'(by omega), zs[k * 4 + 3]'(by omega), rfl, hb, g 0 (by omega), g 1 (by omega), g 2 (by omega), g 3 (by omega), ?_⟩
    have d : ∀ j (hj : j < zs.length), zs.drop j = zs[j] :: zs.drop (j + 1) := fun j hj => List.drop_eq_getElem_cons hj
    rw [d (k * 4) (by omega), d (k * 4 + 1) (by omega), d (k * 4 + 1 + 1) (by omega), d (k * 4 + 1 + 1 + 1) (by omega)]
    rw [show k * 4 + 1 + 1 + 1 + 1 = (k + 1) * 4 by omega]

theorem comps_in (w : World) (a c d f : Int) (t : TypeId) : IsInts ((w.alloc (.cells #[.int .i64 a, .int .i64 c, .int .i64 d, .int .i64 f] t)).alloc (.cells #[.int .i64 a, .int .i64 c, .int .i64 d, .int .i64 f] 3)) (some ⟨w.heap.size + 1, 0, none⟩) [a, c, d, f] :=
  ints_spot7 _ _ (by simp) [a, c, d, f] 3

/-- The two rows and the two images of a statement of equal logarithms, in blocks from lo on. -/
def Rw4 (lo : Nat) (w : World) (v : Value) (a b c d : Int) : Prop := ∃ p q r s : Nat, v = .agg #[.slice (some ⟨r, 0, none⟩) 2 2, .slice (some ⟨s, 0, none⟩) 2 2] ∧ (lo ≤ p ∧ lo ≤ q ∧ lo ≤ r ∧ lo ≤ s) ∧
  (w.cell? ⟨r, 0, none⟩ = some (.slice (some ⟨p, 0, none⟩) 1 1) ∧ w.cell? ⟨r, 1, none⟩ = some (.slice (some ⟨q, 0, none⟩) 1 1)) ∧ (w.cell? ⟨p, 0, none⟩ = some (.int .i64 a) ∧ w.cell? ⟨q, 0, none⟩ = some (.int .i64 c)) ∧ w.cell? ⟨s, 0, none⟩ = some (.int .i64 b) ∧ w.cell? ⟨s, 1, none⟩ = some (.int .i64 d)
/-- What lies in blocks from lo on stays. -/
def Stay (lo : Nat) (w w' : World) : Prop := ∀ a v, lo ≤ a.block → w.cell? a = some v → w'.cell? a = some v
theorem Rw4.stay {lo : Nat} {w w' : World} {v : Value} {a b c d : Int} (h : Rw4 lo w v a b c d) (hs : Stay lo w w') : Rw4 lo w' v a b c d := by
  obtain ⟨p, q, r, s, e, ⟨l1, l2, l3, l4⟩, ⟨h1, h2⟩, ⟨h3, h4⟩, h5, h6⟩ := h
  exact ⟨p, q, r, s, e, ⟨l1, l2, l3, l4⟩, ⟨hs _ _ l3 h1, hs _ _ l3 h2⟩, ⟨hs _ _ l1 h3, hs _ _ l2 h4⟩, hs _ _ l4 h5, hs _ _ l4 h6⟩
theorem stay_below {lo : Nat} {w w' : World} (hb : Below w.heap.size w w') : Stay lo w w' := by
  intro a v _ h
  rw [hb.cell (World.block_lt_of_cell? w _ h)]; exact h
theorem stay_set {lo g i : Nat} (w : World) (x : Value) (hg : g < lo) : Stay lo w (w.setCell ⟨g, i, none⟩ x) := by
  intro a v hl h
  rw [World.cell?_setCell_other _ _ _ _ (fun e => by subst e; simp at hl; omega)]; exact h
theorem Stay.trans {lo : Nat} {a b c : World} (h : Stay lo a b) (k : Stay lo b c) : Stay lo a c := fun x v hl hx => k x v hl (h x v hl hx)
theorem one_in {w : World} {p : Nat} {a : Int} (h : w.cell? ⟨p, 0, none⟩ = some (.int .i64 a)) : InI w.heap.size w (.slice (some ⟨p, 0, none⟩) 1 1) [a] :=
  ⟨Nat.le_refl _, _, _, rfl, .inr ⟨p, 0, rfl, World.block_lt_of_cell? w _ h, World.block_lt_of_cell? w _ h, fun i hi => by
    simp at hi; subst hi; exact h⟩, (fun h => by cases h), by simp⟩
theorem two_in {w : World} {p : Nat} {a b : Int} (h : w.cell? ⟨p, 0, none⟩ = some (.int .i64 a)) (h' : w.cell? ⟨p, 1, none⟩ = some (.int .i64 b)) : InI w.heap.size w (.slice (some ⟨p, 0, none⟩) 2 2) [a, b] :=
  ⟨Nat.le_refl _, _, _, rfl, .inr ⟨p, 0, rfl, World.block_lt_of_cell? w _ h, World.block_lt_of_cell? w _ h, fun i hi => by
    simp at hi
    match i, hi with
    | 0, _ => exact h
    | 1, _ => exact h'⟩, (fun h => by cases h), by simp⟩
theorem Rw4.ins {lo : Nat} {w : World} {x y : Value} {a b c d : Int} (h : Rw4 lo w (.agg #[x, y]) a b c d) : InS w.heap.size w x [[a], [c]] ∧ InI w.heap.size w y [b, d] := by
  obtain ⟨p, q, r, s, e, _, ⟨h1, h2⟩, ⟨h3, h4⟩, h5, h6⟩ := h
  simp only [Value.agg.injEq, Array.mk.injEq, List.cons.injEq, and_true] at e
  obtain ⟨rfl, rfl⟩ := e
  refine ⟨⟨Nat.le_refl _, _, _, rfl, (fun h => by cases h), .inr ⟨r, 0, rfl, World.block_lt_of_cell? w _ h1, World.block_lt_of_cell? w _ h1, fun i z hz => ?_⟩⟩, two_in h5 h6⟩
  match i, hz with
  | 0, hz => simp at hz; subst hz; exact ⟨_, h1, one_in h3⟩
  | 1, hz => simp at hz; subst hz; exact ⟨_, h2, one_in h4⟩

theorem cell_up {w : World} {a : Addr} {v : Value} (h : w.cell? a = some v) (o : Obj) : (w.alloc o).cell? a = some v := stay_below (lo := 0) (ba w o) a v (Nat.zero_le _) h
theorem cell_here (w : World) (b i : Nat) (hb : w.heap.size = b) (cs : Array Value) (t : TypeId) (v : Value) (h : cs[i]? = some v) : (w.alloc (.cells cs t)).cell? ⟨b, i, none⟩ = some v := by
  subst hb
  rw [World.cell?_alloc_at _ _ _ _ rfl]; exact h
theorem rw4_mk (w : World) (o1 o2 : Obj) (a b c d : Int) (t u : TypeId) : Rw4 w.heap.size ((((((w.alloc o1).alloc o2).alloc (.cells #[.int .i64 a] t)).alloc (.cells #[.int .i64 c] t)).alloc (.cells #[.slice (some ⟨w.heap.size + 1 + 1, 0, none⟩) 1 1, .slice (some ⟨w.heap.size + 1 + 1 + 1, 0, none⟩) 1 1] u)).alloc (.cells #[.int .i64 b, .int .i64 d] t))
    (.agg #[.slice (some ⟨w.heap.size + 4, 0, none⟩) 2 2, .slice (some ⟨w.heap.size + 5, 0, none⟩) 2 2]) a b c d := by
  refine ⟨w.heap.size + 1 + 1, w.heap.size + 1 + 1 + 1, w.heap.size + 4, w.heap.size + 5, rfl, by omega, ⟨?_, ?_⟩, ⟨?_, ?_⟩, ?_, ?_⟩
  · exact cell_up (cell_here _ _ _ (by simp) _ _ _ rfl) _
  · exact cell_up (cell_here _ _ _ (by simp) _ _ _ rfl) _
  · exact cell_up (cell_up (cell_up (cell_here _ _ _ (by simp) _ _ _ rfl) _) _) _
  · exact cell_up (cell_up (cell_here _ _ _ (by simp) _ _ _ rfl) _) _
  · exact cell_here _ _ _ (by simp) _ _ _ rfl
  · exact cell_here _ _ _ (by simp) _ _ _ rfl
theorem quads_all_step {P Q : Int} {zs : List Int} {a b c d : Int} {k : Nat} {t : Bool} (h : zs.drop (k * 4) = a :: b :: c :: d :: zs.drop ((k + 1) * 4)) (hb : t = allEl P Q (zs.drop (k * 4))) :
    (allEl P Q [a, b, c, d] = true → t = allEl P Q (zs.drop ((k + 1) * 4))) ∧ (allEl P Q [a, b, c, d] = false → t = false) := by
  rw [h] at hb
  simp only [allEl, List.all_cons, List.all_nil, Bool.and_true] at hb ⊢
  rw [hb]
  constructor
  · intro h1
    simp only [Bool.and_eq_true] at h1
    simp [h1]
  · intro h1
    rw [← Bool.not_eq_true] at h1 ⊢
    simp only [Bool.and_eq_true] at h1 ⊢
    intro h2
    exact h1 ⟨h2.1, h2.2.1, h2.2.2.1, h2.2.2.2.1⟩

/-! ### A statement -/
theorem lin_ok {P Q : Int} {rows : List (List Int)} {im : List Int} : (St.lin rows im).ok P Q = (rowsB P Q rows && (decide (im.length = rows.length) && allEl P Q im)) := rfl

theorem cho_ok {P Q : Int} {l : List Int} {n : Nat} (hn : l.length = n * 4) : (St.cho l).ok P Q = (inB (n : Int) 1 8 && allEl P Q l) := by
  show choB P Q l = _
  unfold choB
  congr 1
  rw [Bool.eq_iff_iff, inB_true, decide_eq_true_eq]
  omega

/-! ### Its linear statements -/
/-- A list of linear statements: two values of each. -/
def InL (w : World) (v : Value) (ps : List LinD) : Prop := ∃ g cap, v = .slice (some ⟨g, 0, none⟩) ps.length cap ∧ g < w.heap.size ∧ ∀ (i : Nat) p, ps[i]? = some p → ∃ x y, w.cell? ⟨g, i * 2, none⟩ = some x ∧ w.cell? ⟨g, i * 2 + 1, none⟩ = some y ∧ InS w.heap.size w x p.1 ∧ InI w.heap.size w y p.2
theorem InS.up {P P' : Nat} {w : World} {v : Value} {zss : List (List Int)} (h : InS P w v zss) (hP : P ≤ P') (hs : P' ≤ w.heap.size) : InS P' w v zss := by
  obtain ⟨h0, ad, cap, rfl, h1, h2⟩ := h
  refine ⟨hs, ad, cap, rfl, h1, ?_⟩
  rcases h2 with h2 | ⟨b, off, h2, h3, h4, h5⟩
  · exact .inl h2
  · refine .inr ⟨b, off, h2, Nat.lt_of_lt_of_le h3 hP, h4, fun i z hz => ?_⟩
    obtain ⟨u, hu, hi⟩ := h5 i z hz
    exact ⟨u, hu, hi.wide hP hs⟩
theorem InL.below {w w' : World} {v : Value} {ps : List LinD} (h : InL w v ps) (hb : Below w.heap.size w w') : InL w' v ps := by
  obtain ⟨g, cap, rfl, hg, hc⟩ := h
  refine ⟨g, cap, rfl, Nat.lt_of_lt_of_le hg hb.size, fun i p hp => ?_⟩
  obtain ⟨x, y, h1, h2, h3, h4⟩ := hc i p hp
  exact ⟨x, y, by rw [hb.cell (p := ⟨g, i * 2, none⟩) hg]; exact h1, by rw [hb.cell (p := ⟨g, i * 2 + 1, none⟩) hg]; exact h2, (h3.below hb).up hb.size (Nat.le_refl _), (h4.below hb).wide hb.size (Nat.le_refl _)⟩
theorem InL.drew {w : World} {v : Value} {ps : List LinD} (h : InL w v ps) : InL w.drew v ps := h
theorem InL.at {w : World} {ad : Option Addr} {n cap : Nat} {ps : List LinD} (h : InL w (.slice ad n cap) ps) {k : Nat} (hk : k < ps.length) :
    ∃ g a1 a2 b1 b2 p, ad = some ⟨g, 0, none⟩ ∧ g < w.heap.size ∧ w.cell? ⟨g, k * 2, none⟩ = some (.slice a1 p.1.length a2) ∧ w.cell? ⟨g, k * 2 + 1, none⟩ = some (.slice b1 p.2.length b2) ∧ InS w.heap.size w (.slice a1 p.1.length a2) p.1 ∧ InI w.heap.size w (.slice b1 p.2.length b2) p.2 ∧ ps.drop k = p :: ps.drop (k + 1) := by
  obtain ⟨g, cap', h1, hg, hc⟩ := h
  simp only [Value.slice.injEq] at h1
  obtain ⟨rfl, _, rfl⟩ := h1
  obtain ⟨x, y, h2, h3, h4, h5⟩ := hc k ps[k] (by simp [hk])
  obtain ⟨a1, a2, rfl⟩ := h4.shape
  obtain ⟨b1, b2, rfl⟩ := h5.shape
  exact ⟨g, a1, a2, b1, b2, ps[k], rfl, hg, h2, h3, h4, h5, List.drop_eq_getElem_cons hk⟩

def PartsOut (w : World) (ps : List LinD) (e : Ending) (w' : World) : Prop := ∃ v, e = .returned v ∧ InL w' v ps ∧ Below w.heap.size w w'

def mixL (vs : List Value) (n : Nat) : List Value := vs ++ List.replicate (n - vs.length) (.slice none 0 0)
theorem mixL_set {vs : List Value} {n k : Nat} (hk : vs.length = k) (hn : k < n) (v : Value) : (mixL vs n).set k v = mixL (vs ++ [v]) n := by
  unfold mixL
  rw [List.set_append_right _ _ (by omega), hk, Nat.sub_self]
  obtain ⟨m, hm⟩ : ∃ m, n - k = m + 1 := ⟨n - k - 1, by omega⟩
  rw [hm, List.replicate_succ, List.set_cons_zero, List.append_assoc]
  congr 1
  simp only [List.length_append, List.length_cons, List.length_nil, List.cons_append, List.nil_append]
  rw [show n - (vs.length + (0 + 1)) = m by omega]

/-- What is filled so far: the first k fours' rows. -/
def Filled (lo g : Nat) (w : World) (l : List Int) (k : Nat) : Prop := ∀ j, j < k → ∃ x y, w.cell? ⟨g, j * 2, none⟩ = some x ∧ w.cell? ⟨g, j * 2 + 1, none⟩ = some y ∧ ∃ a b c d, (quads l)[j]? = some ([[a], [c]], [b, d]) ∧ Rw4 lo w (.agg #[x, y]) a b c d
theorem Filled.step {lo g : Nat} {w w' : World} {l : List Int} {k : Nat} (h : Filled lo g w l k) (hs : Stay lo w w') (hc : ∀ j, j < k * 2 → w'.cell? ⟨g, j, none⟩ = w.cell? ⟨g, j, none⟩) : Filled lo g w' l k := by
  intro j hj
  obtain ⟨x, y, h1, h2, a, b, c, d, h3, h4⟩ := h j hj
  exact ⟨x, y, by rw [hc _ (by omega)]; exact h1, by rw [hc _ (by omega)]; exact h2, a, b, c, d, h3, h4.stay hs⟩

theorem Rw4.lo {lo lo' : Nat} {w : World} {v : Value} {a b c d : Int} (h : Rw4 lo w v a b c d) (hl : lo' ≤ lo) : Rw4 lo' w v a b c d := by
  obtain ⟨p, q, r, s, e, ⟨l1, l2, l3, l4⟩, h2⟩ := h
  exact ⟨p, q, r, s, e, by omega, h2⟩
theorem mixL_get {vs : List Value} {n k : Nat} (hk : vs.length = k) (hn : k < n) : (mixL vs n)[k]? = some (.slice none 0 0) := by
  unfold mixL
  rw [List.getElem?_append_right (by omega), hk, Nat.sub_self]
  obtain ⟨m, hm⟩ : ∃ m, n - k = m + 1 := ⟨n - k - 1, by omega⟩
  rw [hm, List.replicate_succ]; rfl
theorem filled_all {lo g n cap : Nat} {w : World} {l : List Int} (h : Filled lo g w l n) (hq : (quads l).length = n) (hg : g < w.heap.size) : InL w (.slice (some ⟨g, 0, none⟩) n cap) (quads l) := by
  refine ⟨g, cap, by rw [hq], hg, fun i p hp => ?_⟩
  have hi : i < n := by
    have := (List.getElem?_eq_some_iff.1 hp).1
    omega
  obtain ⟨x, y, h1, h2, a, b, c, d, h3, h4⟩ := h i hi
  rw [hp] at h3
  obtain rfl := Option.some.inj h3
  obtain ⟨k1, k2⟩ := h4.ins
  exact ⟨x, y, h1, h2, k1, k2⟩

/-! ### Its elements -/
end Go.Proofs.Ytglfbhkdmkneoaa

namespace Go.Proofs.Ytglfbhkdmkneoaa
open Go.RowKit
set_option linter.unusedVariables false
set_option linter.unusedSimpArgs false
/-! ### A claim: its linear statements and the elements of its challenge lie ready -/
/-! ### What stands in blocks that are left alone -/
def KP (Q P : Nat) (R : World → Prop) (w : World) : Prop := P ≤ w.heap.size ∧ ∀ w' : World, P ≤ w'.heap.size → (∀ b, Q ≤ b → b < P → w'.heap[b]? = w.heap[b]?) → R w'
theorem KP.out {Q P : Nat} {R : World → Prop} {w : World} (h : KP Q P R w) : R w := h.2 w h.1 (fun _ _ _ => rfl)
theorem KP.below {Q P : Nat} {R : World → Prop} {w w' : World} (h : KP Q P R w) (hb : Below w.heap.size w w') : KP Q P R w' :=
  ⟨Nat.le_trans h.1 hb.size, fun w2 hs he => h.2 w2 hs (fun b h1 h2 => (he b h1 h2).trans (hb.block b (Nat.lt_of_lt_of_le h2 h.1)))⟩
theorem KP.mid {Q P A B : Nat} {R : World → Prop} {w w' : World} (h : KP Q P R w) (hm : Mid A B w w') (ho : P ≤ A ∨ B ≤ Q) : KP Q P R w' :=
  ⟨Nat.le_trans h.1 hm.size, fun w2 hs he => h.2 w2 hs (fun b h1 h2 => (he b h1 h2).trans (hm.block b (Nat.lt_of_lt_of_le h2 h.1) (by omega)))⟩
theorem KP.drew {Q P : Nat} {R : World → Prop} {w : World} (h : KP Q P R w) : KP Q P R w.drew := h
theorem kp_ints {Q P : Nat} {w : World} {ad : Option Addr} {zs : List Int} (h : IsInts w ad zs) (hP : P ≤ w.heap.size) (hb : ∀ a, ad = some a → Q ≤ a.block ∧ a.block < P) : KP Q P (fun w' => IsInts w' ad zs) w := by
  refine ⟨hP, fun w' hs he => ?_⟩
  rcases h with h | ⟨b, off, rfl, h2, h3⟩
  · exact .inl h
  · obtain ⟨hb1, hb2⟩ := hb _ rfl
    refine .inr ⟨b, off, rfl, Nat.lt_of_lt_of_le hb2 hs, fun i hi => ?_⟩
    rw [World.cell?_of_block (a := ⟨b, off + i, none⟩) (he b hb1 hb2)]
    exact h3 i hi

end Go.Proofs.Ytglfbhkdmkneoaa

/- Sigma proofs, the program: commits that fit, what is left of a challenge, the form of a proof. -/
namespace Go.Proofs.Ytglfbhkdmkneoaa
open Go.RowKit
set_option linter.unusedVariables false
set_option linter.unusedSimpArgs false

/-! ### A proof in a block -/
theorem B3.drew {w : World} {b : Nat} {x y z : Value} (h : B3 w b x y z) : B3 w.drew b x y z := h
abbrev pv3 (a1 : Option Addr) (n1 c1 : Nat) (a2 : Option Addr) (n2 c2 : Nat) (a3 : Option Addr) (n3 c3 : Nat) : Value := .agg #[.slice a1 n1 c1, .slice a2 n2 c2, .slice a3 n3 c3]
theorem InP.parts {P : Nat} {w : World} {v : Value} {p : PrD} (h : InP P w v p) : ∃ a1 c1 a2 c2 a3 c3, v = pv3 a1 p.c.length c1 a2 p.h.length c2 a3 p.r.length c3 ∧ InI P w (.slice a1 p.c.length c1) p.c ∧ InI P w (.slice a2 p.h.length c2) p.h ∧ InI P w (.slice a3 p.r.length c3) p.r := by
  obtain ⟨x, y, z, rfl, h1, h2, h3⟩ := h
  obtain ⟨a1, c1, rfl⟩ := h1.shape
  obtain ⟨a2, c2, rfl⟩ := h2.shape
  obtain ⟨a3, c3, rfl⟩ := h3.shape
  exact ⟨a1, c1, a2, c2, a3, c3, rfl, h1, h2, h3⟩
theorem InI.dr {P : Nat} {w : World} {v : Value} {zs : List Int} (h : InI P w v zs) : InI P w.drew v zs := h
theorem InS.dr {P : Nat} {w : World} {v : Value} {zs : List (List Int)} (h : InS P w v zs) : InS P w.drew v zs := h

/-! ### The form of a proof -/
theorem nRows_take {ps : List LinD} {p : LinD} {k : Nat} (h : ps.drop k = p :: ps.drop (k + 1)) : nRows (ps.take (k + 1)) = nRows (ps.take k) + p.1.length ∧ nCols (ps.take (k + 1)) = nCols (ps.take k) + wid p.1 := by
  have hk : k < ps.length := by
    rcases Nat.lt_or_ge k ps.length with h1 | h1
    · exact h1
    · rw [List.drop_of_length_le h1] at h; cases h
  rw [List.drop_eq_getElem_cons hk] at h
  rw [List.take_succ_eq_append_getElem hk, ← (List.cons.inj h).1]
  unfold nRows nCols
  simp only [List.map_append, List.sum_append, List.map_cons, List.map_nil, List.sum_cons, List.sum_nil, Nat.add_zero, and_self]
/-- What the loops over a list of linear statements need to know of it. -/
def Fit (ps : List LinD) : Prop := ps.length ≤ 8 ∧ ∀ p ∈ ps, 1 ≤ p.1.length ∧ p.1.length ≤ 8 ∧ 1 ≤ wid p.1 ∧ wid p.1 ≤ 8
theorem Fit.rows {ps : List LinD} (h : Fit ps) : ∀ k, k ≤ ps.length → nRows (ps.take k) ≤ k * 8 ∧ nCols (ps.take k) ≤ k * 8
  | 0, _ => by simp [nRows, nCols]
  | k + 1, hk => by
    have ih := Fit.rows h k (by omega)
    have hd := List.drop_eq_getElem_cons (show k < ps.length by omega)
    have hp := h.2 _ (List.getElem_mem (show k < ps.length by omega))
    have := nRows_take hd
    omega

end Go.Proofs.Ytglfbhkdmkneoaa

/- Sigma proofs, the program: the commits that fit. -/
namespace Go.Proofs.Ytglfbhkdmkneoaa
open Go.RowKit
set_option linter.unusedVariables false
set_option linter.unusedSimpArgs false

theorem IsInts.tail {w : World} {b off : Nat} {zs : List Int} (h : IsInts w (some ⟨b, off, none⟩) zs) (c : Nat) : IsInts w (some ⟨b, off + c, none⟩) (zs.drop c) := by
  rcases h with rfl | ⟨b', off', h1, hb, hc⟩
  · exact .inl (by simp)
  · simp only [Option.some.injEq, Addr.mk.injEq, and_true] at h1
    obtain ⟨rfl, rfl⟩ := h1
    refine .inr ⟨b, off + c, rfl, hb, fun i hi => ?_⟩
    rw [List.length_drop] at hi
    rw [Nat.add_assoc, hc (c + i) (by omega)]
    simp
theorem IsInts.init {w : World} {ad : Option Addr} {zs : List Int} (h : IsInts w ad zs) (c : Nat) : IsInts w ad (zs.take c) := by
  rcases h with rfl | ⟨b', off', rfl, hb, hc⟩
  · exact .inl (by simp)
  · refine .inr ⟨b', off', rfl, hb, fun i hi => ?_⟩
    rw [List.length_take] at hi
    rw [hc i (by omega)]
    congr 2
    simp only [List.getD_eq_getElem?_getD]
    rw [List.getElem?_take_of_lt (by omega)]

/-- The blocks from lo to hi are as they were. -/
def Keep (lo hi : Nat) (w w' : World) : Prop := hi ≤ w'.heap.size ∧ ∀ k, lo ≤ k → k < hi → w'.heap[k]? = w.heap[k]?
theorem Keep.refl (lo : Nat) (w : World) : Keep lo w.heap.size w w := ⟨Nat.le_refl _, fun _ _ _ => rfl⟩
theorem Keep.below {lo hi : Nat} {a w w' : World} (h : Keep lo hi a w) (hb : Below w.heap.size w w') : Keep lo hi a w' :=
  ⟨Nat.le_trans h.1 hb.size, fun k h1 h2 => (hb.block k (Nat.lt_of_lt_of_le h2 h.1)).trans (h.2 k h1 h2)⟩
theorem Keep.cell {lo hi b i : Nat} {w w' : World} {v : Value} (h : Keep lo hi w w') (h1 : lo ≤ b) (h2 : b < hi) (hc : w.cell? ⟨b, i, none⟩ = some v) : w'.cell? ⟨b, i, none⟩ = some v := by
  rw [World.cell?_of_block (a := ⟨b, i, none⟩) (h.2 b h1 h2)]; exact hc
/-- A slice that lies below lo or from hi on. -/
def Off (lo hi : Nat) (va : Option Addr) : Prop := ∀ a, va = some a → a.block < lo ∨ hi ≤ a.block
theorem Keep.grown {lo hi n c : Nat} {a w w' : World} {va : Option Addr} (h : Keep lo hi a w) (ho : Off lo hi va) (hg : w.grownBy w' (Value.slice va n c).ownBlock) : Keep lo hi a w' := by
  refine ⟨Nat.le_trans h.1 hg.size, fun k h1 h2 => (hg.block k (Nat.lt_of_lt_of_le h2 h.1) ?_).trans (h.2 k h1 h2)⟩
  intro he
  cases va with
  | none => simp [Value.ownBlock] at he
  | some x =>
    simp only [Value.ownBlock, Option.some.injEq] at he
    have := ho x rfl
    omega
theorem Off.next {lo hi n c g H : Nat} {va : Option Addr} (h : Off lo hi va) (hat : (Value.slice va n c).ownBlock = some g ∨ g = H) (hH : hi ≤ H) : Off lo hi (some ⟨g, 0, none⟩) := by
  rintro a ⟨⟩
  rcases hat with h1 | h1
  · cases va with
    | none => simp [Value.ownBlock] at h1
    | some x =>
      simp only [Value.ownBlock, Option.some.injEq] at h1
      have := h x rfl
      simp only
      omega
  · simp only; omega
theorem off_own {w : World} {base : Nat} {e : TypeId} {size n c hi m : Nat} {va : Option Addr} {xs : List Value} (h : w.ownsRow base e size (.slice va n c) m xs) : Off w.heap.size hi va := by
  rintro a rfl
  exact .inl (h.lt a.block rfl).2
theorem InI.upto {P : Nat} {w w' : World} {v : Value} {zs : List Int} (h : InI P w v zs) (hb : Below P w w') : InI P w' v zs := h.belowP hb

/-- What the commits need of the linear statements. -/
def Sound (P Q : Int) (ps : List LinD) : Prop := Fit ps ∧ ∀ p ∈ ps, (∀ r ∈ p.1, r.length = wid p.1 ∧ allEl P Q r = true) ∧ p.2.length = p.1.length ∧ allEl P Q p.2 = true
/-- The commits of one linear statement. -/
def zipC (P Q : Int) (p : LinD) (c : Int) (rs : List Int) : List Int := List.zipWith (fun x y => decW P Q y x c) (imgs P p.1 (rs.take (wid p.1))) p.2
theorem cmts_step {P Q e : Int} {ps : List LinD} {q : LinD} {h r : List Int} {k c : Nat} (hd : ps.drop k = q :: ps.drop (k + 1)) (hh : h.drop k = e :: h.drop (k + 1)) :
    cmts P Q (ps.drop k) (h.drop k) (r.drop c) = zipC P Q q e (r.drop c) ++ cmts P Q (ps.drop (k + 1)) (h.drop (k + 1)) (r.drop (c + wid q.1)) := by
  rw [hd, hh]
  show _ ++ cmts P Q _ _ ((r.drop c).drop _) = _
  rw [List.drop_drop]; rfl
theorem zip_take {P Q e : Int} {xs ys : List Int} {x y : Int} {j : Nat} (hx : xs.drop j = x :: xs.drop (j + 1)) (hy : ys.drop j = y :: ys.drop (j + 1)) :
    (List.zipWith (fun x y => decW P Q y x e) xs ys).take (j + 1) = (List.zipWith (fun x y => decW P Q y x e) xs ys).take j ++ [decW P Q y x e] := by
  have hj : j < xs.length := by
    rcases Nat.lt_or_ge j xs.length with h | h
    · exact h
    · rw [List.drop_of_length_le h] at hx; cases hx
  have hj' : j < ys.length := by
    rcases Nat.lt_or_ge j ys.length with h | h
    · exact h
    · rw [List.drop_of_length_le h] at hy; cases hy
  rw [List.drop_eq_getElem_cons hj] at hx
  rw [List.drop_eq_getElem_cons hj'] at hy
  rw [List.take_succ_eq_append_getElem (by simp; omega)]
  simp only [List.getElem_zipWith]
  rw [(List.cons.inj hx).1, (List.cons.inj hy).1]
theorem nCols_all {ps : List LinD} {p : LinD} (h : p ∈ ps) : wid p.1 ≤ nCols ps := by
  induction ps with
  | nil => cases h
  | cons a t ih =>
    unfold nCols at *
    simp only [List.map_cons, List.sum_cons, List.mem_cons] at *
    rcases h with rfl | h
    · omega
    · have := ih h; omega
theorem nCols_split (ps : List LinD) (k : Nat) : nCols (ps.take k) + nCols (ps.drop k) = nCols ps := by
  unfold nCols
  rw [← List.sum_append, ← List.map_append, List.take_append_drop]

end Go.Proofs.Ytglfbhkdmkneoaa

/- Sigma proofs, the program: what is left of a challenge; the verifier; the prover. -/
namespace Go.Proofs.Ytglfbhkdmkneoaa
open Go.RowKit
set_option linter.unusedVariables false
set_option linter.unusedSimpArgs false

theorem ssub_any (q a b : Int) (h2 : 2 ≤ q) (h3 : q ≤ 2000000000) (ha0 : 0 ≤ a) (ha : a < q) (hb0 : 0 ≤ b) (hb : b < q) (w : World) :
    Calls Try.prog 85 #[.int .i64 q, .int .i64 a, .int .i64 b] w fun e w' => e = .returned (.int .i64 ((a - b) % q)) ∧ w = w' := by
  go_enter Try.func85, Try.ntmps85
  go_wp2
  go_ret
  refine ⟨?_, rfl⟩
  show Ending.returned (.int .i64 ((a - b + q) % q)) = _
  rw [Int.add_emod_right]
theorem subF_step {Q e t : Int} {cs rest : List Int} {c : Int} {k : Nat} (h : cs.drop k = c :: rest) (ht : t = subF Q e (cs.drop k)) : t = subF Q ((e - c) % Q) rest := by
  rw [ht, h, ← Int.add_emod_right]; rfl

theorem InE.dr {P : Nat} {w : World} {v : Value} {zs : List Int} (h : InE P w v zs) : InE P w.drew v zs := h
/-- What is left of a challenge, if there is one. -/
def msV (P Q G : Int) (s : ByteArray) (els cm ch : List Int) : Int := if chB P Q G s (els ++ cm) 3 then subF Q (chX P Q G s (els ++ cm)) ch else 0
def EqOut (v : Value) (w : World) (e : Ending) (w' : World) : Prop := e = .returned v ∧ Below w.heap.size w w'

theorem rows_pair {B C : Nat} {w : World} {x y : Value} {a b : List Int} (hx : InI B w x a) (hy : InI C w y b) (t : TypeId) : InS (w.alloc (.cells #[x, y] t)).heap.size (w.alloc (.cells #[x, y] t)) (.slice (some ⟨w.heap.size, 0, none⟩) 2 2) [a, b] := by
  have hb := ba w (.cells #[x, y] t)
  have h1 := hx.below hb
  have h2 := hy.below hb
  refine ⟨Nat.le_refl _, some ⟨w.heap.size, 0, none⟩, 2, rfl, (fun h => by cases h), .inr ⟨w.heap.size, 0, rfl, by simp, by simp, fun i z hz => ?_⟩⟩
  match i, hz with
  | 0, hz =>
    simp only [List.getElem?_cons_zero, Option.some.injEq] at hz; subst hz
    exact ⟨x, cell_here _ _ _ rfl _ _ _ rfl, h1.wide h1.le (Nat.le_refl _)⟩
  | 1, hz =>
    simp only [List.getElem?_cons_succ, List.getElem?_cons_zero, Option.some.injEq] at hz; subst hz
    exact ⟨y, cell_here _ _ _ rfl _ _ _ rfl, h2.wide h2.le (Nat.le_refl _)⟩
theorem concatRows_any {B : Nat} {v : Value} {w : World} {a b : List Int} (hl : a.length + b.length ≤ 4000000) (h0 : 0 < a.length) (hz : InS B w v [a, b]) :
    Calls Try.prog 127 #[v] w (OwnI w (a ++ b)) := by
  have h := concat_any (rows := [a, b]) (by simp) (by simp only [nS_cons]; simp [nS]; omega) (by simp only [nS_cons]; simp [nS]; omega) hz
  rwa [show [a, b].flatten = a ++ b by simp] at h

end Go.Proofs.Ytglfbhkdmkneoaa

/- Sigma proofs, the program: the challenge that is missing. -/
namespace Go.Proofs.Ytglfbhkdmkneoaa
open Go.RowKit
set_option linter.unusedVariables false
set_option linter.unusedSimpArgs false

end Go.Proofs.Ytglfbhkdmkneoaa

