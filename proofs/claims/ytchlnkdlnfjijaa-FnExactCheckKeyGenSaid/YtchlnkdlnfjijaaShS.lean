/- Lists of dealings: how the laws measure them. -/
import Derived.Test.YtchlnkdlnfjijaaShT
import Derived.Deep.RegionHeld3
import Derived.Deep.SlicePairs
import Derived.Test.YtchlnkdlnfjijaaShA
import Derived.Test.YtchlnkdlnfjijaaBas
import Derived.Lib.SliceRun
namespace Go.Proofs.Ytchlnkdlnfjijaa
open Go.RowKit
set_option linter.unusedVariables false
set_option linter.unusedSimpArgs false

/-- A list of dealings: the k-th lies in cells 2k, 2k + 1 of its row. -/
def InDs (P : Nat) (w : World) (v : Value) (ds : List DlD) : Prop := P ≤ w.heap.size ∧ ∃ ad cap, v = .slice ad ds.length cap ∧ ((ad = none → cap = 0) ∧ ds.length ≤ cap) ∧
  (ds = [] ∨ ∃ b off, ad = some ⟨b, off, none⟩ ∧ b < P ∧ b < w.heap.size ∧ ∀ (i : Nat) d, ds[i]? = some d → ∃ x y, w.cell? ⟨b, off + i * 2, none⟩ = some x ∧ w.cell? ⟨b, off + i * 2 + 1, none⟩ = some y ∧ InI P w x d.c ∧ InI P w y d.s)
theorem InDs.belowP {P : Nat} {w w' : World} {v : Value} {ds : List DlD} (h : InDs P w v ds) (hb : Below P w w') : InDs P w' v ds := by
  obtain ⟨h0, ad, cap, rfl, h1, h2⟩ := h
  refine ⟨Nat.le_trans h0 hb.size, ad, cap, rfl, h1, ?_⟩
  rcases h2 with h2 | ⟨b, off, h2, h3, h4, h5⟩
  · exact .inl h2
  · refine .inr ⟨b, off, h2, h3, Nat.lt_of_lt_of_le h4 hb.size, fun i d hd => ?_⟩
    obtain ⟨x, y, hx, hy, hi, hj⟩ := h5 i d hd
    exact ⟨x, y, by rw [hb.cell (p := ⟨b, off + i * 2, none⟩) h3]; exact hx, by rw [hb.cell (p := ⟨b, off + i * 2 + 1, none⟩) h3]; exact hy, hi.belowP hb, hj.belowP hb⟩
theorem InDs.below {P : Nat} {w w' : World} {v : Value} {ds : List DlD} (h : InDs P w v ds) (hb : Below w.heap.size w w') : InDs P w' v ds := h.belowP (hb.mono h.1)
theorem InDs.mid {P A B : Nat} {w w' : World} {v : Value} {ds : List DlD} (h : InDs P w v ds) (hm : Mid A B w w') (hA : P ≤ A) : InDs P w' v ds := h.belowP (hm.toBelow hA h.1)
theorem InDs.shape {P : Nat} {w : World} {v : Value} {ds : List DlD} (h : InDs P w v ds) : ∃ ad cap, v = .slice ad ds.length cap := by
  obtain ⟨_, ad, cap, h, _⟩ := h
  exact ⟨ad, cap, h⟩
theorem InDs.le {P : Nat} {w : World} {v : Value} {ds : List DlD} (h : InDs P w v ds) : P ≤ w.heap.size := h.1
/-- The k-th dealing. -/
theorem InDs.at {P : Nat} {w : World} {ad : Option Addr} {n cap : Nat} {ds : List DlD} (h : InDs P w (.slice ad n cap) ds) {k : Nat} (hk : k < ds.length) :
    ∃ b off x y d, ad = some ⟨b, off, none⟩ ∧ b < w.heap.size ∧ w.cell? ⟨b, off + k * 2, none⟩ = some x ∧ w.cell? ⟨b, off + k * 2 + 1, none⟩ = some y ∧ InI P w x d.c ∧ InI P w y d.s ∧ ds.drop k = d :: ds.drop (k + 1) := by
  obtain ⟨h0, ad', cap', h1, h2, h3⟩ := h
  simp only [Value.slice.injEq] at h1
  obtain ⟨rfl, _, rfl⟩ := h1
  rcases h3 with rfl | ⟨b, off, h4, h5, h6, h7⟩
  · simp at hk
  · obtain ⟨x, y, hx, hy, hi, hj⟩ := h7 k ds[k] (by simp [hk])
    exact ⟨b, off, x, y, ds[k], h4, h6, hx, hy, hi, hj, List.drop_eq_getElem_cons hk⟩

def nDs (ds : List DlD) : Nat := (ds.map DlD.n).sum
theorem nDs_cons (d : DlD) (ds : List DlD) : nDs (d :: ds) = d.n + nDs ds := by simp [nDs]
theorem nDs_append (a b : List DlD) : nDs (a ++ b) = nDs a + nDs b := by simp [nDs]
theorem nDs_drop (ds : List DlD) (j : Nat) : nDs (ds.take j) + nDs (ds.drop j) = nDs ds := by rw [← nDs_append, List.take_append_drop]
theorem nDs_take {ds : List DlD} {j : Nat} {d : DlD} {rest : List DlD} (h : ds.drop j = d :: rest) : nDs (ds.take (j + 1)) = nDs (ds.take j) + d.n ∧ ds.take (j + 1) = ds.take j ++ [d] := by
  have hj : j < ds.length := by
    rcases Nat.lt_or_ge j ds.length with h' | h'
    · exact h'
    · rw [List.drop_of_length_le h'] at h; cases h
  have hz : ds[j] = d := by rw [List.drop_eq_getElem_cons hj] at h; exact (List.cons.inj h).1
  have e : ds.take (j + 1) = ds.take j ++ [d] := by rw [List.take_succ_eq_append_getElem hj, hz]
  rw [e]
  exact ⟨by rw [nDs_append]; simp [nDs], rfl⟩

set_option maxRecDepth 100000 in
set_option maxHeartbeats 1600000 in
theorem szDs_any {P : Nat} {w : World} {v : Value} {ds : List DlD} {left : Int} (h : InDs P w v ds) (h0 : 0 ≤ left) (h1 : left ≤ 1048576) (hl : ds.length ≤ maxLen) (hr : ∀ d ∈ ds, d.c.length ≤ maxLen ∧ d.s.length ≤ maxLen) :
    Calls Try.prog 24 #[v, .int .i64 left] w fun e w' => e = .returned (.int .i64 (szV (ds.length + nDs ds) left)) ∧ Below w.heap.size w w' := by
  obtain ⟨ad, cap, rfl⟩ := h.shape
  have HR := Lib.hid hr
  generalize hn : ds.length = n at h
  have HN := Lib.hid hn
  have hl' : n ≤ 9223372036854775807 := by unfold maxLen at hl; omega
  have H := Lib.hid h
  clear hl hr hn h
  by_cases hq : (n : Int) ≤ left
  · go_enter Try.func24, Try.ntmps24
    go_wp2_with fail
    go_loopw [1, 5] (fun A J wr => ∃ (j : Nat), j ≤ n ∧ (n : Int) + (nDs (ds.take j) : Int) ≤ left ∧ A = .int .i64 (left - n - (nDs (ds.take j) : Int)) ∧ J = .int .i64 j ∧ Below w.heap.size w wr) (fun _ J _ => n - (intOf J).toNat)
    case atStart => exact ⟨0, Nat.zero_le _, by simp [nDs]; omega, by simp [nDs], rfl, Below.refl _ _⟩
    case round =>
      obtain ⟨j, hj, hjl, rfl, rfl, hbel⟩ := hrel
      have HBr := Lib.hid hbel
      clear hbel
      by_cases hjn : j < n
      · obtain ⟨b, off, x, y, d, rfl, hb, hx, hy, hin, hjn2, hd⟩ := (H.out.below HBr.out).at (k := j) (by have := HN.out; omega)
        obtain ⟨hm1, hm2⟩ := HR.out d (List.mem_of_mem_drop (i := j) (by rw [hd]; simp))
        have HT := Lib.hid (nDs_take hd)
        have HI := Lib.hid (show InD P wr (.agg #[x, y]) d from ⟨x, y, rfl, hin, hjn2⟩)
        have hzt : nDs (ds.take j) + d.n ≤ nDs ds := by
          have := nDs_drop ds j
          rw [hd, nDs_cons] at this
          omega
        by_cases hz : (d.n : Int) ≤ left - n - (nDs (ds.take j) : Int)
        · have e1 : szV d.n (left - n - (nDs (ds.take j) : Int)) = left - n - (nDs (ds.take j) : Int) - d.n := by simp [szV, hz]
          have E1 := Lib.hid e1
          clear hd hin hjn2 e1 hzt
          go_wp2_with fail
          refine (szD_any HI.out (by omega) (by omega) hm1 hm2).mono ?_
          rw [E1.out]
          rintro e w' ⟨rfl, hb9⟩
          have HB9 := Lib.hid (bt HBr.out hb9)
          clear hb9 hx hy
          go_wp2
          go_roundw
          case rel =>
            refine ⟨j + 1, by omega, ?_, ?_, by go_num, HB9.out⟩
            · rw [HT.out.1]; omega
            · rw [HT.out.1]; congr 1; omega
          case measure => simp only [intOf]; omega
        · have e1 : szV d.n (left - n - (nDs (ds.take j) : Int)) = -1 := by simp [szV, hz]
          have e2 : szV (n + nDs ds) left = -1 := by unfold szV; rw [if_neg (by omega)]
          have E1 := Lib.hid e1
          have E2 := Lib.hid e2
          clear hd hin hjn2 e1 e2 hzt
          go_wp2_with fail
          refine (szD_any HI.out (by omega) (by omega) hm1 hm2).mono ?_
          rw [E1.out]
          rintro e w' ⟨rfl, hb9⟩
          have HB9 := Lib.hid (bt HBr.out hb9)
          clear hb9 hx hy
          go_wp2
          go_ret
          exact ⟨by rw [E2.out]; rfl, HB9.out⟩
      · obtain rfl : j = n := by omega
        go_wp2
        go_ret
        refine ⟨ret_int ?_, HBr.out⟩
        rw [List.take_of_length_le (by have := HN.out; omega)] at hjl ⊢
        unfold szV; rw [if_pos (by omega)]; omega
  · have e2 : szV (n + nDs ds) left = -1 := by unfold szV; rw [if_neg (by omega)]
    rw [e2]
    clear e2
    go_enter Try.func24, Try.ntmps24
    go_wp2
    go_ret
    exact ⟨rfl, Below.refl _ _⟩

/-! ### A list of one's own: its lists one after another -/
def flatD : List DlD → List (List Int)
  | [] => []
  | d :: ds => d.c :: d.s :: flatD ds
theorem flatD_append : ∀ a b : List DlD, flatD (a ++ b) = flatD a ++ flatD b
  | [], b => rfl
  | d :: a, b => by simp [flatD, flatD_append a b]
theorem flatD_length : ∀ ds : List DlD, (flatD ds).length = ds.length * 2
  | [] => rfl
  | d :: ds => by simp [flatD, flatD_length ds]; omega
theorem nS_flatD : ∀ ds : List DlD, nS (flatD ds) = nDs ds
  | [] => rfl
  | d :: ds => by simp only [flatD, nS_cons, nDs_cons, nS_flatD ds, DlD.n]; omega
theorem flatD_get : ∀ {ds : List DlD} {i : Nat} {d : DlD}, ds[i]? = some d → (flatD ds)[i * 2]? = some d.c ∧ (flatD ds)[i * 2 + 1]? = some d.s
  | [], i, d, h => by simp at h
  | e :: ds, 0, d, h => by simp at h; subst h; simp [flatD]
  | e :: ds, i + 1, d, h => by
    simp at h
    have := flatD_get h
    rw [show (i + 1) * 2 = i * 2 + 2 by omega]
    simpa [flatD] using this
def OwDs (Q P : Nat) (w : World) (v : Value) (zss : List (List Int)) : Prop := ∃ M vs n, zss.length = n * 2 ∧ OwR 42 2 Q M w v n vs ∧ ChI P w M vs zss
theorem OwDs.below {Q P : Nat} {w w' : World} {v : Value} {zss : List (List Int)} (h : OwDs Q P w v zss) (hb : Below w.heap.size w w') : OwDs Q P w' v zss := by
  obtain ⟨M, vs, n, hn, h1, h2⟩ := h
  exact ⟨M, vs, n, hn, h1.below hb, h2.below hb⟩
theorem OwDs.mid {Q P A B : Nat} {w w' : World} {v : Value} {zss : List (List Int)} (h : OwDs Q P w v zss) (hm : Mid A B w w') (ho : P ≤ A ∨ B ≤ Q) : OwDs Q P w' v zss := by
  obtain ⟨M, vs, n, hn, h1, h2⟩ := h
  have l := h2.le
  have q := h1.2.2.2
  exact ⟨M, vs, n, hn, h1.mid hm (by omega), h2.mid hm (by omega)⟩
theorem OwDs.le {Q P : Nat} {w : World} {v : Value} {zss : List (List Int)} (h : OwDs Q P w v zss) : P ≤ w.heap.size := by
  obtain ⟨M, vs, n, hn, h1, h2⟩ := h
  exact h2.le.2
theorem own_capD {w : World} {B : Nat} {e : TypeId} {size n vc m : Nat} {va : Option Addr} {xs : List Value} (h : w.ownsRow B e size (.slice va n vc) m xs) : m ≤ vc := by
  rcases h.2 with ⟨h1, h2⟩ | ⟨g, cap, cur, h1, _, _, h3, _⟩
  · omega
  · simp only [Value.slice.injEq] at h1
    obtain ⟨_, _, rfl⟩ := h1
    first | exact h3 | omega
theorem InDs.cap {P : Nat} {w : World} {ad : Option Addr} {n cap : Nat} {ds : List DlD} (h : InDs P w (.slice ad n cap) ds) : ds.length ≤ cap := by
  obtain ⟨_, ad', cap', h1, h2, _⟩ := h
  simp only [Value.slice.injEq] at h1
  obtain ⟨_, _, rfl⟩ := h1
  exact h2.2
theorem OwDs.toIn {Q P : Nat} {w : World} {v : Value} {ds : List DlD} (h : OwDs Q P w v (flatD ds)) : InDs P w v ds := by
  obtain ⟨M, vs, n, hn, ⟨h1, h2, h3, h4⟩, hc⟩ := h
  rw [flatD_length] at hn
  obtain rfl : ds.length = n := by omega
  have l := hc.le
  refine ⟨l.2, ?_⟩
  rcases h1.2 with ⟨rfl, hn⟩ | ⟨g, cap, cur, rfl, hb, hg, _⟩
  · exact ⟨none, 0, by rw [hn], ⟨fun _ => rfl, by omega⟩, .inl (List.length_eq_zero_iff.1 hn)⟩
  · refine ⟨some ⟨g, 0, none⟩, cap, rfl, ⟨(fun h => by cases h), own_capD h1⟩, .inr ⟨g, 0, rfl, Nat.lt_of_lt_of_le (h2 g rfl) l.1, Nat.lt_of_lt_of_le (h2 g rfl) h3, fun i d hd => ?_⟩⟩
    obtain ⟨e1, e2⟩ := flatD_get hd
    obtain ⟨x, hx, hi⟩ := hc.get _ _ e1
    obtain ⟨y, hy, hj⟩ := hc.get _ _ e2
    have ha : ∀ j, (⟨g, 0, none⟩ : Addr).add j = ⟨g, 0 + j, none⟩ := by
      intro j
      unfold Addr.add; split
      · subst_vars; rfl
      · rfl
    have c1 := h1.cells (g := g) rfl (i * 2) x hx
    have c2 := h1.cells (g := g) rfl (i * 2 + 1) y hy
    rw [ha] at c1 c2
    exact ⟨x, y, c1, by rwa [Nat.add_assoc], hi, hj⟩
def MadeDs (w : World) (ds : List DlD) (e : Ending) (w' : World) : Prop := ∃ v, e = .returned v ∧ OwDs w.heap.size w'.heap.size w' v (flatD ds) ∧ Below w.heap.size w w'
theorem made_twoD (z : Value) (m : Nat) : (madeCells #[z, z] m).toList = List.replicate m z := by
  rw [List.eq_replicate_iff]
  refine ⟨by simp [madeCells], ?_⟩
  intro v hv
  simp [madeCells] at hv
  obtain ⟨i, _, rfl⟩ := hv
  have : i % 2 = 0 ∨ i % 2 = 1 := by omega
  rcases this with h | h <;> simp [h]
theorem Try.infoDD : (Try.prog.info? 42).map (fun i => (i.zero, i.size, i.bytes)) = some (some (.agg #[.slice none 0 0, .slice none 0 0]), 2, 48) := by kernel_rfl
theorem rowMix_cellD {wr : World} {B g n k m : Nat} {vs : List Value} (hown : wr.ownsRow B 42 2 (.slice (some ⟨g, 0, none⟩) n n) n (rowMix vs m)) (hk : vs.length ≤ k) (hn : k < m) :
    wr.cell? ⟨g, k, none⟩ = some (.slice none 0 0) ∧ wr.frozen? ⟨g, k, none⟩ = false := by
  refine ⟨?_, hown.frozenAt k⟩
  have hx : (rowMix vs m)[k]? = some (.slice none 0 0) := by
    unfold rowMix
    rw [List.getElem?_append_right (by omega), List.getElem?_replicate, if_pos (by omega)]
  have := hown.cells (g := g) rfl k (.slice none 0 0) hx
  have e1 : (⟨g, 0, none⟩ : Addr).add k = ⟨g, k, none⟩ := by unfold Addr.add; split <;> simp_all
  rwa [e1] at this

set_option maxRecDepth 100000 in
set_option maxHeartbeats 1600000 in
theorem toDs_any {P : Nat} {w : World} {v : Value} {ds : List DlD} (h : InDs P w v ds) (hl : ds.length ≤ 1048576) (hr : nDs ds ≤ 17592186044416) :
    Calls Try.prog 27 #[v] w (MadeDs w ds) := by
  obtain ⟨ad, cap, rfl⟩ := h.shape
  obtain ⟨i0, hi, hz0, hz1, hz2⟩ := info_parts Try.infoDD
  have HZ2 := Lib.hid hz2
  have HR := Lib.hid hr
  generalize hn : ds.length = n at h
  have HN := Lib.hid hn
  have hl' : n ≤ 1048576 := by omega
  have H := Lib.hid h
  clear hz2 hl hr hn h
  go_enter Try.func27, Try.ntmps27
  go_wp2_with (at_make; refine wpList_make_full _ rfl _ _ 25 rfl w.heap.size 42 i0 (.agg #[.slice none 0 0, .slice none 0 0]) 2 Try.underlying25 hi hz0 hz1 .i64 .i64 _ _ n rfl rfl rfl rfl (by rw [HZ2.out]; omega) (by unfold maxLen; omega) (Nat.le_refl _) ?_; intro w1 hown hgrow)
  go_loopw [4] (fun K wr => ∃ (k : Nat) (vs : List Value), k ≤ n ∧ K = .int .i64 k ∧ vs.length = k * 2 ∧ wr.ownsRow w.heap.size 42 2 (.slice (some ⟨w.heap.size, 0, none⟩) n n) n (rowMix vs (n * 2)) ∧ ChI wr.heap.size wr (w.heap.size + 1) vs (flatD (ds.take k)) ∧ Below w.heap.size w wr) (fun K _ => n - (intOf K).toNat)
  case atStart =>
    have hb := (Below.refl w.heap.size w).grown hgrow (Nat.le_refl _) (by simp)
    refine ⟨0, [], Nat.zero_le _, rfl, rfl, ?_, ⟨?_, Nat.le_refl _⟩, hb⟩
    · have h := hown
      rw [show Value.cells (.agg #[.slice none 0 0, .slice none 0 0]) = #[.slice none 0 0, .slice none 0 0] from rfl, made_twoD] at h
      simpa [rowMix] using h
    · exact (hown.lt w.heap.size rfl).2
  case round =>
    obtain ⟨k, vs, hk, rfl, hvs, hownr, hch, hbel⟩ := hrel
    clear hown hgrow
    by_cases hkn : k < n
    · obtain ⟨b, off, x, y, d, rfl, hb, hx, hy, hin, hjn, hd⟩ := (H.out.below hbel).at (k := k) (by have := HN.out; omega)
      have hzl : d.n ≤ 17592186044416 := by
        have := nDs_drop ds k
        rw [hd, nDs_cons] at this
        have := HR.out
        omega
      have HO := Lib.hid hownr
      have HC := Lib.hid hch
      have HB := Lib.hid hbel
      have HD := Lib.hid (show flatD (ds.take (k + 1)) = (flatD (ds.take k) ++ [d.c]) ++ [d.s] by rw [(nDs_take hd).2, flatD_append]; simp [flatD])
      have HV := Lib.hid hvs
      have HI := Lib.hid (show InD P wr (.agg #[x, y]) d from ⟨x, y, rfl, hin, hjn⟩)
      clear hownr hch hbel hd hvs hin hjn
      go_wp2_with fail
      refine (toD_any HI.out hzl).mono ?_
      rintro e w2 ⟨v2, rfl, ho2, hb2⟩
      obtain ⟨va, vb, M, rfl, ho3, ho4⟩ := ho2
      obtain ⟨p1, p2, rfl⟩ := own_shape ho3.1
      obtain ⟨r1, r2, rfl⟩ := own_shape ho4.1
      generalize hva : Value.slice p1 d.c.length p2 = va at ho3
      generalize hvb : Value.slice r1 d.s.length r2 = vb at ho4
      have HO2 := Lib.hid (own_below HO.out hb2)
      obtain ⟨d1, d2⟩ := rowMix_cellD (k := k * 2) HO2.out (by have := HV.out; omega) (by omega)
      obtain ⟨d3, d4⟩ := rowMix_cellD (k := k * 2 + 1) HO2.out (by have := HV.out; omega) (by omega)
      have HC2 := Lib.hid (((HC.out.below hb2).snoc ho3).snoc ho4)
      have HB2 := Lib.hid (HB.out.trans (hb2.mono HB.out.size))
      have HS1 := Lib.hid (HO2.out.stored (k * 2) va).1
      rw [rowMix_set HV.out (by omega)] at HS1
      have d5 : (w2.setCell ⟨w.heap.size, k * 2, none⟩ va).cell? ⟨w.heap.size, k * 2 + 1, none⟩ = some (.slice none 0 0) := by rw [World.cell?_setCell_other _ _ _ _ (by simp)]; exact d3
      have d6 : (w2.setCell ⟨w.heap.size, k * 2, none⟩ va).frozen? ⟨w.heap.size, k * 2 + 1, none⟩ = false := by rw [World.frozen?_setCell]; exact d4
      have HS2 := Lib.hid (HS1.out.stored (k * 2 + 1) vb).1
      rw [rowMix_set (by simp [HV.out]) (by omega)] at HS2
      have HM1 := Lib.hid (HC2.out.mid (mid_cell w2 w.heap.size (k * 2) va) (.inr (Nat.le_refl _)))
      have HM2 := Lib.hid (HM1.out.mid (mid_cell _ w.heap.size (k * 2 + 1) vb) (.inr (Nat.le_refl _)))
      clear hb2 ho3 ho4 hx hy
      subst hva hvb
      go_wp2
      go_roundw
      case rel =>
        refine ⟨k + 1, (vs ++ [_]) ++ [_], by omega, by go_num, by have := HV.out; simp [this]; omega, HS2.out, ?_, (HB2.out.setCell (Nat.le_refl _) _).setCell (Nat.le_refl _) _⟩
        rw [HD.out]
        exact HM2.out.wide (by simp) (Nat.le_refl _)
      case measure => simp only [intOf]; omega
    · have HO := Lib.hid hownr
      have HC := Lib.hid hch
      have HB := Lib.hid hbel
      have HV := Lib.hid hvs
      clear hownr hch hbel hvs
      obtain rfl : k = n := by omega
      go_wp2
      go_ret
      refine ⟨_, rfl, ⟨w.heap.size + 1, vs, k, by rw [flatD_length, HN.out], ?_, ?_⟩, HB.out⟩
      · have h := HO.out
        unfold rowMix at h
        rw [HV.out] at h
        simp only [Nat.sub_self, List.replicate_zero, List.append_nil] at h
        refine ⟨h, ?_, (HC.out.le).1, Nat.le_succ _⟩
        rintro g ⟨⟩
        exact Nat.lt_succ_self _
      · have h := HC.out
        rwa [List.take_of_length_le (by have := HN.out; omega)] at h

theorem owR_cell {w : World} {Q M n cap j : Nat} {ad : Option Addr} {vs : List Value} {u : Value} (h : OwR 42 2 Q M w (.slice ad n cap) n vs) (hn : 0 < n) (hj : vs[j]? = some u) : ∃ b, ad = some ⟨b, 0, none⟩ ∧ w.cell? ⟨b, j, none⟩ = some u := by
  rcases h.1.2 with ⟨_, h0⟩ | ⟨g, cap', cur, h1, _⟩
  · omega
  · simp only [Value.slice.injEq] at h1
    obtain ⟨rfl, _, rfl⟩ := h1
    have := h.1.cells (g := g) rfl j u hj
    have e1 : (⟨g, 0, none⟩ : Addr).add j = ⟨g, j, none⟩ := by unfold Addr.add; split <;> simp_all
    exact ⟨g, rfl, by rwa [e1] at this⟩
theorem owR_cellB {w : World} {Q M n cap j b : Nat} {vs : List Value} {u : Value} (h : OwR 42 2 Q M w (.slice (some ⟨b, 0, none⟩) n cap) n vs) (hn : 0 < n) (hj : vs[j]? = some u) : w.cell? ⟨b, j, none⟩ = some u := by
  obtain ⟨b', e, hc⟩ := owR_cell h hn hj
  simp only [Option.some.injEq, Addr.mk.injEq, and_true] at e
  subst e; exact hc
def MarkDs (Q P : Nat) (w : World) (v : Value) (zss : List (List Int)) (k : Int) (e : Ending) (w' : World) : Prop := e = .returned (.int .i64 (k + (nS zss : Int))) ∧ OwDs Q P w' v (mkS k zss) ∧ Mid Q P w w'
set_option maxRecDepth 100000 in
set_option maxHeartbeats 1600000 in
theorem markDs_any {Q P : Nat} {w : World} {v : Value} {zss : List (List Int)} {k : Int} (h : OwDs Q P w v zss) (hk0 : 0 ≤ k) (hk1 : k ≤ 8796093022208) (hl : zss.length ≤ 4194304) (hr : nS zss ≤ 8796093022208) :
    Calls Try.prog 31 #[v, .int .i64 k] w (MarkDs Q P w v zss k) := by
  obtain ⟨M, vs, n, hn, hown, hch⟩ := h
  obtain ⟨ad, cap, rfl⟩ := own_shape hown.1
  have hlen := hch.len
  have hle := hch.le
  have HLE := Lib.hid hle
  have HL := Lib.hid hlen
  have HN := Lib.hid hn
  have HR := Lib.hid hr
  have HQM := Lib.hid hown.2.2.2
  have hl' : n * 2 ≤ 4194304 := by omega
  have HO := Lib.hid hown
  have HC := Lib.hid hch
  clear hl hr hn hown hch hlen hle
  go_enter Try.func31, Try.ntmps31
  go_wp2
  go_loopw [1, 5] (fun A J wr => ∃ (j R : Nat), j ≤ n ∧ A = .int .i64 (k + (nS (zss.take (j * 2)) : Int)) ∧ J = .int .i64 j ∧ OwR 42 2 Q M wr (.slice ad n cap) n vs ∧ ChI R wr M (vs.take (j * 2)) (mkS k (zss.take (j * 2))) ∧ ChI P wr R (vs.drop (j * 2)) (zss.drop (j * 2)) ∧ Mid Q P w wr) (fun _ J _ => n - (intOf J).toNat)
  case atStart => exact ⟨0, M, Nat.zero_le _, by simp [nS], rfl, HO.out, ⟨Nat.le_refl _, Nat.le_trans HLE.out.1 HLE.out.2⟩, HC.out, Mid.refl _ _ _⟩
  case round =>
    obtain ⟨j, R, hj, rfl, rfl, hown, hc1, hc2, hm⟩ := hrel
    by_cases hjn : j < n
    · have hjv : j * 2 < vs.length := by have := HL.out; have := HN.out; omega
      have hjz : j * 2 < zss.length := by have := HN.out; omega
      have hjv' : j * 2 + 1 < vs.length := by have := HL.out; have := HN.out; omega
      have hjz' : j * 2 + 1 < zss.length := by have := HN.out; omega
      have hdv := List.drop_eq_getElem_cons hjv
      have hdz := List.drop_eq_getElem_cons hjz
      have hdv' := List.drop_eq_getElem_cons hjv'
      have hdz' := List.drop_eq_getElem_cons hjz'
      obtain ⟨b, rfl, hc⟩ := owR_cell hown (by omega) (List.getElem?_eq_getElem hjv)
      have hc' := owR_cellB hown (by omega) (List.getElem?_eq_getElem hjv')
      generalize hvj : vs[j * 2] = u at hdv hc
      generalize hzj : zss[j * 2] = z at hdz
      generalize hvj' : vs[j * 2 + 1] = u' at hdv' hc'
      generalize hzj' : zss[j * 2 + 1] = z' at hdz'
      have HT := Lib.hid (mkS_take zss k hdz)
      have HT' := Lib.hid (mkS_take zss k hdz')
      have hzs' := nS_le (show z' ∈ zss from List.mem_of_mem_drop (i := j * 2 + 1) (by rw [hdz']; simp))
      have hzs := nS_le (show z ∈ zss from List.mem_of_mem_drop (i := j * 2) (by rw [hdz]; simp))
      have hzt := nS_drop zss (j * 2)
      have hzt' := nS_drop zss (j * 2 + 1)
      rw [hdz'] at hdz
      rw [hdv'] at hdv
      rw [hdv, hdz] at hc2
      obtain ⟨R', ho, R2, ho', hc3⟩ := hc2
      obtain ⟨a, c, rfl⟩ := own_shape ho.1
      obtain ⟨a', c', rfl⟩ := own_shape ho'.1
      have hzb : nS (zss.take (j * 2)) ≤ 8796093022208 ∧ z.length ≤ 8796093022208 ∧ z'.length ≤ 8796093022208 := by have := HR.out; omega
      obtain ⟨hzb1, hzb2, hzb3⟩ := hzb
      have hzb4 : nS (zss.take (j * 2 + 1)) ≤ 8796093022208 := by have := HR.out; omega
      have hz9 : k + (nS (zss.take (j * 2)) : Int) + (z.length : Int) = k + (nS (zss.take (j * 2 + 1)) : Int) := by rw [HT.out.2.1]; omega
      have hR := hc1.le
      have hR' := hc3.le
      have hRR := ho.2.2.2
      have hRR' := ho'.2.2.2
      have HVT := Lib.hid (show vs.take (j * 2 + 1) = vs.take (j * 2) ++ [.slice a z.length c] by rw [List.take_succ_eq_append_getElem hjv, hvj])
      have HVT' := Lib.hid (show vs.take (j * 2 + 1 + 1) = vs.take (j * 2 + 1) ++ [.slice a' z'.length c'] by rw [List.take_succ_eq_append_getElem hjv', hvj'])
      have HVJ := Lib.hid (show vs[j * 2 + 1]? = some (.slice a' z'.length c') by rw [List.getElem?_eq_getElem hjv', hvj'])
      have HOr := Lib.hid hown
      have H1 := Lib.hid hc1
      have H3 := Lib.hid hc3
      have HOZ := Lib.hid ho
      have HOZ' := Lib.hid ho'
      have HM := Lib.hid hm
      have HZ9 := Lib.hid hz9
      have HLE2 := Lib.hid (And.intro hR (And.intro hR' (And.intro hRR hRR')))
      clear hdv hdz hvj hzj hdv' hdz' hvj' hzj' hzs hzt hzs' hzt' hown hc1 hc3 ho ho' hm hjv hjz hjv' hjz' hR hR' hRR hRR' hz9
      go_wp2_with fail
      refine (markI_any HOZ.out (by omega) (by omega) (by omega)).mono ?_
      rintro e w2 ⟨he, ho2, hm2⟩
      rw [HZ9.out] at he
      subst he
      have HOr2 := Lib.hid (HOr.out.mid hm2 (.inl HLE2.out.1.1))
      have H12 := Lib.hid ((H1.out.mid hm2 (.inl (Nat.le_refl _))).snoc ho2)
      have HZ2 := Lib.hid (HOZ'.out.mid hm2 (.inr (Nat.le_refl _)))
      have H32 := Lib.hid (H3.out.mid hm2 (.inr HLE2.out.2.2.2))
      have HM2 := Lib.hid (HM.out.trans (hm2.wide (Nat.le_trans HQM.out HLE2.out.1.1) (Nat.le_trans HLE2.out.2.2.2 HLE2.out.2.1.1)))
      have hc2 := owR_cellB HOr2.out (by omega) HVJ.out
      clear hm2 ho2 hc hc'
      go_wp2_with fail
      refine (markI_any HZ2.out (by omega) (by omega) (by omega)).mono ?_
      rintro e w3 ⟨rfl, ho3, hm3⟩
      have HOr3 := Lib.hid (HOr2.out.mid hm3 (.inl (Nat.le_trans HLE2.out.1.1 HLE2.out.2.2.1)))
      have H13 := Lib.hid ((H12.out.mid hm3 (.inl (Nat.le_refl _))).snoc ho3)
      have H33 := Lib.hid (H32.out.mid hm3 (.inr (Nat.le_refl _)))
      have HM3 := Lib.hid (HM2.out.trans (hm3.wide (Nat.le_trans HQM.out (Nat.le_trans HLE2.out.1.1 HLE2.out.2.2.1)) HLE2.out.2.1.1))
      clear hm3 ho3 hc2
      go_wp2
      go_roundw
      case rel =>
        refine ⟨j + 1, R2, by omega, ?_, by go_num, HOr3.out, ?_, ?_, HM3.out⟩
        · rw [show (j + 1) * 2 = j * 2 + 1 + 1 by omega, HT'.out.2.1]; congr 1; omega
        · rw [show (j + 1) * 2 = j * 2 + 1 + 1 by omega, HVT'.out, HT'.out.1, HVT.out, HT.out.1]; exact H13.out
        · rw [show (j + 1) * 2 = j * 2 + 1 + 1 by omega]; exact H33.out
      case measure => simp only [intOf]; omega
    · have HOr := Lib.hid hown
      have H1 := Lib.hid hc1
      have H3 := Lib.hid hc2
      have HM := Lib.hid hm
      clear hown hc1 hc2 hm
      obtain rfl : j = n := by omega
      go_wp2
      go_ret
      have h1 := H1.out
      have h3 := H3.out
      rw [List.take_of_length_le (by have := HL.out; have := HN.out; omega), List.take_of_length_le (by have := HN.out; omega)] at h1
      rw [List.drop_of_length_le (by have := HL.out; have := HN.out; omega), List.drop_of_length_le (by have := HN.out; omega)] at h3
      refine ⟨?_, ⟨M, vs, j, by rw [mkS_length, HN.out], HOr.out, h1.wide h3.1 h3.2⟩, HM.out⟩
      exact ret_int (by rw [List.take_of_length_le (by have := HN.out; omega)])

/-! ### A list of dealings that comes into a law -/
section Opens
open Go.Deep Go.ChangeShapes Go.WideShapes
set_option maxRecDepth 100000 in
theorem inDs_open {H : Type} {enc : TypeId × Value → H} {W : World} {held : Bool} {fuel len cap : Nat} {a : Option Addr} {x : DataW H × List MemPlace}
    (hf : DataW.trod enc Try.prog W 0 (fun _ => true) held fuel 48 (Value.cells (.slice a len cap)).toList = some x) :
    ∃ ds, InDs W.heap.size W (.slice a len cap) ds ∧ ds.length ≤ maxLen ∧ ∀ d ∈ ds, d.c.length ≤ maxLen ∧ d.s.length ≤ maxLen := by
  rcases open_slice_pairs Try.underlying48 Try.underlying111 (by kernel_rfl) rfl rfl (by kernel_rfl) (by kernel_rfl) hf with ⟨hcs, _⟩ | ⟨x, l, c, m, n, V0, V1, D0, D1, P0, P1, hcs, _, hl, hm, hmm, _, hc⟩
  · simp [Value.cells] at hcs
    obtain ⟨rfl, rfl, rfl⟩ := hcs
    exact ⟨[], ⟨Nat.le_refl _, none, 0, rfl, ⟨fun _ => rfl, by simp⟩, .inl rfl⟩, by simp, by simp⟩
  · simp [Value.cells] at hcs
    obtain ⟨rfl, rfl, rfl⟩ := hcs
    simp only [if_true] at hmm
    subst hmm
    have each : ∀ i, i < m → ∃ d : DlD, W.cell? (x.add (i * 2)) = some (V0 i) ∧ W.cell? (x.add (i * 2 + 1)) = some (V1 i) ∧ InI W.heap.size W (V0 i) d.c ∧ InI W.heap.size W (V1 i) d.s ∧ d.c.length ≤ maxLen ∧ d.s.length ≤ maxLen := by
      intro i hi
      obtain ⟨h0, h1, h2, h3⟩ := hc i hi
      obtain ⟨z0, k0, l0⟩ := inI_opn' h2
      obtain ⟨z1, k1, l1⟩ := inI_opn' h3
      exact ⟨⟨z0, z1⟩, h0, h1, k0, k1, l0, l1⟩
    haveI : Inhabited DlD := ⟨⟨[], []⟩⟩
    obtain ⟨f, hf⟩ := choose_lt each
    refine ⟨(List.range len).map f, ⟨Nat.le_refl _, some x, m, by simp, ⟨(fun h => by cases h), by simp; exact hl⟩, ?_⟩, by simp; omega, ?_⟩
    · by_cases h0 : len = 0
      · subst h0; exact .inl (by simp)
      · obtain ⟨b, off, spot⟩ := x
        have h0' := (hf 0 (by omega)).1
        have hspot : spot = none := by simpa [Addr.add] using World.cell?_spot h0'
        subst hspot
        have hb : b < W.heap.size := by
          have := World.block_lt_of_cell? W _ h0'
          simpa [Addr.add] using this
        have e : ∀ i, (⟨b, off, none⟩ : Addr).add i = ⟨b, off + i, none⟩ := fun i => by
          unfold Addr.add; split
          · subst_vars; rfl
          · rfl
        refine .inr ⟨b, off, rfl, hb, hb, fun i d hd => ?_⟩
        simp only [List.getElem?_map, Option.map_eq_some_iff] at hd
        obtain ⟨r, hr, rfl⟩ := hd
        obtain ⟨hr1, hr2⟩ := List.getElem?_eq_some_iff.1 hr
        have hil : i < len := by simpa using hr1
        have hri : r = i := by simpa using hr2.symm
        subst hri
        obtain ⟨k1, k2, k3, k4, _, _⟩ := hf r (by omega)
        rw [e] at k1 k2
        exact ⟨_, _, k1, by rwa [Nat.add_assoc], k3, k4⟩
    · intro d hd
      obtain ⟨r, hr, rfl⟩ := List.mem_map.1 hd
      have := List.mem_range.1 hr
      obtain ⟨_, _, _, _, k5, k6⟩ := hf r (by omega)
      exact ⟨k5, k6⟩
end Opens

/-! ### Compared -/
def DC (w : World) (b o : Nat) (x y : Value) : Prop := w.cell? ⟨b, o, none⟩ = some x ∧ w.cell? ⟨b, o + 1, none⟩ = some y
theorem DC.below {w w' : World} {b o : Nat} {x y : Value} (h : DC w b o x y) (hb : Below w.heap.size w w') : DC w' b o x y := by
  have hl := World.block_lt_of_cell? w _ h.1
  exact ⟨by rw [hb.cell (p := ⟨b, o, none⟩) hl]; exact h.1, by rw [hb.cell (p := ⟨b, o + 1, none⟩) hl]; exact h.2⟩
set_option maxRecDepth 100000 in
set_option maxHeartbeats 1600000 in
theorem eqDs_any {P P' : Nat} {w : World} {v v' : Value} {ds : List DlD} (h : InDs P w v ds) (h' : InDs P' w v' ds) (hl : ds.length ≤ 1048576) (hr : nDs ds ≤ 17592186044416) :
    Calls Try.prog 30 #[v, v'] w fun e w' => e = .returned (.bool true) ∧ Below w.heap.size w w' := by
  obtain ⟨ad, cap, rfl⟩ := h.shape
  obtain ⟨ad', cap', rfl⟩ := h'.shape
  have HR := Lib.hid hr
  generalize hn : ds.length = n at h h'
  have HN := Lib.hid hn
  have hl' : n ≤ 1048576 := by omega
  have H := Lib.hid h
  have H' := Lib.hid h'
  clear hl hr hn h h'
  go_enter Try.func30, Try.ntmps30
  go_wp2_with fail
  go_loopw [5] (fun K wr => ∃ k : Nat, k ≤ n ∧ K = .int .i64 k ∧ Below w.heap.size w wr) (fun K _ => n - (intOf K).toNat)
  case atStart => exact ⟨0, Nat.zero_le _, rfl, Below.refl _ _⟩
  case round =>
    obtain ⟨k, hk, rfl, hbel⟩ := hrel
    have HB_0 := Lib.hid hbel
    clear hbel
    by_cases hkn : k < n
    · obtain ⟨b, off, x, y, d, rfl, hb, hx, hy, hi, hj, hd⟩ := (H.out.below HB_0.out).at (k := k) (by have := HN.out; omega)
      obtain ⟨b', off', x', y', d', rfl, hb', hx', hy', hi', hj', hd'⟩ := (H'.out.below HB_0.out).at (k := k) (by have := HN.out; omega)
      have hdd : d' = d := by rw [hd] at hd'; exact (List.cons.inj hd').1.symm
      subst hdd
      have hzl : d'.n ≤ 17592186044416 := by
        have := nDs_drop ds k
        rw [hd, nDs_cons] at this
        have := HR.out
        omega
      have DX_0 := Lib.hid (show DC wr b (off + k * 2) x y from ⟨hx, hy⟩)
      have DY_0 := Lib.hid (show DC wr b' (off' + k * 2) x' y' from ⟨hx', hy'⟩)
      have IX_0 := Lib.hid (show InD P wr (.agg #[x, y]) d' from ⟨x, y, rfl, hi, hj⟩)
      have IY_0 := Lib.hid (show InD P' wr (.agg #[x', y']) d' from ⟨x', y', rfl, hi', hj'⟩)
      clear hd hd' hi hj hi' hj' hx hy hx' hy'
      go_wp2_with fail
      have hbd : Below wr.heap.size wr wr.drew := (Below.refl _ wr).drew
      have HB_s := Lib.hid (bt HB_0.out hbd)
      have DX_s := Lib.hid (DX_0.out.below hbd)
      have DY_s := Lib.hid (DY_0.out.below hbd)
      have IX_s := Lib.hid (IX_0.out.below hbd)
      have IY_s := Lib.hid (IY_0.out.below hbd)
      clear hbd
      refine wp_region_held_drew (S := (fun w' => (w'.cell? ⟨b, off + k * 2, none⟩ = some x ∧ w'.cell? ⟨b, off + k * 2 + 1, none⟩ = some y) ∧ (w'.cell? ⟨b', off' + k * 2, none⟩ = some x' ∧ w'.cell? ⟨b', off' + k * 2 + 1, none⟩ = some y'))) (by kernel_rfl) (show _ from ⟨DX_0.out, DY_0.out⟩) (fun hHeld => ?_)
      generalize hW0 : wr.drew = Ws at *
      clear hW0
      refine wpAnyH_take (i := 0) (v := ?_) rfl (by kernel_rfl) (by kernel_rfl) (by kernel_rfl) (fun _ _ _ h => h) (Or.inl ⟨by kernel_rfl, ?_⟩) (by assumption) ?_
      rotate_left 1
      · intro w9 hSw
        try dsimp only at hSw
        go_simp
        try with_reducible rfl
      try simp only [Act.put, List.getElem_toArray, List.getElem_cons_succ, List.getElem_cons_zero, List.setIfInBounds_toArray, List.set_cons_zero, List.set_cons_succ]
      refine wpAnyH_take (i := 1) (v := ?_) rfl (by kernel_rfl) (by kernel_rfl) (by kernel_rfl) (fun _ _ _ h => h) (Or.inl ⟨by kernel_rfl, ?_⟩) (by assumption) ?_
      rotate_left 1
      · intro w9 hSw
        try dsimp only at hSw
        go_simp
        try with_reducible rfl
      try simp only [Act.put, List.getElem_toArray, List.getElem_cons_succ, List.getElem_cons_zero, List.setIfInBounds_toArray, List.set_cons_zero, List.set_cons_succ]
      refine wpAnyH_take (i := 2) (v := ?_) rfl (by kernel_rfl) (by kernel_rfl) (by kernel_rfl) (fun _ _ _ h => h) (Or.inl ⟨by kernel_rfl, ?_⟩) (by assumption) ?_
      rotate_left 1
      · intro w9 hSw
        try dsimp only at hSw
        go_simp
        try with_reducible rfl
      try simp only [Act.put, List.getElem_toArray, List.getElem_cons_succ, List.getElem_cons_zero, List.setIfInBounds_toArray, List.set_cons_zero, List.set_cons_succ]
      refine wpAnyH_take (i := 3) (v := ?_) rfl (by kernel_rfl) (by kernel_rfl) (by kernel_rfl) (fun _ _ _ h => h) (Or.inl ⟨by kernel_rfl, ?_⟩) (by assumption) ?_
      rotate_left 1
      · intro w9 hSw
        try dsimp only at hSw
        go_simp
        try with_reducible rfl
      try simp only [Act.put, List.getElem_toArray, List.getElem_cons_succ, List.getElem_cons_zero, List.setIfInBounds_toArray, List.set_cons_zero, List.set_cons_succ]
      refine wpAnyH_take (i := 4) (v := ?_) rfl (by kernel_rfl) (by kernel_rfl) (by kernel_rfl) (fun _ _ _ h => h) (Or.inl ⟨by kernel_rfl, ?_⟩) (by assumption) ?_
      rotate_left 1
      · intro w9 hSw
        try dsimp only at hSw
        go_simp
        try with_reducible rfl
      try simp only [Act.put, List.getElem_toArray, List.getElem_cons_succ, List.getElem_cons_zero, List.setIfInBounds_toArray, List.set_cons_zero, List.set_cons_succ]
      refine wpAnyH_take (i := 5) (v := ?_) rfl (by kernel_rfl) (by kernel_rfl) (by kernel_rfl) (fun _ _ _ h => h) (Or.inl ⟨by kernel_rfl, ?_⟩) (by assumption) ?_
      rotate_left 1
      · intro w9 hSw
        try dsimp only at hSw
        go_simp
        try with_reducible rfl
      try simp only [Act.put, List.getElem_toArray, List.getElem_cons_succ, List.getElem_cons_zero, List.setIfInBounds_toArray, List.set_cons_zero, List.set_cons_succ]
      refine wpAnyH_take (i := 6) (v := ?_) rfl (by kernel_rfl) (by kernel_rfl) (by kernel_rfl) (fun _ _ _ h => h) (Or.inl ⟨by kernel_rfl, ?_⟩) (by assumption) ?_
      rotate_left 1
      · intro w9 hSw
        try dsimp only at hSw
        go_simp
        try with_reducible rfl
      try simp only [Act.put, List.getElem_toArray, List.getElem_cons_succ, List.getElem_cons_zero, List.setIfInBounds_toArray, List.set_cons_zero, List.set_cons_succ]
      refine wpAnyH_take (i := 7) (v := ?_) rfl (by kernel_rfl) (by kernel_rfl) (by kernel_rfl) (fun _ _ _ h => h) (Or.inl ⟨by kernel_rfl, ?_⟩) (by assumption) ?_
      rotate_left 1
      · intro w9 hSw
        try dsimp only at hSw
        go_simp
        try with_reducible rfl
      try simp only [Act.put, List.getElem_toArray, List.getElem_cons_succ, List.getElem_cons_zero, List.setIfInBounds_toArray, List.set_cons_zero, List.set_cons_succ]
      refine wpAnyH_ready (rs := [8]) (by kernel_rfl) (by simp) ?_
      refine AllReadyH.cons rfl (fun K hK => ?_) (AllReadyH.nil)
      go_simp
      go_at_call 29
      refine (eqD_any IX_s.out IY_s.out (by omega)).mono ?_
      rintro e' Wsi ⟨rfl, hb⟩
      have HB_si := Lib.hid (bt HB_s.out hb)
      have DX_si := Lib.hid (DX_s.out.below hb)
      have DY_si := Lib.hid (DY_s.out.below hb)
      have IX_si := Lib.hid (IX_s.out.below hb)
      have IY_si := Lib.hid (IY_s.out.below hb)
      clear hb
      go_wp2_with fail
      refine hK.out _ _ (show _ from ⟨DX_si.out, DY_si.out⟩) (fun hHeld => ?_)
      clear hK K
      try simp only [Act.put, List.getElem_toArray, List.getElem_cons_succ, List.getElem_cons_zero, List.setIfInBounds_toArray, List.set_cons_zero, List.set_cons_succ]
      refine wpAnyH_take (i := 9) (v := ?_) rfl (by kernel_rfl) (by kernel_rfl) (by kernel_rfl) (fun _ _ _ h => h) (Or.inl ⟨by kernel_rfl, ?_⟩) (by assumption) ?_
      rotate_left 1
      · intro w9 hSw
        try dsimp only at hSw
        go_simp
        try with_reducible rfl
      try simp only [Act.put, List.getElem_toArray, List.getElem_cons_succ, List.getElem_cons_zero, List.setIfInBounds_toArray, List.set_cons_zero, List.set_cons_succ]
      refine wpAnyH_done (by kernel_rfl) ?_ _
      clear hHeld
      go_wp2
      go_roundw
      case rel => exact ⟨k + 1, by omega, by go_num, HB_si.out⟩
      case measure => simp only [intOf]; omega
    · obtain rfl : k = n := by omega
      go_wp2
      go_ret
      exact ⟨rfl, HB_0.out⟩

end Go.Proofs.Ytchlnkdlnfjijaa

/- Chapter 11: lists of dealings that the program checks. -/
namespace Go.Proofs.Ytchlnkdlnfjijaa
open Go.RowKit
set_option linter.unusedVariables false
set_option linter.unusedSimpArgs false

def likeD (d e : DlD) : Bool := decide (d.c.length = e.c.length) && decide (d.s.length = e.s.length)
def DO (x y : Value) : Obj := .cells #[x, y] 42
set_option maxHeartbeats 1600000 in
theorem isLike_any (a1 a2 b1 b2 : Option Addr) (n1 n2 m1 m2 c1 c2 e1 e2 : Nat) (w : World) :
    Calls Try.prog 126 #[.agg #[.slice a1 n1 c1, .slice a2 n2 c2], .agg #[.slice b1 m1 e1, .slice b2 m2 e2]] w fun e w' => e = .returned (.bool (decide (n1 = m1) && decide (n2 = m2))) ∧ Below w.heap.size w w' := by
  have HX := Lib.hid ((v2_at w w.heap.size rfl (.slice a1 n1 c1) (.slice a2 n2 c2) 42).below (ba (w.alloc (.cells #[.slice a1 n1 c1, .slice a2 n2 c2] 42)) (.cells #[.slice b1 m1 e1, .slice b2 m2 e2] 42)))
  have HY := Lib.hid (v2_at (w.alloc (.cells #[.slice a1 n1 c1, .slice a2 n2 c2] 42)) (w.heap.size + 1) (by simp) (.slice b1 m1 e1) (.slice b2 m2 e2) 42)
  have HB := Lib.hid (show Below w.heap.size w ((w.alloc (.cells #[.slice a1 n1 c1, .slice a2 n2 c2] 42)).alloc (.cells #[.slice b1 m1 e1, .slice b2 m2 e2] 42)) from bt (ba _ _) (ba _ _))
  obtain ⟨x0, x1, _⟩ := HX.out
  obtain ⟨y0, y1, _⟩ := HY.out
  by_cases h : n1 = m1
  · have hq : ((n1 : Int) == (m1 : Int)) = true := by simp [h]
    have E := Lib.hid (show (decide (n1 = m1) && decide (n2 = m2)) = ((n2 : Int) == (m2 : Int)) by
      rw [decide_eq_true h, Bool.true_and]
      by_cases h2 : n2 = m2
      · simp [h2]
      · rw [decide_eq_false h2]; symm; simp only [beq_eq_false_iff_ne, ne_eq]; omega)
    rw [E.out]
    clear h
    go_enter Try.func126, Try.ntmps126
    go_wp2
    go_ret
    exact ⟨rfl, HB.out⟩
  · have hq : ((n1 : Int) == (m1 : Int)) = false := by simp only [beq_eq_false_iff_ne, ne_eq]; omega
    have E := Lib.hid (show (decide (n1 = m1) && decide (n2 = m2)) = false by rw [decide_eq_false h, Bool.false_and])
    rw [E.out]
    clear h
    go_enter Try.func126, Try.ntmps126
    go_wp2
    go_ret
    exact ⟨rfl, HB.out⟩

/-- A list of which each dealing is asked a function's value. -/
theorem allD_step {f : DlD → Bool} {ds : List DlD} {d : DlD} {k : Nat} (hd : ds.drop k = d :: ds.drop (k + 1)) (he : ds.all f = (ds.drop k).all f) : (f d = true → ds.all f = (ds.drop (k + 1)).all f) ∧ (f d = false → ds.all f = false) := by
  rw [hd, List.all_cons] at he
  exact ⟨fun h => by rw [he, h, Bool.true_and], fun h => by rw [he, h, Bool.false_and]⟩
set_option maxHeartbeats 1600000 in
theorem allHas_any (P Q G : Int) (hm : Mo P Q) {B : Nat} {ds : List DlD} (hl : ds.length ≤ 1048576) (hr : nDs ds ≤ 1048576) {v : Value} {w : World} (hz : InDs B w v ds) :
    Calls Try.prog 125 #[v, .func (.func 116) #[gv P Q G] #[]] w fun e w' => e = .returned (.bool (ds.all fun d => dlB P Q d.c d.s)) ∧ Below w.heap.size w w' := by
  obtain ⟨ad, cap, rfl⟩ := hz.shape
  generalize hn : ds.length = n at hz
  have HN := Lib.hid hn
  have H := Lib.hid hz
  clear hz
  go_enter Try.func125, Try.ntmps125
  go_wp2
  go_loopw [9] (fun K wr => ∃ k : Nat, k ≤ n ∧ K = .int .i64 k ∧ ds.all (fun d => dlB P Q d.c d.s) = (ds.drop k).all (fun d => dlB P Q d.c d.s) ∧ Below w.heap.size w wr) (fun K _ => n - (intOf K).toNat)
  case atStart => exact ⟨0, Nat.zero_le _, rfl, by simp, Below.refl _ _⟩
  case round =>
    obtain ⟨k, hk, rfl, he, hbel⟩ := hrel
    by_cases hkn : k < n
    · obtain ⟨b, off, x, y, d, rfl, hb, hx, hy, hi, hj, hd⟩ := (H.out.below hbel).at (k := k) (by have := HN.out; omega)
      obtain ⟨p1, p2, rfl⟩ := hi.shape
      obtain ⟨r1, r2, rfl⟩ := hj.shape
      have HS := Lib.hid (allD_step (f := fun d => dlB P Q d.c d.s) hd he)
      have HB := Lib.hid hbel
      have hal := ba wr (.cells #[.slice p1 d.c.length p2, .slice r1 d.s.length r2] 42)
      have hi2 := Lib.hid (hi.below hal)
      have hj2 := Lib.hid (hj.below hal)
      have hdn : d.c.length + d.s.length ≤ 1048576 := by
        have := nDs_drop ds k
        rw [hd, nDs_cons] at this
        unfold DlD.n at this
        omega
      clear he hd hbel hi hj hal
      cases hi' : dlB P Q d.c d.s
      · have HI := Lib.hid hi'
        clear hi'
        go_wp2_with fail
        refine (hasDealing_any P Q G hm p1 r1 p2 r2 d.c d.s (by omega) (by omega) (inI_ints hi2.out) (inI_ints hj2.out)).mono ?_
        rintro e w1 ⟨rfl, hb1⟩
        rw [HI.out]
        have HB1 := Lib.hid (bt (bt HB.out (ba _ _)) hb1)
        clear hb1
        go_wp2
        go_ret
        exact ⟨by rw [HS.out.2 HI.out]; rfl, HB1.out⟩
      · have HI := Lib.hid hi'
        clear hi'
        go_wp2_with fail
        refine (hasDealing_any P Q G hm p1 r1 p2 r2 d.c d.s (by omega) (by omega) (inI_ints hi2.out) (inI_ints hj2.out)).mono ?_
        rintro e w1 ⟨rfl, hb1⟩
        rw [HI.out]
        have HB1 := Lib.hid (bt (bt HB.out (ba _ _)) hb1)
        clear hb1
        go_wp2
        go_roundw
        case rel => exact ⟨k + 1, by omega, by go_num, HS.out.1 HI.out, HB1.out⟩
        case measure => simp only [intOf]; omega
    · have HE := Lib.hid he
      have HB := Lib.hid hbel
      clear he hbel
      go_wp2
      go_ret
      refine ⟨?_, HB.out⟩
      rw [HE.out, List.drop_of_length_le (by have := HN.out; omega)]; rfl


set_option maxHeartbeats 1600000 in
theorem allLike_any {B : Nat} {ds : List DlD} (hl : ds.length ≤ 1048576) (a1 a2 : Option Addr) (c1 c2 : Nat) (e9 : DlD) {v : Value} {w : World} (hz : InDs B w v ds) :
    Calls Try.prog 125 #[v, .func (.func 126) #[.agg #[.slice a1 e9.c.length c1, .slice a2 e9.s.length c2]] #[]] w fun e w' => e = .returned (.bool (ds.all fun d => likeD e9 d)) ∧ Below w.heap.size w w' := by
  obtain ⟨ad, cap, rfl⟩ := hz.shape
  generalize hn : ds.length = n at hz
  have HN := Lib.hid hn
  have H := Lib.hid hz
  clear hz
  go_enter Try.func125, Try.ntmps125
  go_wp2
  go_loopw [9] (fun K wr => ∃ k : Nat, k ≤ n ∧ K = .int .i64 k ∧ ds.all (fun d => likeD e9 d) = (ds.drop k).all (fun d => likeD e9 d) ∧ Below w.heap.size w wr) (fun K _ => n - (intOf K).toNat)
  case atStart => exact ⟨0, Nat.zero_le _, rfl, by simp, Below.refl _ _⟩
  case round =>
    obtain ⟨k, hk, rfl, he, hbel⟩ := hrel
    by_cases hkn : k < n
    · obtain ⟨b, off, x, y, d, rfl, hb, hx, hy, hi, hj, hd⟩ := (H.out.below hbel).at (k := k) (by have := HN.out; omega)
      obtain ⟨p1, p2, rfl⟩ := hi.shape
      obtain ⟨r1, r2, rfl⟩ := hj.shape
      have HS := Lib.hid (allD_step (f := fun d => likeD e9 d) hd he)
      have HB := Lib.hid hbel
      have hal := ba wr (.cells #[.slice p1 d.c.length p2, .slice r1 d.s.length r2] 42)
      have hi2 := Lib.hid (hi.below hal)
      have hj2 := Lib.hid (hj.below hal)
      clear he hd hbel hi hj hal
      cases hi' : likeD e9 d
      · have HI := Lib.hid hi'
        clear hi'
        go_wp2_with fail
        refine (isLike_any a1 a2 p1 r1 e9.c.length e9.s.length d.c.length d.s.length c1 c2 p2 r2 _).mono ?_
        rintro e w1 ⟨rfl, hb1⟩
        rw [show (decide (e9.c.length = d.c.length) && decide (e9.s.length = d.s.length)) = likeD e9 d from rfl, HI.out]
        have HB1 := Lib.hid (bt (bt HB.out (ba _ _)) hb1)
        clear hb1
        go_wp2
        go_ret
        exact ⟨by rw [HS.out.2 HI.out]; rfl, HB1.out⟩
      · have HI := Lib.hid hi'
        clear hi'
        go_wp2_with fail
        refine (isLike_any a1 a2 p1 r1 e9.c.length e9.s.length d.c.length d.s.length c1 c2 p2 r2 _).mono ?_
        rintro e w1 ⟨rfl, hb1⟩
        rw [show (decide (e9.c.length = d.c.length) && decide (e9.s.length = d.s.length)) = likeD e9 d from rfl, HI.out]
        have HB1 := Lib.hid (bt (bt HB.out (ba _ _)) hb1)
        clear hb1
        go_wp2
        go_roundw
        case rel => exact ⟨k + 1, by omega, by go_num, HS.out.1 HI.out, HB1.out⟩
        case measure => simp only [intOf]; omega
    · have HE := Lib.hid he
      have HB := Lib.hid hbel
      clear he hbel
      go_wp2
      go_ret
      refine ⟨?_, HB.out⟩
      rw [HE.out, List.drop_of_length_le (by have := HN.out; omega)]; rfl


end Go.Proofs.Ytchlnkdlnfjijaa

/- Chapter 11: the sum of dealings: plain facts. -/
namespace Go.Proofs.Ytchlnkdlnfjijaa
set_option linter.unusedVariables false
set_option linter.unusedSimpArgs false

/-- The products of two lists, the first's length kept. -/
def prdL (P : Int) : List Int → List Int → List Int
  | a :: s, b :: g => a * b % P :: prdL P s g
  | s, _ => s
theorem prdL_length (P : Int) : ∀ s g : List Int, (prdL P s g).length = s.length
  | [], g => by cases g <;> rfl
  | a :: s, [] => rfl
  | a :: s, b :: g => by simp [prdL, prdL_length P s g]
theorem prdL_get (P : Int) : ∀ (s g : List Int) (k : Nat) (hs : k < s.length) (hg : k < g.length) (h : k < (prdL P s g).length), (prdL P s g)[k] = s[k] * g[k] % P
  | a :: s, b :: g, 0, _, _, _ => rfl
  | a :: s, b :: g, k + 1, hs, hg, h => by
    have := prdL_get P s g k (by simpa using hs) (by simpa using hg) (by simpa [prdL] using h)
    simpa [prdL] using this
theorem prdL_res {P : Int} (hP : 0 < P) : ∀ {s g : List Int}, s.length = g.length → ∀ z ∈ prdL P s g, 0 ≤ z ∧ z < P
  | [], [], _, z, hz => by simp [prdL] at hz
  | a :: s, b :: g, h, z, hz => by
    simp only [prdL, List.mem_cons] at hz
    rcases hz with rfl | hz
    · exact ⟨Int.emod_nonneg _ (by omega), Int.emod_lt_of_pos _ hP⟩
    · exact prdL_res hP (by simpa using h) z hz
theorem axpy1_get (Q : Int) : ∀ (s g : List Int) (k : Nat) (hs : k < s.length) (hg : k < g.length) (h : k < (axpy Q s 1 g).length), (axpy Q s 1 g)[k] = (s[k] + g[k]) % Q
  | a :: s, b :: g, 0, _, _, _ => by simp [axpy]
  | a :: s, b :: g, k + 1, hs, hg, h => by
    have := axpy1_get Q s g k (by simpa using hs) (by simpa using hg) (by simpa [axpy] using h)
    simpa [axpy] using this
theorem axpy1_res {Q : Int} (hQ : 0 < Q) : ∀ {s g : List Int}, s.length = g.length → ∀ z ∈ axpy Q s 1 g, 0 ≤ z ∧ z < Q
  | [], [], _, z, hz => by simp [axpy] at hz
  | a :: s, b :: g, h, z, hz => by
    simp only [axpy, List.mem_cons] at hz
    rcases hz with rfl | hz
    · exact ⟨Int.emod_nonneg _ (by omega), Int.emod_lt_of_pos _ hQ⟩
    · exact axpy1_res hQ (by simpa using h) z hz

def sdStep (P Q : Int) (a d : DlD) : DlD := ⟨prdL P a.c d.c, axpy Q a.s 1 d.s⟩
def nilD : DlD := ⟨[], []⟩
def sdL (P Q : Int) (ds : List DlD) : DlD := ds.tail.foldl (sdStep P Q) (ds.headD nilD)
def sdB (P Q G : Int) (ds : List DlD) : Bool := trB P Q G && (inB (ds.length : Int) 1 7 && (ds.all (fun d => dlB P Q d.c d.s) && ds.all fun d => likeD (ds.headD nilD) d))
def sdV (P Q G : Int) (ds : List DlD) : DlD := if sdB P Q G ds then sdL P Q ds else nilD
theorem sd_off {P Q G : Int} {ds : List DlD} (h : sdB P Q G ds = false) : sdV P Q G ds = nilD := by simp [sdV, h]
theorem sd_on {P Q G : Int} {ds : List DlD} (h : sdB P Q G ds = true) : sdV P Q G ds = sdL P Q ds := by simp [sdV, h]
theorem all_two {α : Type} (f g : α → Bool) : ∀ l : List α, (l.all f && l.all g) = l.all fun x => f x && g x
  | [] => rfl
  | x :: l => by simp only [List.all_cons, ← all_two f g l]; cases f x <;> cases g x <;> simp
/-- The sum of the first k dealings behind the first. -/
def sdK (P Q : Int) (ds : List DlD) (k : Nat) : DlD := (ds.tail.take k).foldl (sdStep P Q) (ds.headD nilD)
theorem sdK_zero (P Q : Int) (ds : List DlD) : sdK P Q ds 0 = ds.headD nilD := by simp [sdK]
theorem sdK_all {P Q : Int} {ds : List DlD} {k : Nat} (h : ds.length ≤ k + 1) : sdK P Q ds k = sdL P Q ds := by
  unfold sdK sdL
  rw [List.take_of_length_le (by rw [List.length_tail]; omega)]
theorem sdK_step {P Q : Int} {ds : List DlD} {k : Nat} {d : DlD} (h : ds[k + 1]? = some d) : sdK P Q ds (k + 1) = sdStep P Q (sdK P Q ds k) d := by
  unfold sdK
  have h1 : ds.tail[k]? = some d := by rw [List.getElem?_tail]; exact h
  obtain ⟨hk, he⟩ := List.getElem?_eq_some_iff.1 h1
  rw [List.take_succ_eq_append_getElem hk, he, List.foldl_append]; rfl
theorem sdStep_like {P Q : Int} {e a d : DlD} (h : likeD e a = true) : likeD e (sdStep P Q a d) = true := by
  simpa [likeD, sdStep, prdL_length, axpy_length] using h
theorem sd_facts {P Q G : Int} {ds : List DlD} (h : sdB P Q G ds = true) : trB P Q G = true ∧ (1 ≤ ds.length ∧ ds.length ≤ 7) ∧ ∀ d ∈ ds, dlB P Q d.c d.s = true ∧ likeD (ds.headD nilD) d = true := by
  simp only [sdB, Bool.and_eq_true, List.all_eq_true] at h
  obtain ⟨h1, h2, h3, h4⟩ := h
  have := inB_true.1 h2
  exact ⟨h1, by omega, fun d hd => ⟨h3 d hd, h4 d hd⟩⟩
theorem sdK_like {P Q G : Int} {ds : List DlD} (h : sdB P Q G ds = true) : ∀ k, likeD (ds.headD nilD) (sdK P Q ds k) = true
  | 0 => by simp [sdK_zero, likeD]
  | k + 1 => by
    rcases Nat.lt_or_ge (k + 1) ds.length with hk | hk
    · rw [sdK_step (d := ds[k + 1]) (by simp [hk])]
      exact sdStep_like (sdK_like h k)
    · have := sdK_like h k
      rw [sdK_all (k := k) hk] at this
      rw [sdK_all (k := k + 1) (by omega)]; exact this

end Go.Proofs.Ytchlnkdlnfjijaa

/- Chapter 11: addMultiple on a list of one's own, which may be empty. -/
namespace Go.Proofs.Ytchlnkdlnfjijaa
open Go.RowKit
set_option linter.unusedVariables false
set_option linter.unusedSimpArgs false

set_option maxHeartbeats 1600000 in
theorem addMultiple_none (q c : Int) (a ad : Option Addr) (cap cap' : Nat) (w : World) :
    Calls Try.prog 90 #[.int .i64 q, .slice a 0 cap, .int .i64 c, .slice ad 0 cap'] w fun e w' => (∃ v, e = .returned v) ∧ w = w' := by
  go_enter Try.func90, Try.ntmps90
  go_wp2_with fail
  go_loop [8, 9, 12] (fun _ _ K => K = .int .i64 0) (fun _ _ _ => 0)
  case atStart => rfl
  case round =>
    obtain rfl := hrel
    go_wp2
    go_end0
    exact ⟨⟨_, rfl⟩, rfl⟩

theorem addMul_own (q : Int) {Q P R : Nat} {w : World} {v u : Value} {ss gs : List Int} (h2 : 2 ≤ q) (h3 : q ≤ 2000000000) (hs : ∀ z ∈ ss, 0 ≤ z ∧ z < q) (hg : ∀ z ∈ gs, 0 ≤ z ∧ z < q) (hl : ss.length = gs.length) (hl' : ss.length ≤ 1000000) (ho : OwI Q P w v ss) (hi : InI R w u gs) (hR : R ≤ Q) :
    Calls Try.prog 90 #[.int .i64 q, v, .int .i64 1, u] w fun e w' => (∃ x, e = .returned x) ∧ OwI Q P w' v (axpy q ss 1 gs) ∧ Mid Q P w w' := by
  obtain ⟨ho1, ho2, ho3, ho4⟩ := ho
  obtain ⟨va, vc, rfl⟩ := own_shape ho1
  obtain ⟨ua, uc, rfl⟩ := hi.shape
  by_cases h0 : gs = []
  · subst h0
    obtain rfl : ss = [] := List.length_eq_zero_iff.1 (by simpa using hl)
    refine (addMultiple_none q 1 va ua vc uc w).mono ?_
    rintro e w' ⟨hx, rfl⟩
    exact ⟨hx, ⟨ho1, ho2, ho3, ho4⟩, Mid.refl _ _ _⟩
  · rcases ho1.2 with ⟨_, hn⟩ | ⟨g, cap, cur, hv, hb, hgl, _⟩
    · exact absurd (List.length_eq_zero_iff.1 (by omega)) h0
    · simp only [Value.slice.injEq] at hv
      obtain ⟨rfl, _, rfl⟩ := hv
      have hgQ : Q ≤ g := (ho1.lt g rfl).1
      have hgP : g < P := ho2 g rfl
      refine (addMultiple_any q 1 Q g 0 ss.length vc ss.length vc ss ua gs.length uc gs h2 h3 (by omega) (by omega) hs hg rfl (by omega) (by omega) hl' w ho1 (inI_ints hi) ?_).mono ?_
      · rintro _ a rfl
        obtain ⟨_, a', c', hv, h5, _⟩ := hi
        simp only [Value.slice.injEq] at hv
        obtain ⟨rfl, _, _⟩ := hv
        rcases h5 with h5 | ⟨b, off, h5, h6, _⟩
        · exact absurd h5 h0
        · cases h5
          intro e
          have e2 : b = g := Option.some.inj e
          omega
      · rintro e w' ⟨hx, hown, hgr⟩
        rw [List.take_zero, List.drop_zero, List.nil_append] at hown
        refine ⟨hx, ⟨?_, ho2, Nat.le_trans ho3 hgr.size, ho4⟩, Mid.grown hgr (fun q hq => by cases hq; omega)⟩
        have e : (axpy q ss 1 gs).length = ss.length := axpy_length q 1 ss gs
        rw [e]; exact hown

/-- slices.Clone (as SigA's, which stands apart from ShT). -/
def OwnI9 (w : World) (zs : List Int) (e : Ending) (w' : World) : Prop := ∃ v, e = .returned v ∧ OwI w.heap.size w'.heap.size w' v zs ∧ Below w.heap.size w w'
set_option maxHeartbeats 800000 in
theorem cloneD_any (ad : Option Addr) (n cap : Nat) (zs : List Int) (hn : zs.length = n) (hl : n ≤ 1000000000) (hnil : ad = none → cap = 0) (w : World) (hz : IsInts w ad zs) :
    Calls Try.prog 89 #[.slice ad n cap] w (OwnI9 w zs) := by
  have q : ∀ (w : World) (a : Option Addr) (n c n' c' : Nat), (binOp .eql 29 (.slice a n c) (.slice none n' c')).run Try.prog w = .ok (.bool a.isNone) w := fun w a n c n' c' => Lib.run_eql_slice_nil w _ _ a n c n' c' Try.underlying29
  obtain ⟨i0, hi, hz0, hz1, hz2⟩ := info_parts Try.info3
  have hal := ba w (.cells #[] 3)
  have HZ := Lib.hid (hz.below hal (Nat.le_refl _))
  have HB := Lib.hid hal
  have HO := Lib.hid (own_lit w [] (by simp) 3)
  have HN := Lib.hid hn
  have HNIL := Lib.hid hnil
  have HI := Lib.hid hz
  clear hn hnil hz hal
  cases ad with
  | none =>
    go_enter Try.func89, Try.ntmps89
    go_wp2
    go_ret
    have h0 : zs = [] := by
      rcases HI.out with h0 | ⟨b, off, h1, _⟩
      · exact h0
      · cases h1
    subst h0
    exact ⟨_, rfl, owI_nil _ _ (Nat.le_refl _), Below.refl _ _⟩
  | some a =>
    go_enter Try.func89, Try.ntmps89
    go_wp2_with (at_builtin; refine wpList_append_ints rfl _ _ 29 rfl w.heap.size 3 i0 Try.underlying29 hi hz0 hz1 hz2 _ 0 [] rfl HO.out (some a) n cap zs rfl HN.out HZ.out HNIL.out (by omega) HB.out.size ?_)
    intro v' w1 hown' hgrow
    obtain ⟨va', vc', rfl⟩ := own_shape hown'
    have HO1 := Lib.hid hown'
    have HB1 := Lib.hid (HB.out.grown hgrow HB.out.size (fun q hq => (HO.out.lt q hq).1))
    clear hown' hgrow
    go_wp2
    go_ret
    have h := HO1.out
    exact ⟨_, rfl, owI_mk h HB1.out.size, HB1.out⟩


end Go.Proofs.Ytchlnkdlnfjijaa

