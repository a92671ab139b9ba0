/- FactorOf of the program and of the reference. -/
import Derived.Test.YtdeedblemcfllaaInvAll
import Derived.Deep.LoopGhost
namespace Go.Proofs.Ytdeedblemcfllaa
open Go.RowKit

theorem Try.infoPP : (Try.prog.info? 30).map (fun i => (i.zero, i.size, i.bytes)) = some (some (.agg #[.int .i64 0, .int .i64 0]), 2, 16) := by kernel_rfl

/-- A call returns a slice of pairs of its own: the cells, one after the other, are 'res'. -/
def PairsOwn (w : World) (base : Nat) (v : Value) (n : Nat) (res : List Int) : Prop := w.ownsRow base 30 2 v n (res.map (Value.int .i64))

def FacOut (w : World) (res : List Int) (e : Ending) (w' : World) : Prop :=
  ∃ ad n cap, e = .returned (.slice ad n cap) ∧ PairsOwn w' w.heap.size (.slice ad n cap) n res ∧ n ≤ 44723 ∧ Below w.heap.size w w'

theorem pair_new (w : World) (x y : Value) (t : TypeId) : ∀ j u, [x, y][j]? = some u → (w.alloc (.cells #[x, y] t)).cell? ((⟨w.heap.size, 0, none⟩ : Addr).add j) = some u := by
  intro j u h
  match j, h with
  | 0, h => simp at h; subst h; simp [Addr.add, World.cell?_alloc_at]
  | 1, h => simp at h; subst h; simp [Addr.add, World.cell?_alloc_at]
  | n + 2, h => simp at h

theorem sq_bound {d : Nat} (h : d ≤ 44722) : d * d ≤ 2000057284 := by
  have : d * d ≤ 44722 * d := Nat.mul_le_mul_right _ h
  omega
theorem root_bound {d n : Nat} (h : d * d ≤ n) (hn : n ≤ 2000000000) : d ≤ 44721 := by
  rcases Nat.lt_or_ge 44721 d with h' | h'
  · have : 44722 * 44722 ≤ d * d := Nat.mul_le_mul h' h'
    omega
  · exact h'

set_option maxRecDepth 100000 in
set_option maxHeartbeats 3200000 in
theorem nFactor_nat (n0 : Nat) (h0 : 0 < n0) (h1 : n0 ≤ 2000000000) (w : World) :
    Calls Try.prog 69 #[.int .i64 n0] w (FacOut w (Num.factors n0)) := by
  obtain ⟨i0, hi, hz0, hz1, hz2⟩ := info_parts Try.infoPP
  go_enter Try.func69, Try.ntmps69
  go_wp2
  go_loopg [0, 3, 4] (n0 + 1) (fun gk N V D wr => ∃ (n d k : Nat) (acc : List Int) (va : Option Addr) (vc : Nat), gk + d = n0 + 3 ∧ (0 < n ∧ n ≤ n0) ∧ (2 ≤ d ∧ d ≤ 44722 ∧ k ≤ d) ∧ N = .int .i64 n ∧ V = .slice va k vc ∧ D = .int .i64 d ∧
    PairsOwn wr w.heap.size (.slice va k vc) k acc ∧ Below w.heap.size w wr ∧ Num.factors n0 = Num.fac n d acc)
  case atStart => exact ⟨n0, 2, 0, [], none, 0, by omega, ⟨h0, Nat.le_refl _⟩, ⟨by omega, by omega, by omega⟩, rfl, rfl, rfl, World.ownsRow_nil _ _ _ _, Below.refl _ _, rfl⟩
  case round =>
    obtain ⟨n, d, k, acc, va, vc, hgk, ⟨hn0, hn1⟩, ⟨hd2, hd3, hkd⟩, rfl, rfl, rfl, hown, hbel, he⟩ := hrel
    have HO := Lib.hid hown
    have HB := Lib.hid hbel
    have HE := Lib.hid he
    have HGK := Lib.hid hgk
    clear hown hbel he hgk
    have hsq := sq_bound hd3
    have hsqi : (0 : Int) ≤ (d : Int) * d ∧ (d : Int) * d ≤ 2000057284 := by
      have e : (d : Int) * d = ((d * d : Nat) : Int) := by simp
      rw [e]; omega
    obtain ⟨hsq0, hsq1⟩ := hsqi
    by_cases hdn : d * d ≤ n
    · have hdni : (d : Int) * d ≤ (n : Int) := by
        have e : (d : Int) * d = ((d * d : Nat) : Int) := by simp
        rw [e]; omega
      have hd4 := root_bound hdn (by omega)
      have hdlt : d < n := by
        have : 2 * d ≤ d * d := Nat.mul_le_mul_right d hd2
        omega
      have HD := Lib.hid hdn
      clear hdn
      go_wp2
      go_loopg [0, 5] n (fun gj N E wj => ∃ (e : Nat), (0 < gj ∧ gj + e ≤ n) ∧ N = .int .i64 gj ∧ E = .int .i64 e ∧ wj = wr ∧ Num.strip n d 0 = Num.strip gj d e)
      case atStart => exact ⟨0, ⟨hn0, by omega⟩, rfl, rfl, rfl, rfl⟩
      case round =>
        obtain ⟨e, ⟨hn'0, hn'1⟩, rfl, rfl, rfl, hs⟩ := hrel
        have HS := Lib.hid hs
        clear hs
        have hdpos : (0 : Int) < (d : Int) := by omega
        by_cases hdiv : gk % d = 0
        · have hdi : ((gk : Int) % (d : Int) == 0) = true := by
            have : ((gk % d : Nat) : Int) = 0 := by omega
            simp only [Int.natCast_emod] at this
            simp [this]
          have hlt : gk / d < gk := Nat.div_lt_self hn'0 hd2
          have hdle : d ≤ gk := Nat.le_of_dvd hn'0 (Nat.dvd_of_mod_eq_zero hdiv)
          have hpos : 0 < gk / d := Nat.div_pos hdle (by omega)
          have HDV := Lib.hid hdiv
          clear hdiv
          go_wp2
          go_roundg (gk / d)
          case measure => exact hlt
          case rel => exact ⟨e + 1, ⟨hpos, by omega⟩, by simp, by go_num, rfl, HS.out.trans (Num.strip_go hd2 hn'0 HDV.out)⟩
        · have hdi : ((gk : Int) % (d : Int) == 0) = false := by
            have : ((gk % d : Nat) : Int) ≠ 0 := by omega
            simp only [Int.natCast_emod] at this
            simp [this]
          have HS2 := Lib.hid (HS.out.trans (Num.strip_end hdiv))
          clear hdiv
          by_cases he0 : 0 < e
          · have he0i : (0 : Int) < (e : Int) := by omega
            have HF := Lib.hid (show Num.facNew d e = [(d : Int), (e : Int)] by simp [Num.facNew, he0])
            go_wp2_with (at_builtin; refine wpList_append_own _ rfl _ _ 24 rfl w.heap.size 30 i0 (.agg #[.int .i64 0, .int .i64 0]) 2 16 Try.underlying24 hi hz0 hz1 hz2 rfl (by decide) _ _ _ rfl (World.ownsRow.alloc HO.out _) ⟨wr.heap.size, 0, none⟩ 1 1 [.int .i64 d, .int .i64 e] rfl rfl ?a1 ?a2 ?a3 ?a4 ?a5 ?_)
            case a1 => exact pair_new _ _ _ _
            case a2 => intro u hu; simp at hu; rcases hu with rfl | rfl <;> rfl
            case a3 => unfold maxLen; omega
            case a4 => omega
            case a5 => have := HB.out.size; simp; omega
            intro v' w1 hown' hgrow _
            obtain ⟨va', vc', rfl⟩ := own_shape hown'
            have HO2 := Lib.hid hown'
            have HG := Lib.hid hgrow
            clear hown' hgrow
            go_wp2
            go_roundg (n0 + 2 - d)
            case measure => have := HGK.out; omega
            case rel =>
              refine ⟨gk, d + 1, k + 1, acc ++ [(d : Int), (e : Int)], va', vc', by omega, ⟨hn'0, by omega⟩, ⟨by omega, by omega, by omega⟩, rfl, rfl, by go_num, ?_, ?_, ?_⟩
              · unfold PairsOwn; rw [List.map_append]; exact HO2.out
              · exact (HB.out.alloc HB.out.size _).grown HG.out (Nat.le_trans HB.out.size (by simp)) (fun q hq => (World.ownsRow.lt HO.out q hq).1)
              · rw [HE.out, Num.fac_go hd2 hn0 HD.out, HS2.out, HF.out]
          · have HF := Lib.hid (show Num.facNew d e = [] by simp [Num.facNew]; omega)
            obtain rfl : e = 0 := by omega
            go_wp2
            go_roundg (n0 + 2 - d)
            case measure => have := HGK.out; omega
            case rel =>
              refine ⟨gk, d + 1, k, acc, va, vc, by omega, ⟨hn'0, by omega⟩, ⟨by omega, by omega, by omega⟩, rfl, rfl, by go_num, HO.out, HB.out, ?_⟩
              rw [HE.out, Num.fac_go hd2 hn0 HD.out, HS2.out, HF.out, List.append_nil]
    · have hdni : (n : Int) < (d : Int) * d := by
        have e : (d : Int) * d = ((d * d : Nat) : Int) := by simp
        rw [e]; omega
      have HE2 := Lib.hid (HE.out.trans (Num.fac_end hdn))
      clear hdn
      by_cases hn2 : 1 < n
      · have hn2i : (1 : Int) < (n : Int) := by omega
        have HF := Lib.hid (show Num.facLast n = [(n : Int), 1] by simp [Num.facLast, hn2])
        go_wp2_with (at_builtin; refine wpList_append_own _ rfl _ _ 24 rfl w.heap.size 30 i0 (.agg #[.int .i64 0, .int .i64 0]) 2 16 Try.underlying24 hi hz0 hz1 hz2 rfl (by decide) _ _ _ rfl (World.ownsRow.alloc HO.out _) ⟨wr.heap.size, 0, none⟩ 1 1 [.int .i64 n, .int .i64 1] rfl rfl ?b1 ?b2 ?b3 ?b4 ?b5 ?_)
        case b1 => exact pair_new _ _ _ _
        case b2 => intro u hu; simp at hu; rcases hu with rfl | rfl <;> rfl
        case b3 => unfold maxLen; omega
        case b4 => omega
        case b5 => have := HB.out.size; simp; omega
        intro v' w1 hown' hgrow _
        obtain ⟨va', vc', rfl⟩ := own_shape hown'
        have HO2 := Lib.hid hown'
        have HG := Lib.hid hgrow
        clear hown' hgrow
        go_wp2
        go_ret
        refine ⟨va', k + 1, vc', rfl, ?_, by omega, ?_⟩
        · unfold PairsOwn; rw [HE2.out, HF.out, List.map_append]; exact HO2.out
        · exact (HB.out.alloc HB.out.size _).grown HG.out (Nat.le_trans HB.out.size (by simp)) (fun q hq => (World.ownsRow.lt HO.out q hq).1)
      · have HF := Lib.hid (show Num.facLast n = [] by simp [Num.facLast]; omega)
        have hn2i : (n : Int) ≤ 1 := by omega
        go_wp2
        go_ret
        refine ⟨va, k, vc, rfl, ?_, by omega, HB.out⟩
        rw [HE2.out, HF.out, List.append_nil]; exact HO.out

set_option maxRecDepth 100000 in
set_option maxHeartbeats 3200000 in
theorem factorsOf_nat (n0 : Nat) (h0 : 0 < n0) (h1 : n0 ≤ 2000000000) (w : World) :
    Calls Try.prog 67 #[.int .i64 n0] w (FacOut w (Num.factors n0)) := by
  obtain ⟨i0, hi, hz0, hz1, hz2⟩ := info_parts Try.infoPP
  go_enter Try.func67, Try.ntmps67
  go_wp2
  go_loopg [0, 3, 4] (n0 + 1) (fun gk N V D wr => ∃ (n d k : Nat) (acc : List Int) (va : Option Addr) (vc : Nat), gk + d = n0 + 3 ∧ (0 < n ∧ n ≤ n0) ∧ (2 ≤ d ∧ d ≤ 44722 ∧ k ≤ d) ∧ N = .int .i64 n ∧ V = .slice va k vc ∧ D = .int .i64 d ∧
    PairsOwn wr w.heap.size (.slice va k vc) k acc ∧ Below w.heap.size w wr ∧ Num.factors n0 = Num.fac n d acc)
  case atStart => exact ⟨n0, 2, 0, [], none, 0, by omega, ⟨h0, Nat.le_refl _⟩, ⟨by omega, by omega, by omega⟩, rfl, rfl, rfl, World.ownsRow_nil _ _ _ _, Below.refl _ _, rfl⟩
  case round =>
    obtain ⟨n, d, k, acc, va, vc, hgk, ⟨hn0, hn1⟩, ⟨hd2, hd3, hkd⟩, rfl, rfl, rfl, hown, hbel, he⟩ := hrel
    have HO := Lib.hid hown
    have HB := Lib.hid hbel
    have HE := Lib.hid he
    have HGK := Lib.hid hgk
    clear hown hbel he hgk
    have hsq := sq_bound hd3
    have hsqi : (0 : Int) ≤ (d : Int) * d ∧ (d : Int) * d ≤ 2000057284 := by
      have e : (d : Int) * d = ((d * d : Nat) : Int) := by simp
      rw [e]; omega
    obtain ⟨hsq0, hsq1⟩ := hsqi
    by_cases hdn : d * d ≤ n
    · have hdni : (d : Int) * d ≤ (n : Int) := by
        have e : (d : Int) * d = ((d * d : Nat) : Int) := by simp
        rw [e]; omega
      have hd4 := root_bound hdn (by omega)
      have hdlt : d < n := by
        have : 2 * d ≤ d * d := Nat.mul_le_mul_right d hd2
        omega
      have HD := Lib.hid hdn
      clear hdn
      go_wp2
      go_loopg [0, 5] n (fun gj N E wj => ∃ (e : Nat), (0 < gj ∧ gj + e ≤ n) ∧ N = .int .i64 gj ∧ E = .int .i64 e ∧ wj = wr ∧ Num.strip n d 0 = Num.strip gj d e)
      case atStart => exact ⟨0, ⟨hn0, by omega⟩, rfl, rfl, rfl, rfl⟩
      case round =>
        obtain ⟨e, ⟨hn'0, hn'1⟩, rfl, rfl, rfl, hs⟩ := hrel
        have HS := Lib.hid hs
        clear hs
        have hdpos : (0 : Int) < (d : Int) := by omega
        by_cases hdiv : gk % d = 0
        · have hdi : ((gk : Int) % (d : Int) == 0) = true := by
            have : ((gk % d : Nat) : Int) = 0 := by omega
            simp only [Int.natCast_emod] at this
            simp [this]
          have hlt : gk / d < gk := Nat.div_lt_self hn'0 hd2
          have hdle : d ≤ gk := Nat.le_of_dvd hn'0 (Nat.dvd_of_mod_eq_zero hdiv)
          have hpos : 0 < gk / d := Nat.div_pos hdle (by omega)
          have HDV := Lib.hid hdiv
          clear hdiv
          go_wp2
          go_roundg (gk / d)
          case measure => exact hlt
          case rel => exact ⟨e + 1, ⟨hpos, by omega⟩, by simp, by go_num, rfl, HS.out.trans (Num.strip_go hd2 hn'0 HDV.out)⟩
        · have hdi : ((gk : Int) % (d : Int) == 0) = false := by
            have : ((gk % d : Nat) : Int) ≠ 0 := by omega
            simp only [Int.natCast_emod] at this
            simp [this]
          have HS2 := Lib.hid (HS.out.trans (Num.strip_end hdiv))
          clear hdiv
          by_cases he0 : 0 < e
          · have he0i : (0 : Int) < (e : Int) := by omega
            have HF := Lib.hid (show Num.facNew d e = [(d : Int), (e : Int)] by simp [Num.facNew, he0])
            go_wp2_with (at_builtin; refine wpList_append_own _ rfl _ _ 24 rfl w.heap.size 30 i0 (.agg #[.int .i64 0, .int .i64 0]) 2 16 Try.underlying24 hi hz0 hz1 hz2 rfl (by decide) _ _ _ rfl (World.ownsRow.alloc HO.out _) ⟨wr.heap.size, 0, none⟩ 1 1 [.int .i64 d, .int .i64 e] rfl rfl ?a1 ?a2 ?a3 ?a4 ?a5 ?_)
            case a1 => exact pair_new _ _ _ _
            case a2 => intro u hu; simp at hu; rcases hu with rfl | rfl <;> rfl
            case a3 => unfold maxLen; omega
            case a4 => omega
            case a5 => have := HB.out.size; simp; omega
            intro v' w1 hown' hgrow _
            obtain ⟨va', vc', rfl⟩ := own_shape hown'
            have HO2 := Lib.hid hown'
            have HG := Lib.hid hgrow
            clear hown' hgrow
            go_wp2
            go_roundg (n0 + 2 - d)
            case measure => have := HGK.out; omega
            case rel =>
              refine ⟨gk, d + 1, k + 1, acc ++ [(d : Int), (e : Int)], va', vc', by omega, ⟨hn'0, by omega⟩, ⟨by omega, by omega, by omega⟩, rfl, rfl, by go_num, ?_, ?_, ?_⟩
              · unfold PairsOwn; rw [List.map_append]; exact HO2.out
              · exact (HB.out.alloc HB.out.size _).grown HG.out (Nat.le_trans HB.out.size (by simp)) (fun q hq => (World.ownsRow.lt HO.out q hq).1)
              · rw [HE.out, Num.fac_go hd2 hn0 HD.out, HS2.out, HF.out]
          · have HF := Lib.hid (show Num.facNew d e = [] by simp [Num.facNew]; omega)
            obtain rfl : e = 0 := by omega
            go_wp2
            go_roundg (n0 + 2 - d)
            case measure => have := HGK.out; omega
            case rel =>
              refine ⟨gk, d + 1, k, acc, va, vc, by omega, ⟨hn'0, by omega⟩, ⟨by omega, by omega, by omega⟩, rfl, rfl, by go_num, HO.out, HB.out, ?_⟩
              rw [HE.out, Num.fac_go hd2 hn0 HD.out, HS2.out, HF.out, List.append_nil]
    · have hdni : (n : Int) < (d : Int) * d := by
        have e : (d : Int) * d = ((d * d : Nat) : Int) := by simp
        rw [e]; omega
      have HE2 := Lib.hid (HE.out.trans (Num.fac_end hdn))
      clear hdn
      by_cases hn2 : 1 < n
      · have hn2i : (1 : Int) < (n : Int) := by omega
        have HF := Lib.hid (show Num.facLast n = [(n : Int), 1] by simp [Num.facLast, hn2])
        go_wp2_with (at_builtin; refine wpList_append_own _ rfl _ _ 24 rfl w.heap.size 30 i0 (.agg #[.int .i64 0, .int .i64 0]) 2 16 Try.underlying24 hi hz0 hz1 hz2 rfl (by decide) _ _ _ rfl (World.ownsRow.alloc HO.out _) ⟨wr.heap.size, 0, none⟩ 1 1 [.int .i64 n, .int .i64 1] rfl rfl ?b1 ?b2 ?b3 ?b4 ?b5 ?_)
        case b1 => exact pair_new _ _ _ _
        case b2 => intro u hu; simp at hu; rcases hu with rfl | rfl <;> rfl
        case b3 => unfold maxLen; omega
        case b4 => omega
        case b5 => have := HB.out.size; simp; omega
        intro v' w1 hown' hgrow _
        obtain ⟨va', vc', rfl⟩ := own_shape hown'
        have HO2 := Lib.hid hown'
        have HG := Lib.hid hgrow
        clear hown' hgrow
        go_wp2
        go_ret
        refine ⟨va', k + 1, vc', rfl, ?_, by omega, ?_⟩
        · unfold PairsOwn; rw [HE2.out, HF.out, List.map_append]; exact HO2.out
        · exact (HB.out.alloc HB.out.size _).grown HG.out (Nat.le_trans HB.out.size (by simp)) (fun q hq => (World.ownsRow.lt HO.out q hq).1)
      · have HF := Lib.hid (show Num.facLast n = [] by simp [Num.facLast]; omega)
        have hn2i : (n : Int) ≤ 1 := by omega
        go_wp2
        go_ret
        refine ⟨va, k, vc, rfl, ?_, by omega, HB.out⟩
        rw [HE2.out, HF.out, List.append_nil]; exact HO.out

theorem nFactor_any (n : Int) (h0 : 0 < n) (h1 : n ≤ 2000000000) (w : World) :
    Calls Try.prog 69 #[.int .i64 n] w (FacOut w (Num.factors n.toNat)) := by
  obtain ⟨n, rfl⟩ := Int.eq_ofNat_of_zero_le (show 0 ≤ n by omega)
  exact nFactor_nat n (by omega) (by omega) w

theorem factorsOf_any (n : Int) (h0 : 0 < n) (h1 : n ≤ 2000000000) (w : World) :
    Calls Try.prog 67 #[.int .i64 n] w (FacOut w (Num.factors n.toNat)) := by
  obtain ⟨n, rfl⟩ := Int.eq_ofNat_of_zero_le (show 0 ≤ n by omega)
  exact factorsOf_nat n (by omega) (by omega) w

/-- A call returns a slice of pairs of its own, and a bool. -/
def PairsOut (w : World) (res : List Int) (ok : Bool) (e : Ending) (w' : World) : Prop :=
  ∃ ad n cap, e = .returned (.tuple #[.slice ad n cap, .bool ok]) ∧ PairsOwn w' w.heap.size (.slice ad n cap) n res ∧ n ≤ 44723 ∧ Below w.heap.size w w'

def facB (n : Int) : Bool := decide (1 ≤ n) && decide (n ≤ 2000000000)
def facRes (n : Int) : List Int := if facB n then Num.factors n.toNat else []
theorem facB_true {n : Int} : facB n = true ↔ 1 ≤ n ∧ n ≤ 2000000000 := by simp [facB]
theorem facB_false {n : Int} : facB n = false ↔ n < 1 ∨ 2000000000 < n := by
  rw [← Bool.not_eq_true, facB_true]; omega

theorem pairsOut_nil (w w' : World) (h : Below w.heap.size w w') : PairsOut w [] false (.returned (.tuple #[.slice none 0 0, .bool false])) w' :=
  ⟨none, 0, 0, rfl, World.ownsRow_nil _ _ _ _, by omega, h⟩

theorem factorOf_any (n : Int) (w : World) :
    Calls Try.prog 21 #[.int .i64 n] w (PairsOut w (facRes n) (facB n)) := by
  by_cases h1 : n < 1
  · have hb : facB n = false := facB_false.2 (.inl h1)
    have hr : facRes n = [] := by simp [facRes, hb]
    rw [hb, hr]; clear hb hr
    go_enter Try.func21, Try.ntmps21
    go_wp2
    go_ret2
    exact pairsOut_nil _ _ (Below.refl _ _)
  · by_cases h2 : 2000000000 < n
    · have hb : facB n = false := facB_false.2 (.inr h2)
      have hr : facRes n = [] := by simp [facRes, hb]
      rw [hb, hr]; clear hb hr
      go_enter Try.func21, Try.ntmps21
      go_wp2
      go_ret2
      exact pairsOut_nil _ _ (Below.refl _ _)
    · have hb : facB n = true := facB_true.2 (by omega)
      have hr : facRes n = Num.factors n.toNat := by simp [facRes, hb]
      rw [hb, hr]; clear hb hr
      go_enter Try.func21, Try.ntmps21
      go_wp2_with (go_at_call 67; refine (factorsOf_any _ (by omega) (by omega) _).mono ?_; rintro e w1 ⟨ad, k, cap, rfl, hown, hk, hb⟩)
      go_ret2
      exact ⟨ad, k, cap, rfl, hown, hk, hb⟩

theorem sFactorOf_any (n : Int) (w : World) :
    Calls Try.prog 22 #[.int .i64 n] w (PairsOut w (facRes n) (facB n)) := by
  have hin : inB n 1 2000000000 = facB n := rfl
  cases hb : facB n
  · have hr : facRes n = [] := by simp [facRes, hb]
    rw [hr]
    have HI := Lib.hid (hin.trans hb)
    clear hb hr hin
    go_enter Try.func22, Try.ntmps22
    go_wp2_with (go_at_call 68; refine (l1In_any _ _ _ _).mono ?_; rintro e w' ⟨rfl, rfl⟩; rw [HI.out])
    go_ret2
    exact pairsOut_nil _ _ (Below.refl _ _)
  · have hr : facRes n = Num.factors n.toNat := by simp [facRes, hb]
    rw [hr]
    obtain ⟨h1, h2⟩ := facB_true.1 hb
    have HI := Lib.hid (hin.trans hb)
    clear hb hr hin
    go_enter Try.func22, Try.ntmps22
    go_wp2_with (first | (go_at_call 68; refine (l1In_any _ _ _ _).mono ?_; rintro e w' ⟨rfl, rfl⟩; rw [HI.out]) | (go_at_call 69; refine (nFactor_any _ (by omega) (by omega) _).mono ?_; rintro e w1 ⟨ad, k, cap, rfl, hown, hk, hb⟩))
    go_ret2
    exact ⟨ad, k, cap, rfl, hown, hk, hb⟩

end Go.Proofs.Ytdeedblemcfllaa

