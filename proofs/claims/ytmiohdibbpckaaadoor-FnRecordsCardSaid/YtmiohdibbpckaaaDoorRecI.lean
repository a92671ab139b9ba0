/- DecodeProof of the program and of the reference. -/
import Derived.Test.YtmiohdibbpckaaaDoorRecA
import Derived.Test.YtmiohdibbpckaaaDoorTyI
import Derived.RegionTactic
import Derived.ChangeAlike
import Derived.BigRegion
namespace Go.Proofs.YtmiohdibbpckaaaDoor
open Go.RowKit

def dpB (zs : List Int) : Bool := hashB zs && splOk 3 zs
def prOf (l : List (List Int)) : PrD := ⟨l.getD 0 [], l.getD 1 [], l.getD 2 []⟩
def dpP (zs : List Int) : PrD := if dpB zs then prOf (splRes 3 zs) else ⟨[], [], []⟩
theorem dpP_no {zs : List Int} (h : dpB zs = false) : dpP zs = ⟨[], [], []⟩ := by simp [dpP, h]
theorem dpP_yes {zs : List Int} (h : dpB zs = true) : dpP zs = prOf (splRes 3 zs) := by simp [dpP, h]
theorem spl_three {zs : List Int} (h : splOk 3 zs = true) : ∃ a b c, splRes 3 zs = [a, b, c] := by
  cases hs : spl 3 zs [] with
  | none => rw [(splOk_none hs).1] at h; cases h
  | some ar =>
    obtain ⟨l, r⟩ := ar
    cases r with
    | nil =>
      rw [(splOk_some hs).2]
      obtain ⟨h1, _⟩ := spl_bound 3 zs [] l [] hs
      match l, h1 with
      | [a, b, c], _ => exact ⟨a, b, c, rfl⟩
    | cons x t => rw [(splOk_more hs (by simp)).1] at h; cases h
theorem dpP_bound (zs : List Int) : (dpP zs).n ≤ zs.length := by
  cases hb : dpB zs
  · rw [dpP_no hb]; simp [PrD.n]
  · have h3 : splOk 3 zs = true := by simp only [dpB, Bool.and_eq_true] at hb; exact hb.2
    obtain ⟨a, b, c, e⟩ := spl_three h3
    have := (splRes_bound 3 zs).2
    rw [dpP_yes hb, e]
    rw [e] at this
    simp [prOf, PrD.n, nS] at this ⊢
    omega

def AnsP (w : World) (p : PrD) (ok : Bool) (e : Ending) (w' : World) : Prop := ∃ a b c, e = .returned (.tuple #[.agg #[a, b, c], .bool ok]) ∧ OwP w.heap.size w'.heap.size w' (.agg #[a, b, c]) p ∧ Below w.heap.size w w'
theorem owP_nil (Q : Nat) (w : World) (hQ : Q ≤ w.heap.size) : OwP Q w.heap.size w (.agg #[.slice none 0 0, .slice none 0 0, .slice none 0 0]) ⟨[], [], []⟩ :=
  ⟨_, _, _, w.heap.size, w.heap.size, rfl, owI_nil _ _ hQ, owI_nil _ _ (Nat.le_refl _), owI_nil _ _ (Nat.le_refl _)⟩
/-- Three rows in a row of one's own are a proof. -/
theorem owP_three {Q P : Nat} {w : World} {v : Value} {a b c : List Int} (h : OwS Q P w v [a, b, c]) :
    ∃ g cap a1 a2 b1 b2 c1 c2, v = .slice (some ⟨g, 0, none⟩) 3 cap ∧ Q ≤ g ∧ g < w.heap.size ∧ w.cell? ⟨g, 0, none⟩ = some (.slice a1 a.length a2) ∧ w.cell? ⟨g, 1, none⟩ = some (.slice b1 b.length b2) ∧ w.cell? ⟨g, 2, none⟩ = some (.slice c1 c.length c2) ∧ OwP Q P w (.agg #[.slice a1 a.length a2, .slice b1 b.length b2, .slice c1 c.length c2]) ⟨a, b, c⟩ := by
  obtain ⟨M, vs, ⟨h1, h2, h3, h4⟩, hc⟩ := h
  have hlen := hc.len
  match vs, hlen, hc with
  | [v0, v1, v2], _, hc =>
    obtain ⟨M1, o0, M2, o1, M3, o2, hle⟩ := hc
    obtain ⟨a1, a2, rfl⟩ := own_shape o0.1
    obtain ⟨b1, b2, rfl⟩ := own_shape o1.1
    obtain ⟨c1, c2, rfl⟩ := own_shape o2.1
    rcases h1.2 with ⟨_, hn⟩ | ⟨g, cap, cur, hv, hg, hh, _⟩
    · simp at hn
    · have hgl := (Array.getElem?_eq_some_iff.1 hh).1
      have e1 : ∀ i, (⟨g, 0, none⟩ : Addr).add i = ⟨g, i, none⟩ := fun i => by unfold Addr.add; split <;> simp_all
      have cell : ∀ (i : Nat) u, [Value.slice a1 a.length a2, .slice b1 b.length b2, .slice c1 c.length c2][i]? = some u → w.cell? ⟨g, i, none⟩ = some u := fun i u hu => by
        have := h1.cells (g := g) (by rw [hv]; rfl) i u hu
        rwa [e1] at this
      refine ⟨g, cap, a1, a2, b1, b2, c1, c2, hv, hg, hgl, cell 0 _ rfl, cell 1 _ rfl, cell 2 _ rfl, _, _, _, M1, M2, rfl, ?_, o1, ?_⟩
      · exact o0.wide h4 (Nat.le_refl _) o0.2.2.1
      · exact o2.wide (Nat.le_refl _) hle.1 hle.2

set_option maxRecDepth 100000 in
set_option maxHeartbeats 1600000 in
theorem decodeProof_any {P : Nat} {w : World} {v : Value} {zs : List Int} (h : InI P w v zs) (hl : zs.length ≤ 1048576) :
    Calls Tryd.prog 20 #[v] w (AnsP w (dpP zs) (dpB zs)) := by
  have hal := ba w (.cells #[.slice none 0 0, .slice none 0 0, .slice none 0 0] 40)
  have H1 := Lib.hid (h.below hal)
  have HX := Lib.hid (b3_new w (.slice none 0 0) (.slice none 0 0) (.slice none 0 0) 40)
  have HA := Lib.hid hal
  obtain ⟨ad, cap, rfl⟩ := h.shape
  have HI := Lib.hid (h.below hal).parts.2.1.ints
  obtain ⟨x0, x1, x2, xf⟩ := HX.out
  have xf0 := xf 0
  have xf1 := xf 1
  have xf2 := xf 2
  clear xf hal h
  cases hr : hashB zs
  · have e1 : dpB zs = false := by simp [dpB, hr]
    rw [e1, dpP_no e1]
    have HR := Lib.hid hr
    clear e1 hr
    go_enter Tryd.func20, Tryd.ntmps20
    go_wp2_with fail
    refine (isRecord_any _ _ _ zs rfl (by omega) _ (by exact HI.out)).mono ?_
    rw [HR.out]
    rintro e w' ⟨rfl, rfl⟩
    go_wp2
    (try simp only [Exit.inBlock, Exit.then])
    refine bodyPost_ret (v := .tuple #[.agg #[.slice none 0 0, .slice none 0 0, .slice none 0 0], .bool false]) ?_ rfl ?_
    · rw [results_cell_tmp rfl]; go_simp
    · exact ⟨_, _, _, rfl, owP_nil _ _ (ba w _).size, HA.out⟩
  · have HR := Lib.hid hr
    have HD := Lib.hid (digsB_true.1 (hashB_true.1 hr).2)
    cases hs : splOk 3 zs
    · have e1 : dpB zs = false := by simp [dpB, hs]
      rw [e1, dpP_no e1]
      have HS := Lib.hid hs
      clear e1 hr hs
      go_enter Tryd.func20, Tryd.ntmps20
      go_wp2_with fail
      refine (isRecord_any _ _ _ zs rfl (by omega) _ (by exact HI.out)).mono ?_
      rw [HR.out]
      rintro e w' ⟨rfl, rfl⟩
      go_wp2_with fail
      refine (decodeParts_any 3 H1.out hl HD.out (by decide)).mono ?_
      rw [HS.out]
      rintro e w1 ⟨v1, rfl, ho, hb⟩
      have HX1 := Lib.hid (HX.out.below hb)
      have HA1 := Lib.hid (bt HA.out hb)
      obtain ⟨y0, y1, y2, yf⟩ := HX1.out
      have yf0 := yf 0
      have yf1 := yf 1
      have yf2 := yf 2
      clear yf ho hb x0 x1 x2 xf0 xf1 xf2
      go_wp2
      (try simp only [Exit.inBlock, Exit.then])
      refine bodyPost_ret (v := .tuple #[.agg #[.slice none 0 0, .slice none 0 0, .slice none 0 0], .bool false]) ?_ rfl ?_
      · rw [results_cell_tmp rfl]; go_simp
      · have hb2 := ((HA1.out.setCell (p := ⟨w.heap.size, 0, none⟩) (Nat.le_refl _) (.slice none 0 0)).setCell (p := ⟨w.heap.size, 1, none⟩) (Nat.le_refl _) (.slice none 0 0)).setCell (p := ⟨w.heap.size, 2, none⟩) (Nat.le_refl _) (.slice none 0 0)
        exact ⟨_, _, _, rfl, owP_nil _ _ hb2.size, hb2⟩
    · obtain ⟨c, h', r, e3⟩ := spl_three hs
      have e1 : dpB zs = true := by simp [dpB, hs, hr]
      rw [e1, dpP_yes e1, e3]
      have HS := Lib.hid hs
      have HE3 := Lib.hid e3
      clear e1 hr hs e3
      go_enter Tryd.func20, Tryd.ntmps20
      go_wp2_with fail
      refine (isRecord_any _ _ _ zs rfl (by omega) _ (by exact HI.out)).mono ?_
      rw [HR.out]
      rintro e w' ⟨rfl, rfl⟩
      go_wp2_with fail
      refine (decodeParts_any 3 H1.out hl HD.out (by decide)).mono ?_
      rw [HS.out, HE3.out]
      rintro e w1 ⟨v1, rfl, ho, hb⟩
      obtain ⟨g, gc, a1, a2, b1, b2, c1, c2, rfl, hg, hgl, k0, k1, k2, hop⟩ := owP_three ho
      have HX1 := Lib.hid (HX.out.below hb)
      have HA1 := Lib.hid (bt HA.out hb)
      have HOP := Lib.hid hop
      have hgw : g ≠ w.heap.size := by simp at hg; omega
      obtain ⟨y0, y1, y2, yf⟩ := HX1.out
      have yf0 := yf 0
      have yf1 := yf 1
      have yf2 := yf 2
      clear yf ho hb x0 x1 x2 xf0 xf1 xf2 hop
      go_wp2
      go_region
      all_goals (
        go_wp2
        (try simp only [Exit.inBlock, Exit.then])
        refine bodyPost_ret (v := .tuple #[.agg #[.slice a1 c.length a2, .slice b1 h'.length b2, .slice c1 r.length c2], .bool true]) ?_ rfl ?_
        · rw [results_cell_tmp rfl]; go_simp
        · have hb2 := (((HA1.out.setCell (p := ⟨w.heap.size, 0, none⟩) (Nat.le_refl _) (.slice a1 c.length a2)).setCell (p := ⟨w.heap.size, 1, none⟩) (Nat.le_refl _) (.slice b1 h'.length b2)).setCell (p := ⟨w.heap.size, 2, none⟩) (Nat.le_refl _) (.slice c1 r.length c2)).drew
          have hm := ((mid_cell w1 w.heap.size 0 (.slice a1 c.length a2)).trans (mid_cell _ w.heap.size 1 (.slice b1 h'.length b2))).trans (mid_cell _ w.heap.size 2 (.slice c1 r.length c2))
          exact ⟨_, _, _, rfl, ((HOP.out.mid hm (.inr (by simp))).below ((Below.refl _ _).drew)).wide (by simp) (by simp), hb2⟩)

end Go.Proofs.YtmiohdibbpckaaaDoor

