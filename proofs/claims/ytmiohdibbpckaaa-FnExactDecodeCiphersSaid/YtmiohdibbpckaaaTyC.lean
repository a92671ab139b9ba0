/- Lists of ciphertexts; what the laws' helpers do with them. A list is told flat: A and B of each. -/
import Derived.Test.YtmiohdibbpckaaaTyI
namespace Go.Proofs.Ytmiohdibbpckaaa
open Go.RowKit

theorem Try.infoCC : (Try.prog.info? 67).map (fun i => (i.zero, i.size, i.bytes)) = some (some (.agg #[.int .i64 0, .int .i64 0]), 2, 16) := by kernel_rfl
def CipsOwn (w : World) (base : Nat) (v : Value) (n : Nat) (res : List Int) : Prop := w.ownsRow base 67 2 v n (res.map (Value.int .i64))

theorem eqCip_same (p q : Int) (w : World) :
    Calls Try.prog 58 #[.agg #[.int .i64 p, .int .i64 q], .agg #[.int .i64 p, .int .i64 q]] w fun e w' => e = .returned (.bool true) ∧ ∃ c1 c2 : Array Value, w' = (w.alloc (.cells c1 67)).alloc (.cells c2 67) := by
  go_enter Try.func58, Try.ntmps58
  go_wp2
  go_ret
  exact ⟨rfl, _, _, rfl⟩

theorem ints_of_cips {w : World} {base n cap : Nat} {ad : Option Addr} {zs : List Int} (h : CipsOwn w base (.slice ad n cap) n zs) :
    IsInts w ad zs ∧ zs.length = n * 2 ∧ ∀ a, ad = some a → base ≤ a.block ∧ a.block < w.heap.size := ints_of_own2 h

set_option maxHeartbeats 1600000 in
theorem eqCips_same (ad ad' : Option Addr) (n n' cap cap' : Nat) (zs : List Int) (hn : zs.length = n * 2) (hn' : zs.length = n' * 2) (hl : n ≤ 17592186044416) (w : World) (hz : IsInts w ad zs) (hz' : IsInts w ad' zs) :
    Calls Try.prog 29 #[.slice ad n cap, .slice ad' n' cap'] w fun e w' => e = .returned (.bool true) ∧ Below w.heap.size w w' := by
  obtain rfl : n = n' := by omega
  have HN := Lib.hid hn
  clear hn hn'
  go_enter Try.func29, Try.ntmps29
  go_wp2
  go_loopw [5] (fun K wr => ∃ k : Nat, k ≤ n ∧ K = .int .i64 k ∧ Below w.heap.size w wr) (fun K _ => n - (intOf K).toNat)
  case atStart => exact ⟨0, Nat.zero_le _, rfl, Below.refl _ _⟩
  case round =>
    obtain ⟨k, hk, rfl, hbel⟩ := hrel
    by_cases hkn : k < n
    · obtain ⟨b, off, p, q, rfl, hb, hc1, hc2, hd⟩ := (below_ints hz hbel).pair hkn HN.out
      obtain ⟨b', off', p', q', rfl, hb', hc1', hc2', hd'⟩ := (below_ints hz' hbel).pair hkn HN.out
      obtain ⟨rfl, rfl⟩ : p = p' ∧ q = q' := by rw [hd] at hd'; exact ⟨(List.cons.inj hd').1, (List.cons.inj (List.cons.inj hd').2).1⟩
      have HB := Lib.hid hbel
      clear hbel hd hd'
      go_wp2
      go_region_held3 (fun w' => w'.cell? ⟨b, off + k * 2, none⟩ = some (.int .i64 p) ∧ w'.cell? ⟨b, off + k * 2 + 1, none⟩ = some (.int .i64 q) ∧ w'.cell? ⟨b', off' + k * 2, none⟩ = some (.int .i64 p) ∧ w'.cell? ⟨b', off' + k * 2 + 1, none⟩ = some (.int .i64 q)) (first | exact ⟨hc1, hc2, hc1', hc2'⟩ | exact ⟨keep2 hb hc1 _ _ _, keep2 hb hc2 _ _ _, keep2 hb' hc1' _ _ _, keep2 hb' hc2' _ _ _⟩)
        ((go_at_call 58; refine (eqCip_same _ _ _).mono ?_; rintro e w' ⟨rfl, o1, o2, rfl⟩))
      go_wp2
      go_roundw
      case rel =>
        refine ⟨k + 1, by omega, by go_num, ?_⟩
        first | exact ((HB.out.alloc HB.out.size _).alloc (by have := HB.out.size; simp; omega) _).drew | exact (HB.out.alloc HB.out.size _).alloc (by have := HB.out.size; simp; omega) _
      case measure => simp only [intOf]; omega
    · have HB := Lib.hid hbel
      clear hbel
      go_wp2
      go_ret
      exact ⟨rfl, HB.out⟩


theorem cips_cell {wr : World} {B g n cap j : Nat} {zs : List Int} (hown : CipsOwn wr B (.slice (some ⟨g, 0, none⟩) n cap) n zs) (hj : j < n * 2) :
    (∃ u : Int, wr.cell? ⟨g, j, none⟩ = some (.int .i64 u)) ∧ wr.frozen? ⟨g, j, none⟩ = false := by
  refine ⟨⟨zs.getD j 0, ?_⟩, World.ownsRow.frozenAt hown j⟩
  rw [World.ownsRow.cellAt hown j hj]
  have hl : zs.length = n * 2 := by have := hown.1; simpa using this
  have hk' : j < zs.length := by omega
  simp [hk']

def CMarkPost (w : World) (base : Nat) (ad : Option Addr) (n cap : Nat) (k : Int) (e : Ending) (w' : World) : Prop :=
  e = .returned (.int .i64 (k + (n * 2 : Nat))) ∧ CipsOwn w' base (.slice ad n cap) n (marks k (n * 2)) ∧ w.grownBy w' (Value.slice ad n cap).ownBlock

theorem cmark_one {wr : World} {B g n cap j : Nat} {zs : List Int} {k : Int} (hown : CipsOwn wr B (.slice (some ⟨g, 0, none⟩) n cap) n (over (marks k (n * 2)) zs j)) (hj : j < n * 2) (hz : zs.length = n * 2) :
    CipsOwn (wr.setCell ⟨g, j, none⟩ (.int .i64 (k + j))) B (.slice (some ⟨g, 0, none⟩) n cap) n (over (marks k (n * 2)) zs (j + 1)) ∧ wr.grownBy (wr.setCell ⟨g, j, none⟩ (.int .i64 (k + j))) (some g) := by
  have := World.ownsRow.stored hown j (.int .i64 (k + j))
  rw [← List.map_set] at this
  have e := over_step (xs := marks k (n * 2)) (ys := zs) (j := j) (by rw [marks_length]; omega) (by omega)
  rw [marks_get] at e
  rwa [e] at this

theorem cmark_round {wr : World} {B g n cap j : Nat} {zs : List Int} {k : Int} (hown : CipsOwn wr B (.slice (some ⟨g, 0, none⟩) n cap) n (over (marks k (n * 2)) zs (j * 2))) (hj : j < n) (hz : zs.length = n * 2) :
    CipsOwn ((wr.setCell ⟨g, j * 2, none⟩ (.int .i64 (k + (j : Int) * 2))).setCell ⟨g, j * 2 + 1, none⟩ (.int .i64 (k + (j : Int) * 2 + 1))) B (.slice (some ⟨g, 0, none⟩) n cap) n (over (marks k (n * 2)) zs ((j + 1) * 2)) ∧
    wr.grownBy ((wr.setCell ⟨g, j * 2, none⟩ (.int .i64 (k + (j : Int) * 2))).setCell ⟨g, j * 2 + 1, none⟩ (.int .i64 (k + (j : Int) * 2 + 1))) (some g) ∧
    (∃ u : Int, (wr.setCell ⟨g, j * 2, none⟩ (.int .i64 (k + (j : Int) * 2))).cell? ⟨g, j * 2 + 1, none⟩ = some (.int .i64 u)) ∧ (wr.setCell ⟨g, j * 2, none⟩ (.int .i64 (k + (j : Int) * 2))).frozen? ⟨g, j * 2 + 1, none⟩ = false := by
  obtain ⟨o1, g1⟩ := cmark_one hown (by omega) hz
  obtain ⟨o2, g2⟩ := cmark_one (j := j * 2 + 1) o1 (by omega) hz
  obtain ⟨c1, c2⟩ := cips_cell (j := j * 2 + 1) o1 (by omega)
  rw [show (((j * 2 : Nat)) : Int) = (j : Int) * 2 by simp] at *
  rw [show k + ((j * 2 + 1 : Nat) : Int) = k + (j : Int) * 2 + 1 by omega, show j * 2 + 1 + 1 = (j + 1) * 2 by omega] at *
  exact ⟨o2, grown_trans g1 g2, c1, c2⟩

set_option maxHeartbeats 1600000 in
theorem markCips_any (base : Nat) (ad : Option Addr) (n cap : Nat) (zs : List Int) (k : Int) (hk0 : 0 ≤ k) (hk1 : k ≤ 17592186044416) (hl : n ≤ 17592186044416) (w : World) (hown0 : CipsOwn w base (.slice ad n cap) n zs) :
    Calls Try.prog 30 #[.slice ad n cap, .int .i64 k] w (CMarkPost w base ad n cap k) := by
  have hzl : zs.length = n * 2 := by have := hown0.1; simpa using this
  have HZ := Lib.hid hzl
  clear hzl
  rcases hown0.2 with ⟨h1, h2⟩ | ⟨g, cap', cur, h1, h2, h3, h4, h5, h6, h7⟩
  · simp only [Value.slice.injEq] at h1
    obtain ⟨rfl, _, rfl⟩ := h1
    subst h2
    have HO := Lib.hid hown0
    clear hown0
    go_enter Try.func30, Try.ntmps30
    go_wp2
    refine wp_loop_rounds 1 ?_
    rw [rounds_succ]
    go_wp2
    go_ret
    refine ⟨by simp, ?_, World.grownBy.refl _ _⟩
    have hnil : zs = [] := List.length_eq_zero_iff.1 HZ.out
    have := HO.out
    rw [hnil] at this
    simpa [marks] using this
  · simp only [Value.slice.injEq] at h1
    obtain ⟨rfl, _, rfl⟩ := h1
    clear h2 h3 h4 h5 h6 h7
    have HO := Lib.hid hown0
    clear hown0
    go_enter Try.func30, Try.ntmps30
    go_wp2
    go_loopw [1, 5] (fun A J wr => ∃ j : Nat, j ≤ n ∧ A = .int .i64 (k + (j : Int) * 2) ∧ J = .int .i64 j ∧ CipsOwn wr base (.slice (some ⟨g, 0, none⟩) n cap) n (over (marks k (n * 2)) zs (j * 2)) ∧ w.grownBy wr (some g)) (fun _ J _ => n - (intOf J).toNat)
    case atStart => exact ⟨0, Nat.zero_le _, by simp, rfl, by rw [over_zero]; exact HO.out, World.grownBy.refl _ _⟩
    case round =>
      obtain ⟨j, hj, rfl, rfl, hown, hg⟩ := hrel
      by_cases hjn : j < n
      · obtain ⟨⟨u, hcu⟩, hfu⟩ := cips_cell (j := j * 2) hown (by omega)
        obtain ⟨o2, g2, ⟨u2, hcu2⟩, hfu2⟩ := cmark_round hown hjn HZ.out
        have HR := Lib.hid o2
        have HG := Lib.hid (grown_trans hg g2)
        clear hown hg o2 g2
        go_wp2
        go_roundw
        case rel => exact ⟨j + 1, by omega, by go_num, by go_num, HR.out, HG.out⟩
        case measure => simp only [intOf]; omega
      · have HO2 := Lib.hid hown
        have HG := Lib.hid hg
        clear hown hg
        obtain rfl : j = n := by omega
        go_wp2
        go_ret
        refine ⟨by simp, ?_, HG.out⟩
        have h := HO2.out
        rwa [over_all _ _ (by rw [marks_length]; omega) (by rw [HZ.out]; omega)] at h

set_option maxHeartbeats 1600000 in
theorem heldCips_any (ad : Option Addr) (n cap : Nat) (k : Int) (hk0 : 0 ≤ k) (hk1 : k ≤ 17592186044416) (hl : n ≤ 17592186044416) (w : World) (hz : IsInts w ad (marks k (n * 2))) :
    Calls Try.prog 33 #[.slice ad n cap, .int .i64 k] w fun e w' => e = .returned (.int .i64 (k + (n * 2 : Nat))) ∧ w = w' := by
  go_enter Try.func33, Try.ntmps33
  go_wp2
  go_loop [1, 5] (fun A J => ∃ j : Nat, j ≤ n ∧ A = .int .i64 (k + (j : Int) * 2) ∧ J = .int .i64 j) (fun _ J => n - (intOf J).toNat)
  case atStart => exact ⟨0, Nat.zero_le _, by simp, rfl⟩
  case round =>
    obtain ⟨j, hj, rfl, rfl⟩ := hrel
    by_cases hjn : j < n
    · obtain ⟨b, off, p, q, rfl, hb, hc1, hc2, hd⟩ := hz.pair hjn (by rw [marks_length])
      obtain ⟨rfl, rfl⟩ : k + (j : Int) * 2 = p ∧ k + (j : Int) * 2 + 1 = q := by
        rw [List.drop_eq_getElem_cons (by rw [marks_length]; omega), List.drop_eq_getElem_cons (by rw [marks_length]; omega)] at hd
        have e1 := (List.cons.inj hd).1
        have e2 := (List.cons.inj (List.cons.inj hd).2).1
        rw [marks_get] at e1 e2
        omega
      clear hd
      go_wp2
      go_round
      case rel => exact ⟨j + 1, by omega, by go_num, by go_num⟩
      case measure => simp only [intOf]; omega
    · obtain rfl : j = n := by omega
      go_wp2
      go_ret
      exact ⟨by simp, rfl⟩


/-! ### The data -/
def InC (P : Nat) (w : World) (v : Value) (zs : List Int) : Prop := P ≤ w.heap.size ∧ ∃ ad n cap, v = .slice ad n cap ∧ zs.length = n * 2 ∧ InB P w ad zs ∧ (ad = none → cap = 0)
def OwC (Q P : Nat) (w : World) (v : Value) (zs : List Int) : Prop := ∃ n, OwR 67 2 Q P w v n (zs.map (Value.int .i64))
theorem InC.below {P : Nat} {w w' : World} {v : Value} {zs : List Int} (h : InC P w v zs) (hb : Below w.heap.size w w') : InC P w' v zs := by
  obtain ⟨h0, ad, n, cap, rfl, hn, h1, h2⟩ := h
  exact ⟨Nat.le_trans h0 hb.size, ad, n, cap, rfl, hn, h1.below (hb.mono h0), h2⟩
theorem InC.mid {P A B : Nat} {w w' : World} {v : Value} {zs : List Int} (h : InC P w v zs) (hm : Mid A B w w') (hA : P ≤ A) : InC P w' v zs := by
  obtain ⟨h0, ad, n, cap, rfl, hn, h1, h2⟩ := h
  exact ⟨Nat.le_trans h0 hm.size, ad, n, cap, rfl, hn, h1.below (hm.toBelow hA h0), h2⟩
theorem OwC.below {Q P : Nat} {w w' : World} {v : Value} {zs : List Int} (h : OwC Q P w v zs) (hb : Below w.heap.size w w') : OwC Q P w' v zs := by
  obtain ⟨n, h⟩ := h
  exact ⟨n, h.below hb⟩
theorem OwC.mid {Q P A B : Nat} {w w' : World} {v : Value} {zs : List Int} (h : OwC Q P w v zs) (hm : Mid A B w w') (ho : P ≤ A ∨ B ≤ Q) : OwC Q P w' v zs := by
  obtain ⟨n, h⟩ := h
  exact ⟨n, h.mid hm ho⟩
theorem OwC.toIn {Q P : Nat} {w : World} {v : Value} {zs : List Int} (h : OwC Q P w v zs) : InC P w v zs := by
  obtain ⟨n, h1, h2, h3, h4⟩ := h
  obtain ⟨va, vc, rfl⟩ := own_shape h1
  obtain ⟨hi, hn, hbd⟩ := ints_of_own2 h1
  refine ⟨h3, va, n, vc, rfl, hn, ?_, ?_⟩
  · rcases hi with hi | ⟨b, off, rfl, hb, hc⟩
    · exact .inl hi
    · exact .inr ⟨b, off, rfl, h2 b rfl, hb, hc⟩
  · rintro rfl
    rcases h1.2 with ⟨h, _⟩ | ⟨g, cap', cur, h, _⟩
    · simp only [Value.slice.injEq] at h; exact h.2.2
    · simp at h
theorem InC.le {P : Nat} {w : World} {v : Value} {zs : List Int} (h : InC P w v zs) : P ≤ w.heap.size := h.1
theorem OwC.le {Q P : Nat} {w : World} {v : Value} {zs : List Int} (h : OwC Q P w v zs) : P ≤ w.heap.size := h.toIn.1
theorem owC_mk {Q : Nat} {w : World} {v : Value} {n : Nat} {zs : List Int} (h : w.ownsRow Q 67 2 v n (zs.map (Value.int .i64))) (hQ : Q ≤ w.heap.size) : OwC Q w.heap.size w v zs := ⟨n, OwR.mk h hQ⟩
theorem owC_nil (Q : Nat) (w : World) (hQ : Q ≤ w.heap.size) : OwC Q w.heap.size w (.slice none 0 0) [] := owC_mk (n := 0) (World.ownsRow_nil _ _ _ _) hQ

def MadeC (w : World) (zs : List Int) (e : Ending) (w' : World) : Prop := ∃ v, e = .returned v ∧ OwC w.heap.size w'.heap.size w' v zs ∧ Below w.heap.size w w'
def MarkC (Q P : Nat) (w : World) (v : Value) (zs : List Int) (k : Int) (e : Ending) (w' : World) : Prop := e = .returned (.int .i64 (k + (zs.length : Int))) ∧ OwC Q P w' v (mkI k zs) ∧ Mid Q P w w'

theorem eqC_any {P P' : Nat} {w : World} {v v' : Value} {zs : List Int} (h : InC P w v zs) (h' : InC P' w v' zs) (hl : zs.length ≤ 17592186044416) :
    Calls Try.prog 29 #[v, v'] w fun e w' => e = .returned (.bool true) ∧ Below w.heap.size w w' := by
  obtain ⟨h0, ad, n, cap, rfl, hn, h1, h2⟩ := h
  obtain ⟨h0', ad', n', cap', rfl, hn', h1', h2'⟩ := h'
  exact eqCips_same ad ad' _ _ cap cap' zs hn hn' (by omega) w h1.ints h1'.ints

theorem markC_any {Q P : Nat} {w : World} {v : Value} {zs : List Int} {k : Int} (h : OwC Q P w v zs) (hk0 : 0 ≤ k) (hk1 : k ≤ 17592186044416) (hl : zs.length ≤ 17592186044416) :
    Calls Try.prog 30 #[v, .int .i64 k] w (MarkC Q P w v zs k) := by
  obtain ⟨n, h1, h2, h3, h4⟩ := h
  obtain ⟨va, vc, rfl⟩ := own_shape h1
  have hn : zs.length = n * 2 := by have := h1.1; simpa using this
  refine (markCips_any Q va n vc zs k hk0 hk1 (by omega) w h1).mono ?_
  rintro e w' ⟨rfl, hown, hg⟩
  refine ⟨by rw [hn], ⟨n, ?_⟩, Mid.grown hg (fun q hq => ⟨(h1.lt q hq).1, h2 q hq⟩)⟩
  unfold mkI
  rw [hn]
  exact ⟨hown, h2, Nat.le_trans h3 hg.size, h4⟩

theorem heldC_any {P : Nat} {w : World} {v : Value} {zs : List Int} {k : Int} (h : InC P w v (mkI k zs)) (hk0 : 0 ≤ k) (hk1 : k ≤ 17592186044416) (hl : zs.length ≤ 17592186044416) :
    Calls Try.prog 33 #[v, .int .i64 k] w fun e w' => e = .returned (.int .i64 (k + (zs.length : Int))) ∧ w = w' := by
  obtain ⟨h0, ad, n, cap, rfl, hn, h1, h2⟩ := h
  rw [mkI_length] at hn
  have h3 := h1.ints
  unfold mkI at h3
  rw [hn] at h3 ⊢
  exact heldCips_any ad n cap k hk0 hk1 (by omega) w h3

theorem made_two (z : Value) (m : Nat) : (madeCells #[z, z] m).toList = List.replicate m z := by
  rw [List.eq_replicate_iff]
  refine ⟨by simp [madeCells], ?_⟩
  intro v hv
  simp [madeCells] at hv
  obtain ⟨i, _, rfl⟩ := hv
  have : i % 2 = 0 ∨ i % 2 = 1 := by omega
  rcases this with h | h <;> simp [h]

theorem toCip_any (p q : Int) (w : World) :
    Calls Try.prog 57 #[.agg #[.int .i64 p, .int .i64 q]] w fun e w' => e = .returned (.agg #[.int .i64 p, .int .i64 q]) ∧ Below w.heap.size w w' := by
  go_enter Try.func57, Try.ntmps57
  go_wp2
  (try simp only [Exit.inBlock, Exit.then])
  refine bodyPost_ret (v := .agg #[.int .i64 p, .int .i64 q]) ?_ rfl ⟨rfl, ?_⟩
  · rw [results_cell_one rfl]; go_simp
  · exact bt (bt (ba _ _) (ba _ _)) (ba _ _)

theorem cset_one {wr : World} {B g n cap j : Nat} {xs ys : List Int} {x : Int} (hown : CipsOwn wr B (.slice (some ⟨g, 0, none⟩) n cap) n (over xs ys j)) (hx : xs.drop j = x :: xs.drop (j + 1)) (hy : xs.length = ys.length) :
    CipsOwn (wr.setCell ⟨g, j, none⟩ (.int .i64 x)) B (.slice (some ⟨g, 0, none⟩) n cap) n (over xs ys (j + 1)) ∧ wr.grownBy (wr.setCell ⟨g, j, none⟩ (.int .i64 x)) (some g) := by
  have hj : j < xs.length := by
    rcases Nat.lt_or_ge j xs.length with h | h
    · exact h
    · rw [List.drop_of_length_le h] at hx; cases hx
  have hg : xs[j] = x := by rw [List.drop_eq_getElem_cons hj] at hx; exact (List.cons.inj hx).1
  have := World.ownsRow.stored hown j (.int .i64 x)
  rw [← List.map_set] at this
  have e := over_step (xs := xs) (ys := ys) (j := j) hj (by omega)
  rw [hg] at e
  rwa [e] at this
theorem cset_two {wr : World} {B g n cap j : Nat} {xs ys : List Int} {x y : Int} (hown : CipsOwn wr B (.slice (some ⟨g, 0, none⟩) n cap) n (over xs ys (j * 2))) (hx : xs.drop (j * 2) = x :: y :: xs.drop ((j + 1) * 2)) (hn : xs.length = n * 2) (hy : ys.length = n * 2) (hj : j < n) :
    CipsOwn ((wr.setCell ⟨g, j * 2, none⟩ (.int .i64 x)).setCell ⟨g, j * 2 + 1, none⟩ (.int .i64 y)) B (.slice (some ⟨g, 0, none⟩) n cap) n (over xs ys ((j + 1) * 2)) ∧
    (∃ u : Int, wr.cell? ⟨g, j * 2, none⟩ = some (.int .i64 u)) ∧ wr.frozen? ⟨g, j * 2, none⟩ = false ∧
    (∃ u : Int, (wr.setCell ⟨g, j * 2, none⟩ (.int .i64 x)).cell? ⟨g, j * 2 + 1, none⟩ = some (.int .i64 u)) ∧ (wr.setCell ⟨g, j * 2, none⟩ (.int .i64 x)).frozen? ⟨g, j * 2 + 1, none⟩ = false ∧
    (∃ u : Int, wr.cell? ⟨g, j * 2 + 1, none⟩ = some (.int .i64 u)) ∧ wr.frozen? ⟨g, j * 2 + 1, none⟩ = false := by
  have e1 : xs.drop (j * 2 + 1) = y :: xs.drop (j * 2 + 1 + 1) := by
    have := congrArg List.tail hx
    rw [List.tail_drop] at this
    rw [this]
    rw [show j * 2 + 1 + 1 = (j + 1) * 2 by omega]; rfl
  have e0 : xs.drop (j * 2) = x :: xs.drop (j * 2 + 1) := by rw [hx, e1, show j * 2 + 1 + 1 = (j + 1) * 2 by omega]
  obtain ⟨o1, g1⟩ := cset_one hown e0 (by omega)
  obtain ⟨o2, g2⟩ := cset_one (j := j * 2 + 1) o1 e1 (by omega)
  obtain ⟨c1, c2⟩ := cips_cell (j := j * 2 + 1) o1 (by omega)
  obtain ⟨d1, d2⟩ := cips_cell (j := j * 2) hown (by omega)
  obtain ⟨f1, f2⟩ := cips_cell (j := j * 2 + 1) hown (by omega)
  rw [show j * 2 + 1 + 1 = (j + 1) * 2 by omega] at o2
  exact ⟨o2, d1, d2, c1, c2, f1, f2⟩

set_option maxRecDepth 100000 in
set_option maxHeartbeats 1600000 in
theorem toC_any {P : Nat} {w : World} {v : Value} {zs : List Int} (h : InC P w v zs) (hl : zs.length ≤ 17592186044416) :
    Calls Try.prog 27 #[v] w (MadeC w zs) := by
  obtain ⟨h0, ad, n, cap, rfl, hn, h1, h2⟩ := h
  have hz := h1.ints
  obtain ⟨i0, hi, hz0, hz1, hz2⟩ := info_parts Try.infoCC
  have HZ2 := Lib.hid hz2
  have HN := Lib.hid hn
  have hl' : n ≤ 8796093022208 := by omega
  clear hz2 hn h2 h1 hl
  go_enter Try.func27, Try.ntmps27
  go_wp2_with (at_make; refine wpList_make_full _ rfl _ _ 42 rfl w.heap.size 67 i0 (.agg #[.int .i64 0, .int .i64 0]) 2 Try.underlying42 hi hz0 hz1 .i64 .i64 _ _ n rfl rfl rfl rfl (by rw [HZ2.out]; omega) (by unfold maxLen; omega) (Nat.le_refl _) ?_; intro w1 hown hgrow)
  go_loopw [4] (fun K wr => ∃ k : Nat, k ≤ n ∧ K = .int .i64 k ∧ CipsOwn wr w.heap.size (.slice (some ⟨w.heap.size, 0, none⟩) n n) n (over zs (List.replicate (n * 2) 0) (k * 2)) ∧ Below w.heap.size w wr) (fun K _ => n - (intOf K).toNat)
  case atStart =>
    refine ⟨0, Nat.zero_le _, rfl, ?_, (Below.refl _ _).grown hgrow (Nat.le_refl _) (by simp)⟩
    rw [show 0 * 2 = 0 from rfl, over_zero]
    have h := hown
    rw [show Value.cells (.agg #[.int .i64 0, .int .i64 0]) = #[.int .i64 0, .int .i64 0] from rfl, made_two] at h
    unfold CipsOwn
    rw [List.map_replicate]
    exact h
  case round =>
    obtain ⟨k, hk, rfl, hownr, hbel⟩ := hrel
    clear hown hgrow
    by_cases hkn : k < n
    · obtain ⟨b, off, p, q, rfl, hb, hc1, hc2, hd⟩ := (hz.below hbel (Nat.le_refl _)).pair hkn HN.out
      have HO := Lib.hid hownr
      have HB := Lib.hid hbel
      have HD := Lib.hid hd
      clear hownr hbel hd
      go_wp2_with fail
      refine (toCip_any _ _ _).mono ?_
      rintro e w2 ⟨rfl, hb2⟩
      obtain ⟨o2, ⟨u1, c1⟩, c2, ⟨u3, c3⟩, c4, ⟨u5, c5⟩, c6⟩ := cset_two (own_below HO.out hb2) HD.out HN.out (by simp) hkn
      have HO2 := Lib.hid o2
      have HB2 := Lib.hid (HB.out.trans (hb2.mono HB.out.size))
      clear hb2 o2 hc1 hc2
      go_wp2
      go_roundw
      case rel => exact ⟨k + 1, by omega, by go_num, HO2.out, (HB2.out.setCell (Nat.le_refl _) _).setCell (Nat.le_refl _) _⟩
      case measure => simp only [intOf]; omega
    · have HO := Lib.hid hownr
      have HB := Lib.hid hbel
      clear hownr hbel
      obtain rfl : k = n := by omega
      go_wp2
      go_ret
      refine ⟨_, rfl, ?_, HB.out⟩
      have h := HO.out
      rw [over_all _ _ (by have := HN.out; omega) (by simp)] at h
      exact owC_mk h HB.out.size

/-- A list of ciphertexts weighs as many as it has. -/
theorem szC_any {P : Nat} {w : World} {v : Value} {zs : List Int} {left : Int} (h : InC P w v zs) (h0 : 0 ≤ left) (h1 : left ≤ 1048576) (hl : zs.length ≤ 2 * maxLen) :
    Calls Try.prog 25 #[v, .int .i64 left] w fun e w' => e = .returned (.int .i64 (szV (zs.length / 2) left)) ∧ w = w' := by
  obtain ⟨_, ad, n, cap, rfl, hn, _, _⟩ := h
  unfold maxLen at hl
  obtain rfl : n = zs.length / 2 := by omega
  generalize hm : zs.length / 2 = m
  have hl' : m ≤ 9223372036854775807 := by omega
  clear hl hn hm
  by_cases hn : (m : Int) ≤ left
  · have e1 : szV m left = left - m := by simp [szV, hn]
    rw [e1]
    clear e1
    go_enter Try.func25, Try.ntmps25
    go_wp2
    go_ret
    exact ⟨rfl, rfl⟩
  · have e1 : szV m left = -1 := by simp [szV, hn]
    rw [e1]
    clear e1
    go_enter Try.func25, Try.ntmps25
    go_wp2
    go_ret
    exact ⟨rfl, rfl⟩

end Go.Proofs.Ytmiohdibbpckaaa

