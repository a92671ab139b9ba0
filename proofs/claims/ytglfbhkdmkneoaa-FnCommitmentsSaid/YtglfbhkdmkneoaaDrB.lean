/- What the laws of layer 9 draw: bases. -/
import Derived.Test.YtglfbhkdmkneoaaDrG5
import Derived.Test.YtglfbhkdmkneoaaWpK
import Derived.Deep.RegionHeld3
import Derived.Deep.AppendLies
import Derived.Test.YtglfbhkdmkneoaaTyI
namespace Go.Proofs.Ytglfbhkdmkneoaa
open Go.RowKit
set_option linter.unusedVariables false
set_option linter.unusedSimpArgs false

/-! ### A bases' variable: its two cells -/
def BV (w : World) (b : Nat) (h : Int) (y : Value) : Prop := (w.cell? ⟨b, 0, none⟩ = some (.int .i64 h) ∧ w.cell? ⟨b, 1, none⟩ = some y) ∧ ∀ i, w.frozen? ⟨b, i, none⟩ = false
theorem bv_new (w : World) (b : Nat) (hb : w.heap.size = b) (h : Int) (y : Value) (t : TypeId) : BV (w.alloc (.cells #[.int .i64 h, y] t)) b h y := by
  subst hb
  exact ⟨⟨World.cell?_alloc_at _ _ _ _ rfl, World.cell?_alloc_at _ _ _ _ rfl⟩, fun _ => World.frozen?_alloc_at _ _ _ _ rfl⟩
theorem BV.lt {w : World} {b : Nat} {h : Int} {y : Value} (k : BV w b h y) : b < w.heap.size := World.block_lt_of_cell? w _ k.1.1
theorem BV.below {w w' : World} {b : Nat} {h : Int} {y : Value} (k : BV w b h y) (hb : Below w.heap.size w w') : BV w' b h y := by
  have hl := k.lt
  exact ⟨⟨by rw [hb.cell (p := ⟨b, 0, none⟩) hl]; exact k.1.1, by rw [hb.cell (p := ⟨b, 1, none⟩) hl]; exact k.1.2⟩, fun i => by rw [hb.frozen (p := ⟨b, i, none⟩) hl]; exact k.2 i⟩
theorem BV.by {w w' : World} {b : Nat} {h : Int} {y : Value} {r : Option Nat} (k : BV w b h y) (hg : w.grownBy w' r) (hne : some b ≠ r) : BV w' b h y := by
  refine ⟨⟨hg.cell (a := ⟨b, 0, none⟩) k.1.1 hne, hg.cell (a := ⟨b, 1, none⟩) k.1.2 hne⟩, fun i => ?_⟩
  have h := hg.block b k.lt hne
  have h2 := k.2 i
  unfold World.frozen? at h2 ⊢
  rw [h]
  exact h2
theorem BV.set0 {w : World} {b : Nat} {h : Int} {y : Value} (k : BV w b h y) (x : Int) : BV (w.setCell ⟨b, 0, none⟩ (.int .i64 x)) b x y :=
  ⟨⟨World.cell?_setCell_same _ _ _ k.1.1, by rw [World.cell?_setCell_other _ _ _ _ (by simp)]; exact k.1.2⟩, fun i => by rw [World.frozen?_setCell]; exact k.2 i⟩
theorem BV.set1 {w : World} {b : Nat} {h : Int} {y : Value} (k : BV w b h y) (z : Value) : BV (w.setCell ⟨b, 1, none⟩ z) b h z :=
  ⟨⟨by rw [World.cell?_setCell_other _ _ _ _ (by simp)]; exact k.1.1, World.cell?_setCell_same _ _ _ k.1.2⟩, fun i => by rw [World.frozen?_setCell]; exact k.2 i⟩
theorem GR.by {w w' : World} {b : Nat} {P Q G : Int} {r : Option Nat} (h : GR w b P Q G) (hg : w.grownBy w' r) (hne : some b ≠ r) : GR w' b P Q G := by
  obtain ⟨c0, c1, c2⟩ := h
  exact ⟨hg.cell (a := ⟨b, 0, none⟩) c0 hne, hg.cell (a := ⟨b, 1, none⟩) c1 hne, hg.cell (a := ⟨b, 2, none⟩) c2 hne⟩

/-- All that stands while bases are drawn: w0 the world at the start, its group's variable first, the answer's next; the variable b; its row. -/
def BX (w0 w : World) (b g k : Nat) (P Q G h : Int) (va : Option Addr) (n vc : Nat) (zs : List Int) : Prop :=
  (g < w0.heap.size ∧ w0.heap.size + 1 < b) ∧ GR w w0.heap.size P Q G ∧ BV w (w0.heap.size + 1) 0 (.slice none 0 0) ∧ BV w b h (.slice va n vc) ∧ w.ownsRow (b + 1) 3 1 (.slice va n vc) n (zs.map (Value.int .i64)) ∧ Cur w g k ∧ w0.grownBy w (some g)
theorem BX.call {w0 w w' : World} {b g k k' : Nat} {P Q G h : Int} {va : Option Addr} {n vc : Nat} {zs : List Int} (x : BX w0 w b g k P Q G h va n vc zs) (hg : w.grownBy w' (some g)) (hc : Cur w' g k') : BX w0 w' b g k' P Q G h va n vc zs := by
  obtain ⟨⟨l0, l1⟩, x1, x2, x3, x4, x5, x6⟩ := x
  exact ⟨⟨l0, l1⟩, x1.by hg (by simp; omega), x2.by hg (by simp; omega), x3.by hg (by simp; omega), own_cur x4 hg (by omega), hc, grown_trans x6 hg⟩
theorem BX.below {w0 w w' : World} {b g k : Nat} {P Q G h : Int} {va : Option Addr} {n vc : Nat} {zs : List Int} (x : BX w0 w b g k P Q G h va n vc zs) (hb : Below w.heap.size w w') : BX w0 w' b g k P Q G h va n vc zs := by
  have hc := x.2.2.2.2.2.1.below hb
  exact x.call (grown_below hb _) hc
theorem BX.mono {w0 w : World} {b g k k' : Nat} {P Q G h : Int} {va : Option Addr} {n vc : Nat} {zs : List Int} (x : BX w0 w b g k P Q G h va n vc zs) (hk : k ≤ k') : BX w0 w b g k' P Q G h va n vc zs :=
  ⟨x.1, x.2.1, x.2.2.1, x.2.2.2.1, x.2.2.2.2.1, x.2.2.2.2.2.1.mono hk, x.2.2.2.2.2.2⟩
theorem BX.rown {w0 w : World} {b g k : Nat} {P Q G h : Int} {va : Option Addr} {n vc : Nat} {zs : List Int} (x : BX w0 w b g k P Q G h va n vc zs) : ∀ q, (Value.slice va n vc).ownBlock = some q → b + 1 ≤ q := fun q hq => (x.2.2.2.2.1.lt q hq).1
/-- A row's block alone changes. -/
theorem BX.held {w0 w w' : World} {b g k : Nat} {P Q G h : Int} {va : Option Addr} {n vc : Nat} {zs : List Int} {r : Option Nat} (x : BX w0 w b g k P Q G h va n vc zs) (hg : w.grownBy w' r) (hr : ∀ q, r = some q → b + 1 ≤ q) : GR w' w0.heap.size P Q G ∧ BV w' b h (.slice va n vc) := by
  obtain ⟨⟨l0, l1⟩, x1, x2, x3, x4, x5, x6⟩ := x
  exact ⟨x1.by hg (by rintro rfl; have := hr _ rfl; omega), x3.by hg (by rintro rfl; have := hr _ rfl; omega)⟩
/-- An appended row is stored. -/
theorem BX.app {w0 w w' : World} {b g k : Nat} {P Q G h : Int} {va va' : Option Addr} {n vc n' vc' : Nat} {zs zs' : List Int} {r : Option Nat} (x : BX w0 w b g k P Q G h va n vc zs) (hg : w.grownBy w' r) (hr : ∀ q, r = some q → b + 1 ≤ q)
    (ho : w'.ownsRow (b + 1) 3 1 (.slice va' n' vc') n' (zs'.map (Value.int .i64))) : BX w0 (w'.setCell ⟨b, 1, none⟩ (.slice va' n' vc')) b g k P Q G h va' n' vc' zs' := by
  obtain ⟨⟨l0, l1⟩, x1, x2, x3, x4, x5, x6⟩ := x
  have hs := grown_setCell w' ⟨b, 1, none⟩ (.slice va' n' vc')
  refine ⟨⟨l0, l1⟩, (x1.by hg (by rintro rfl; have := hr _ rfl; omega)).by hs (by simp; omega), (x2.by hg (by rintro rfl; have := hr _ rfl; omega)).by hs (by simp; omega), (x3.by hg (by rintro rfl; have := hr _ rfl; omega)).set1 _, own_cur ho hs (by show b < b + 1; omega), (x5.above hg (by omega) hr).above hs (B := b) (by omega) (by rintro q ⟨⟩; exact Nat.le_refl _), ?_⟩
  exact grown_own (grown_own x6 hg (fun q hq => by have := hr q hq; omega)) hs (by rintro q ⟨⟩; show w0.heap.size ≤ b; omega)
theorem BX.set0 {w0 w : World} {b g k : Nat} {P Q G h : Int} {va : Option Addr} {n vc : Nat} {zs : List Int} (x : BX w0 w b g k P Q G h va n vc zs) (z : Int) : BX w0 (w.setCell ⟨b, 0, none⟩ (.int .i64 z)) b g k P Q G z va n vc zs := by
  obtain ⟨⟨l0, l1⟩, x1, x2, x3, x4, x5, x6⟩ := x
  have hs := grown_setCell w ⟨b, 0, none⟩ (.int .i64 z)
  exact ⟨⟨l0, l1⟩, x1.by hs (by simp; omega), x2.by hs (by simp; omega), x3.set0 z, own_cur x4 hs (by show b < b + 1; omega), x5.above hs (B := b) (by omega) (by rintro q ⟨⟩; exact Nat.le_refl _), grown_own x6 hs (by rintro q ⟨⟩; show w0.heap.size ≤ b; omega)⟩
/-- A cell of the row is set. -/
theorem BX.put {w0 w : World} {b g k : Nat} {P Q G h : Int} {r j n vc : Nat} {zs : List Int} (x : BX w0 w b g k P Q G h (some ⟨r, 0, none⟩) n vc zs) (z : Int) : BX w0 (w.setCell ⟨r, j, none⟩ (.int .i64 z)) b g k P Q G h (some ⟨r, 0, none⟩) n vc (zs.set j z) := by
  have hr := x.rown r rfl
  obtain ⟨⟨l0, l1⟩, x1, x2, x3, x4, x5, x6⟩ := x
  have hs := grown_setCell w ⟨r, j, none⟩ (.int .i64 z)
  exact ⟨⟨l0, l1⟩, x1.by hs (by simp; omega), x2.by hs (by simp; omega), x3.by hs (by simp; omega), sown_set x4 z, x5.above hs (B := b) (by omega) (by rintro q ⟨⟩; show b ≤ r; omega), grown_own x6 hs (by rintro q ⟨⟩; show w0.heap.size ≤ r; omega)⟩
/-- The answer's variable is set. -/
theorem BX.res {w0 w : World} {b g k : Nat} {P Q G h : Int} {va : Option Addr} {n vc : Nat} {zs : List Int} (x : BX w0 w b g k P Q G h va n vc zs) : let w' := ((w.setCell ⟨w0.heap.size + 1, 0, none⟩ (.int .i64 h)).setCell ⟨w0.heap.size + 1, 1, none⟩ (.slice va n vc))
    w'.ownsRow (b + 1) 3 1 (.slice va n vc) n (zs.map (Value.int .i64)) ∧ Cur w' g k ∧ w0.grownBy w' (some g) := by
  obtain ⟨⟨l0, l1⟩, x1, x2, x3, x4, x5, x6⟩ := x
  have hs := grown_trans (grown_setCell w ⟨w0.heap.size + 1, 0, none⟩ (.int .i64 h)) (grown_setCell _ ⟨w0.heap.size + 1, 1, none⟩ (.slice va n vc))
  exact ⟨own_cur x4 hs (by show w0.heap.size + 1 < b + 1; omega), x5.above hs (B := w0.heap.size + 1) (by omega) (by rintro q ⟨⟩; exact Nat.le_refl _), grown_own x6 hs (by rintro q ⟨⟩; show w0.heap.size ≤ w0.heap.size + 1; omega)⟩

theorem row_some {w : World} {B n vc : Nat} {va : Option Addr} {xs : List Value} (h : w.ownsRow B 3 1 (.slice va n vc) n xs) (h0 : 0 < n) : ∃ r, va = some ⟨r, 0, none⟩ := by
  rcases h.2 with ⟨_, h2⟩ | ⟨g, cap, cur, h1, _⟩
  · omega
  · simp only [Value.slice.injEq] at h1
    exact ⟨g, h1.1⟩
/-- Bases that are drawn: their row is of the call's own. -/
def BasPost (w : World) (g k most : Nat) (e : Ending) (w' : World) : Prop :=
  ∃ (h : Int) (va : Option Addr) (n vc : Nat) (zs : List Int), e = .returned (.agg #[.int .i64 h, .slice va n vc]) ∧ w'.ownsRow (w.heap.size + 2) 3 1 (.slice va n vc) n (zs.map (Value.int .i64)) ∧ (1 ≤ n ∧ n ≤ most) ∧ Cur w' g k ∧ w.grownBy w' (some g)

set_option maxRecDepth 100000 in
set_option maxHeartbeats 6400000 in
theorem bases_any (g k : Nat) (hk : k ≤ 700000000) (P Q G : Int) (p0 : -7 ≤ P) (p1 : P ≤ 2000000000) (q0 : -1 ≤ Q) (q1 : Q ≤ 2000000000) (g0 : -1 ≤ G) (g1 : G ≤ 2000000001) (w : World) (hc : Cur w g k) :
    Calls Try.prog 143 #[.pointer (some ⟨g, 0, none⟩), gv P Q G] w (BasPost w g (k + 30) 5) := by
  have hgl := hc.lt
  have hal := bt (ba w (.cells #[.int .i64 P, .int .i64 Q, .int .i64 G] 29)) (ba (w.alloc (.cells #[.int .i64 P, .int .i64 Q, .int .i64 G] 29)) (.cells #[.int .i64 0, .slice none 0 0] 26))
  have HC := Lib.hid (hc.below hal)
  have HG := Lib.hid (grown_below hal (some g))
  have HR := Lib.hid ((gr_new w P Q G 29).below (ba _ (.cells #[.int .i64 0, .slice none 0 0] 26)))
  have HT := Lib.hid (bv_new (w.alloc (.cells #[.int .i64 P, .int .i64 Q, .int .i64 G] 29)) (w.heap.size + 1) (by simp) 0 (.slice none 0 0) 26)
  obtain ⟨i0, hi, hz0, hz1, hz2⟩ := info_parts Try.info3
  clear hc hal
  obtain ⟨c0, c1, c2⟩ := HR.out
  go_enter Try.func143, Try.ntmps143
  go_wp2_with fail
  refine (element_any g k (by omega) P Q G p0 p1 q0 q1 g0 g1 _ HC.out).mono ?_
  rintro e w1 ⟨h0, rfl, _, hc1, hg1⟩
  clear c0 c1 c2
  have hsz : w.heap.size + 1 < w1.heap.size := by have := hg1.size; simp at this; omega
  have HX1 := Lib.hid (show BX w (w1.alloc (.cells #[.int .i64 h0, .slice none 0 0] 26)) w1.heap.size g (k + 4) P Q G h0 none 0 0 [] from by
    have hb := ba w1 (.cells #[.int .i64 h0, .slice none 0 0] 26)
    exact ⟨⟨hgl, hsz⟩, (HR.out.by hg1 (by simp; omega)).below hb, (HT.out.by hg1 (by simp; omega)).below hb, bv_new w1 _ rfl _ _ _, World.ownsRow_nil _ _ _ _, hc1.below hb, grown_trans (grown_trans HG.out hg1) (grown_below hb _)⟩)
  clear hc1 hg1 HC HG HR HT
  go_wp2_with fail
  refine (pick_any g _ 5 (by omega) (by omega) _ HX1.out.2.2.2.2.2.1).mono ?_
  rintro e w2 ⟨x2, rfl, hx2, hc2, hg2⟩
  have hx20 : 0 ≤ x2 := hx2.1
  have hx21 : x2 ≤ 4 := by omega
  obtain ⟨j0, hj0⟩ : ∃ j0 : Nat, 1 + x2 = (j0 : Int) := ⟨(1 + x2).toNat, by omega⟩
  have hj1 : 1 ≤ j0 := by omega
  have hj5 : j0 ≤ 5 := by omega
  have HX2 := Lib.hid (HX1.out.call hg2 hc2)
  clear hc2 hg2 hx2 HX1
  generalize w1.heap.size = b at HX2 hsz
  go_wp2
  go_loopw [6] (fun K wr => ∃ (j n : Nat) (va : Option Addr) (vc : Nat) (zs : List Int), (j ≤ j0 ∧ n + j = j0) ∧ K = .int .i64 j ∧ BX w wr b g (k + 6 + 4 * (j0 - j)) P Q G h0 va n vc zs) (fun K _ => (intOf K).toNat)
  case atStart => exact ⟨j0, 0, none, 0, [], by omega, by rw [← hj0], HX2.out.mono (by omega)⟩
  case round =>
    obtain ⟨j, n, va, vc, zs, ⟨hja, hjb⟩, rfl, hx⟩ := hrel
    have HX := Lib.hid hx
    clear hx HX2
    by_cases hj : 0 < j
    · have hji : (0 : Int) < (j : Int) := by omega
      go_wp2_with fail
      have hbd : Below wr.heap.size wr wr.drew := (Below.refl _ wr).drew
      have HXs := Lib.hid (HX.out.below hbd)
      clear hbd
      refine wpK_begin (n := 8) (S := (fun w' => (w'.cell? ⟨w.heap.size, 0, none⟩ = some (.int .i64 P) ∧ w'.cell? ⟨w.heap.size, 1, none⟩ = some (.int .i64 Q) ∧ w'.cell? ⟨w.heap.size, 2, none⟩ = some (.int .i64 G)) ∧ w'.cell? ⟨b, 1, none⟩ = some (.slice va n vc))) (by kernel_rfl) ?_
      refine wpK_take (i := 0) (v := ?_) rfl (by kernel_rfl) (by kernel_rfl) (by kernel_rfl) (by kernel_rfl) (fun _ _ _ h => h) (Or.inl ⟨by kernel_rfl, ?_⟩) (show _ from ⟨⟨HXs.out.2.1.1, HXs.out.2.1.2.1, HXs.out.2.1.2.2⟩, HXs.out.2.2.2.1.1.2⟩) ?_
      rotate_left 1
      · intro w9 hSw
        (try dsimp only at hSw)
        go_simp
        (try with_reducible rfl)
      (try simp only [Act.put, List.getElem_toArray, List.getElem_cons_succ, List.getElem_cons_zero, List.setIfInBounds_toArray, List.set_cons_zero, List.set_cons_succ])
      refine wpK_take (i := 1) (v := ?_) rfl (by kernel_rfl) (by kernel_rfl) (by kernel_rfl) (by kernel_rfl) (fun _ _ _ h => h) (Or.inl ⟨by kernel_rfl, ?_⟩) (show _ from ⟨⟨HXs.out.2.1.1, HXs.out.2.1.2.1, HXs.out.2.1.2.2⟩, HXs.out.2.2.2.1.1.2⟩) ?_
      rotate_left 1
      · intro w9 hSw
        (try dsimp only at hSw)
        go_simp
        (try with_reducible rfl)
      (try simp only [Act.put, List.getElem_toArray, List.getElem_cons_succ, List.getElem_cons_zero, List.setIfInBounds_toArray, List.set_cons_zero, List.set_cons_succ])
      refine wpK_take (i := 2) (v := ?_) rfl (by kernel_rfl) (by kernel_rfl) (by kernel_rfl) (by kernel_rfl) (fun _ _ _ h => h) (Or.inl ⟨by kernel_rfl, ?_⟩) (show _ from ⟨⟨HXs.out.2.1.1, HXs.out.2.1.2.1, HXs.out.2.1.2.2⟩, HXs.out.2.2.2.1.1.2⟩) ?_
      rotate_left 1
      · intro w9 hSw
        (try dsimp only at hSw)
        go_simp
        (try with_reducible rfl)
      (try simp only [Act.put, List.getElem_toArray, List.getElem_cons_succ, List.getElem_cons_zero, List.setIfInBounds_toArray, List.set_cons_zero, List.set_cons_succ])
      refine wpK_take (i := 3) (v := ?_) rfl (by kernel_rfl) (by kernel_rfl) (by kernel_rfl) (by kernel_rfl) (fun _ _ _ h => h) (Or.inl ⟨by kernel_rfl, ?_⟩) (show _ from ⟨⟨HXs.out.2.1.1, HXs.out.2.1.2.1, HXs.out.2.1.2.2⟩, HXs.out.2.2.2.1.1.2⟩) ?_
      rotate_left 1
      · intro w9 hSw
        (try dsimp only at hSw)
        go_simp
        (try with_reducible rfl)
      (try simp only [Act.put, List.getElem_toArray, List.getElem_cons_succ, List.getElem_cons_zero, List.setIfInBounds_toArray, List.set_cons_zero, List.set_cons_succ])
      refine wpK_one (i := 4) (by kernel_rfl) rfl ?_
      intro K' hK
      go_simp
      go_at_call 157
      refine (element_any g _ (by omega) P Q G p0 p1 q0 q1 g0 g1 _ HXs.out.2.2.2.2.2.1).mono ?_
      rintro e w2 ⟨x, rfl, _, hc2, hg2⟩
      have HXc := Lib.hid (HXs.out.call hg2 hc2)
      clear hc2 hg2
      go_wp2_with fail
      refine hK.out _ _ (fun _ => ⟨⟨HXc.out.2.1.1, HXc.out.2.1.2.1, HXc.out.2.1.2.2⟩, HXc.out.2.2.2.1.1.2⟩) ?_
      clear hK K'
      (try simp only [Act.put, List.getElem_toArray, List.getElem_cons_succ, List.getElem_cons_zero, List.setIfInBounds_toArray, List.set_cons_zero, List.set_cons_succ])
      refine wpK_one (i := 5) (by kernel_rfl) rfl ?_
      intro K' hK
      go_simp
      have HXl := Lib.hid (HXc.out.below (ba w2 (.cells #[.int .i64 x] 3)))
      refine hK.out _ _ (fun _ => ⟨⟨HXl.out.2.1.1, HXl.out.2.1.2.1, HXl.out.2.1.2.2⟩, HXl.out.2.2.2.1.1.2⟩) ?_
      clear hK K'
      (try simp only [Act.put, List.getElem_toArray, List.getElem_cons_succ, List.getElem_cons_zero, List.setIfInBounds_toArray, List.set_cons_zero, List.set_cons_succ])
      refine wpK_one (i := 6) (by kernel_rfl) rfl ?_
      intro K' hK
      refine step_append_ints (by rfl) (.tmp 21) (.tmp 25) _ (by rfl) (b + 1) 3 i0 Try.underlying24 hi hz0 hz1 hz2 _ n zs (by rfl) HXl.out.2.2.2.2.1 (some ⟨w2.heap.size, 0, none⟩) 1 1 [x] (by rfl) rfl (ints_spot w2 _ rfl [x] 3) (fun h => by cases h) (by omega) (by have := HXc.out.2.2.2.1.lt; simp; omega) ?_
      intro v9 w3 hown9 hgrow
      obtain ⟨va', vc', rfl⟩ := own_shape hown9
      have HOn := Lib.hid hown9
      have HGr := Lib.hid hgrow
      have HH3 := Lib.hid (HXl.out.held hgrow HXl.out.rown)
      clear hown9 hgrow
      refine hK.out _ _ (fun _ => ⟨⟨HH3.out.1.1, HH3.out.1.2.1, HH3.out.1.2.2⟩, HH3.out.2.1.2⟩) ?_
      clear hK K'
      (try simp only [Act.put, List.getElem_toArray, List.getElem_cons_succ, List.getElem_cons_zero, List.setIfInBounds_toArray, List.set_cons_zero, List.set_cons_succ])
      refine wpK_take (i := 7) (v := ?_) rfl (by kernel_rfl) (by kernel_rfl) (by kernel_rfl) (by kernel_rfl) (fun _ _ _ h => h) (Or.inl ⟨by kernel_rfl, ?_⟩) ⟨⟨HH3.out.1.1, HH3.out.1.2.1, HH3.out.1.2.2⟩, HH3.out.2.1.2⟩ ?_
      rotate_left 1
      · intro w9 hSw
        (try dsimp only at hSw)
        go_simp
        (try with_reducible rfl)
      (try simp only [Act.put, List.getElem_toArray, List.getElem_cons_succ, List.getElem_cons_zero, List.setIfInBounds_toArray, List.set_cons_zero, List.set_cons_succ])
      refine wpK_one (i := 8) (by kernel_rfl) rfl ?_
      intro K' hK
      obtain ⟨_, ⟨y0, y1⟩, yf⟩ := HH3.out
      have yf1 := yf 1
      clear yf
      go_simp
      refine hK.out _ _ (fun h => absurd rfl h) ?_
      clear hK K'
      (try simp only [Act.put, List.getElem_toArray, List.getElem_cons_succ, List.getElem_cons_zero, List.setIfInBounds_toArray, List.set_cons_zero, List.set_cons_succ])
      refine wpK_done (by kernel_rfl) ?_ _
      have HX5 := Lib.hid (show BX w (w3.setCell ⟨b, 1, none⟩ (.slice va' (n + 1) vc')) b g (k + 6 + 4 * (j0 - j) + 4) P Q G h0 va' (n + 1) vc' (zs ++ [x]) from HXl.out.app HGr.out HXl.out.rown HOn.out)
      go_wp2
      go_roundw
      case rel => exact ⟨j - 1, n + 1, va', vc', zs ++ [x], by omega, by rw [show ((j - 1 : Nat) : Int) = (j : Int) - 1 by omega], HX5.out.mono (by omega)⟩
      case measure => simp only [intOf]; omega
    · have hji : (j : Int) ≤ 0 := by omega
      have hn1 : 1 ≤ n := by omega
      have hn5 : n ≤ 5 := by omega
      have HXa := Lib.hid (HX.out.mono (show k + 6 + 4 * (j0 - j) ≤ k + 26 by omega))
      clear HX hj hja hjb
      obtain ⟨⟨r0, r1, r2⟩, ⟨b0, b1⟩, bf⟩ := And.intro HXa.out.2.1 HXa.out.2.2.2.1
      have bf0 := bf 0
      clear bf
      have hqb : h0 = 1 ∨ h0 ≠ 1 := by omega
      rcases hqb with h1 | h1
      · obtain rfl : h0 = 1 := h1
        have HXb := Lib.hid (HXa.out.set0 G)
        clear HXa
        obtain ⟨⟨d0, d1, d2⟩, ⟨e0, e1⟩, _⟩ := And.intro HXb.out.2.1 HXb.out.2.2.2.1
        go_wp2
        go_loopw [7, 8, 37] (fun _ _ K wq => ∃ (i : Nat) (ys : List Int), i ≤ n ∧ K = .int .i64 i ∧ BX w wq b g (k + 26) P Q G G va n vc ys) (fun _ _ K _ => n - (intOf K).toNat)
        case atStart => exact ⟨0, zs, Nat.zero_le _, rfl, HXb.out⟩
        case round =>
          obtain ⟨i, ys, hin, rfl, hx⟩ := hrel
          have HY := Lib.hid hx
          clear hx HXb
          by_cases hi9 : i < n
          · have hii : (i : Int) < (n : Int) := by omega
            obtain ⟨r, rfl⟩ := row_some HY.out.2.2.2.2.1 (by omega)
            have hyl : ys.length = n := by have := HY.out.2.2.2.2.1.1; simpa using this
            obtain ⟨z, hz⟩ : ∃ z, ys[i]? = some z := ⟨ys[i], by simp [hyl, hi9]⟩
            obtain ⟨u0, u1⟩ := sown_at HY.out.2.2.2.2.1 hi9 hz
            obtain ⟨⟨s0, s1, s2⟩, ⟨t0, t1⟩, _⟩ := And.intro HY.out.2.1 HY.out.2.2.2.1
            clear hz hyl
            have HI := Lib.hid hi9
            clear hi9 hin
            by_cases hz1 : z = 1
            · subst hz1
              have HZ := Lib.hid (HY.out.put (j := i) G)
              clear HY
              go_wp2
              go_roundw
              case rel => exact ⟨i + 1, _, by have := HI.out; omega, by go_num, HZ.out⟩
              case measure => have := HI.out; simp only [intOf]; omega
            · have hz2 : (z == 1) = false := by simpa using hz1
              go_wp2
              go_roundw
              case rel => exact ⟨i + 1, _, by have := HI.out; omega, by go_num, HY.out⟩
              case measure => have := HI.out; simp only [intOf]; omega
          · have hii : (n : Int) ≤ (i : Int) := by omega
            obtain ⟨⟨t0, t1⟩, a0, a1⟩ := And.intro HY.out.2.2.2.1.1 HY.out.2.2.1.1
            have af := HY.out.2.2.1.2
            have af0 := af 0
            have af1 := af 1
            clear af
            go_wp2
            (try simp only [Exit.inBlock, Exit.then])
            refine bodyPost_ret (v := .agg #[.int .i64 G, .slice va n vc]) ?_ rfl ⟨_, _, _, _, ys, rfl, own_base HY.out.res.1 (by omega), ⟨hn1, hn5⟩, HY.out.res.2.1.mono (by omega), HY.out.res.2.2⟩
            · rw [results_cell_one rfl]; go_simp
      · have HXb := Lib.hid HXa.out
        clear HXa
        have h2 : (h0 == 1) = false := by simpa using h1
        go_wp2
        go_loopw [7, 8, 37] (fun _ _ K wq => ∃ (i : Nat) (ys : List Int), i ≤ n ∧ K = .int .i64 i ∧ BX w wq b g (k + 26) P Q G h0 va n vc ys) (fun _ _ K _ => n - (intOf K).toNat)
        case atStart => exact ⟨0, zs, Nat.zero_le _, rfl, HXb.out⟩
        case round =>
          obtain ⟨i, ys, hin, rfl, hx⟩ := hrel
          have HY := Lib.hid hx
          clear hx HXb
          by_cases hi9 : i < n
          · have hii : (i : Int) < (n : Int) := by omega
            obtain ⟨r, rfl⟩ := row_some HY.out.2.2.2.2.1 (by omega)
            have hyl : ys.length = n := by have := HY.out.2.2.2.2.1.1; simpa using this
            obtain ⟨z, hz⟩ : ∃ z, ys[i]? = some z := ⟨ys[i], by simp [hyl, hi9]⟩
            obtain ⟨u0, u1⟩ := sown_at HY.out.2.2.2.2.1 hi9 hz
            obtain ⟨⟨s0, s1, s2⟩, ⟨t0, t1⟩, _⟩ := And.intro HY.out.2.1 HY.out.2.2.2.1
            clear hz hyl
            have HI := Lib.hid hi9
            clear hi9 hin
            by_cases hz1 : z = 1
            · subst hz1
              have HZ := Lib.hid (HY.out.put (j := i) G)
              clear HY
              go_wp2
              go_roundw
              case rel => exact ⟨i + 1, _, by have := HI.out; omega, by go_num, HZ.out⟩
              case measure => have := HI.out; simp only [intOf]; omega
            · have hz2 : (z == 1) = false := by simpa using hz1
              go_wp2
              go_roundw
              case rel => exact ⟨i + 1, _, by have := HI.out; omega, by go_num, HY.out⟩
              case measure => have := HI.out; simp only [intOf]; omega
          · have hii : (n : Int) ≤ (i : Int) := by omega
            obtain ⟨⟨t0, t1⟩, a0, a1⟩ := And.intro HY.out.2.2.2.1.1 HY.out.2.2.1.1
            have af := HY.out.2.2.1.2
            have af0 := af 0
            have af1 := af 1
            clear af
            go_wp2
            (try simp only [Exit.inBlock, Exit.then])
            refine bodyPost_ret (v := .agg #[.int .i64 h0, .slice va n vc]) ?_ rfl ⟨_, _, _, _, ys, rfl, own_base HY.out.res.1 (by omega), ⟨hn1, hn5⟩, HY.out.res.2.1.mono (by omega), HY.out.res.2.2⟩
            · rw [results_cell_one rfl]; go_simp

/-! ### anyBases -/
/-- All that stands while bases are bent: as BX, but the row lies anywhere else than the variables. -/
def BY (w0 w : World) (b g k : Nat) (P Q G h : Int) (r n vc : Nat) (zs : List Int) : Prop :=
  (g < w0.heap.size ∧ w0.heap.size + 1 < b ∧ r ≠ b ∧ w0.heap.size + 2 ≤ r) ∧ GR w w0.heap.size P Q G ∧ BV w (w0.heap.size + 1) 0 (.slice none 0 0) ∧ BV w b h (.slice (some ⟨r, 0, none⟩) n vc) ∧ w.ownsRow (w0.heap.size + 2) 3 1 (.slice (some ⟨r, 0, none⟩) n vc) n (zs.map (Value.int .i64)) ∧ Cur w g k ∧ w0.grownBy w (some g)
theorem BY.call {w0 w : World} {b g k : Nat} {P Q G h : Int} {r n vc : Nat} {zs : List Int} {w' : World} {k' : Nat} (x : BY w0 w b g k P Q G h r n vc zs) (hg : w.grownBy w' (some g)) (hc : Cur w' g k') : BY w0 w' b g k' P Q G h r n vc zs := by
  obtain ⟨⟨l0, l1, l2, l3⟩, x1, x2, x3, x4, x5, x6⟩ := x
  exact ⟨⟨l0, l1, l2, l3⟩, x1.by hg (by simp; omega), x2.by hg (by simp; omega), x3.by hg (by simp; omega), own_cur x4 hg (by omega), hc, grown_trans x6 hg⟩
theorem BY.below {w0 w : World} {b g k : Nat} {P Q G h : Int} {r n vc : Nat} {zs : List Int} {w' : World} (x : BY w0 w b g k P Q G h r n vc zs) (hb : Below w.heap.size w w') : BY w0 w' b g k P Q G h r n vc zs := x.call (grown_below hb _) (x.2.2.2.2.2.1.below hb)
theorem BY.mono {w0 w : World} {b g k : Nat} {P Q G h : Int} {r n vc : Nat} {zs : List Int} {k' : Nat} (x : BY w0 w b g k P Q G h r n vc zs) (hk : k ≤ k') : BY w0 w b g k' P Q G h r n vc zs := ⟨x.1, x.2.1, x.2.2.1, x.2.2.2.1, x.2.2.2.2.1, x.2.2.2.2.2.1.mono hk, x.2.2.2.2.2.2⟩
theorem BY.held {w0 w : World} {b g k : Nat} {P Q G h : Int} {r n vc : Nat} {zs : List Int} {w' : World} (x : BY w0 w b g k P Q G h r n vc zs) (hg : w.grownBy w' (some r)) : BV w' b h (.slice (some ⟨r, 0, none⟩) n vc) := x.2.2.2.1.by hg (by have := x.1.2.2.1; simp; omega)
theorem BY.app {w0 w : World} {b g k : Nat} {P Q G h : Int} {r n vc : Nat} {zs : List Int} {w' : World} {r' n' vc' : Nat} {zs' : List Int} (x : BY w0 w b g k P Q G h r n vc zs) (hg : w.grownBy w' (some r)) (ho : w'.ownsRow (w0.heap.size + 2) 3 1 (.slice (some ⟨r', 0, none⟩) n' vc') n' (zs'.map (Value.int .i64))) (hr : r' ≠ b) : BY w0 (w'.setCell ⟨b, 1, none⟩ (.slice (some ⟨r', 0, none⟩) n' vc')) b g k P Q G h r' n' vc' zs' := by
  have hr2 : w0.heap.size + 2 ≤ r' := (ho.lt r' rfl).1
  obtain ⟨⟨l0, l1, l2, l3⟩, x1, x2, x3, x4, x5, x6⟩ := x
  have hs := grown_setCell w' ⟨b, 1, none⟩ (.slice (some ⟨r', 0, none⟩) n' vc')
  refine ⟨⟨l0, l1, hr, hr2⟩, (x1.by hg (by simp; omega)).by hs (by simp; omega), (x2.by hg (by simp; omega)).by hs (by simp; omega), (x3.by hg (by simp; omega)).set1 _, own_ne ho hs (by rintro a ⟨⟩; simpa using hr), (x5.above hg (B := w0.heap.size) l0 (by rintro q ⟨⟩; omega)).above hs (B := b) (by omega) (by rintro q ⟨⟩; exact Nat.le_refl _), ?_⟩
  exact grown_own (grown_own x6 hg (by rintro q ⟨⟩; omega)) hs (by rintro q ⟨⟩; show w0.heap.size ≤ b; omega)
theorem BY.set0 {w0 w : World} {b g k : Nat} {P Q G h : Int} {r n vc : Nat} {zs : List Int} (x : BY w0 w b g k P Q G h r n vc zs) (z : Int) : BY w0 (w.setCell ⟨b, 0, none⟩ (.int .i64 z)) b g k P Q G z r n vc zs := by
  obtain ⟨⟨l0, l1, l2, l3⟩, x1, x2, x3, x4, x5, x6⟩ := x
  have hs := grown_setCell w ⟨b, 0, none⟩ (.int .i64 z)
  exact ⟨⟨l0, l1, l2, l3⟩, x1.by hs (by simp; omega), x2.by hs (by simp; omega), x3.set0 z, own_ne x4 hs (by rintro a ⟨⟩; simpa using l2), x5.above hs (B := b) (by omega) (by rintro q ⟨⟩; exact Nat.le_refl _), grown_own x6 hs (by rintro q ⟨⟩; show w0.heap.size ≤ b; omega)⟩
theorem BY.put {w0 w : World} {b g k : Nat} {P Q G h : Int} {r n vc : Nat} {zs : List Int} {j : Nat} (x : BY w0 w b g k P Q G h r n vc zs) (z : Int) : BY w0 (w.setCell ⟨r, j, none⟩ (.int .i64 z)) b g k P Q G h r n vc (zs.set j z) := by
  obtain ⟨⟨l0, l1, l2, l3⟩, x1, x2, x3, x4, x5, x6⟩ := x
  have hs := grown_setCell w ⟨r, j, none⟩ (.int .i64 z)
  exact ⟨⟨l0, l1, l2, l3⟩, x1.by hs (by simp; omega), x2.by hs (by simp; omega), x3.by hs (by simp; omega), sown_set x4 z, x5.above hs (B := w0.heap.size) l0 (by rintro q ⟨⟩; show w0.heap.size ≤ r; omega), grown_own x6 hs (by rintro q ⟨⟩; show w0.heap.size ≤ r; omega)⟩
theorem BY.res {w0 w : World} {b g k : Nat} {P Q G h : Int} {r n vc : Nat} {zs : List Int} (x : BY w0 w b g k P Q G h r n vc zs) : let w' := ((w.setCell ⟨w0.heap.size + 1, 0, none⟩ (.int .i64 h)).setCell ⟨w0.heap.size + 1, 1, none⟩ (.slice (some ⟨r, 0, none⟩) n vc))
    w'.ownsRow (w0.heap.size + 2) 3 1 (.slice (some ⟨r, 0, none⟩) n vc) n (zs.map (Value.int .i64)) ∧ Cur w' g k ∧ w0.grownBy w' (some g) := by
  obtain ⟨⟨l0, l1, l2, l3⟩, x1, x2, x3, x4, x5, x6⟩ := x
  have hs := grown_trans (grown_setCell w ⟨w0.heap.size + 1, 0, none⟩ (.int .i64 h)) (grown_setCell _ ⟨w0.heap.size + 1, 1, none⟩ (.slice (some ⟨r, 0, none⟩) n vc))
  exact ⟨own_cur x4 hs (by show w0.heap.size + 1 < w0.heap.size + 2; omega), x5.above hs (B := w0.heap.size + 1) (by omega) (by rintro q ⟨⟩; exact Nat.le_refl _), grown_own x6 hs (by rintro q ⟨⟩; show w0.heap.size ≤ w0.heap.size + 1; omega)⟩

set_option maxRecDepth 100000 in
set_option maxHeartbeats 6400000 in
theorem anyBases_any (g k : Nat) (hk : k ≤ 600000000) (P Q G : Int) (p0 : -7 ≤ P) (p1 : P ≤ 2000000000) (q0 : -1 ≤ Q) (q1 : Q ≤ 2000000000) (g0 : -1 ≤ G) (g1 : G ≤ 2000000001) (w : World) (hc : Cur w g k) :
    Calls Try.prog 111 #[.pointer (some ⟨g, 0, none⟩), gv P Q G] w (BasPost w g (k + 200) 25) := by
  have hgl := hc.lt
  have hal := bt (ba w (.cells #[.int .i64 P, .int .i64 Q, .int .i64 G] 29)) (ba (w.alloc (.cells #[.int .i64 P, .int .i64 Q, .int .i64 G] 29)) (.cells #[.int .i64 0, .slice none 0 0] 26))
  have HC := Lib.hid (hc.below hal)
  have HG := Lib.hid (grown_below hal (some g))
  have HR := Lib.hid ((gr_new w P Q G 29).below (ba _ (.cells #[.int .i64 0, .slice none 0 0] 26)))
  have HT := Lib.hid (bv_new (w.alloc (.cells #[.int .i64 P, .int .i64 Q, .int .i64 G] 29)) (w.heap.size + 1) (by simp) 0 (.slice none 0 0) 26)
  obtain ⟨i0, hi, hz0, hz1, hz2⟩ := info_parts Try.info3
  clear hc hal
  obtain ⟨c0, c1, c2⟩ := HR.out
  go_enter Try.func111, Try.ntmps111
  go_wp2_with fail
  refine (bases_any g k (by omega) P Q G p0 p1 q0 q1 g0 g1 _ HC.out).mono ?_
  rintro e w1 ⟨h0, va, n, vc, zs, rfl, hown, ⟨hn1, hn5⟩, hc1, hg1⟩
  clear c0 c1 c2
  have hsz : w.heap.size + 1 < w1.heap.size := by have := hg1.size; simp at this; omega
  obtain ⟨r, hra⟩ := row_some hown (by omega)
  subst hra
  have hrl := (hown.lt r (by simp [Value.ownBlock]))
  simp at hrl
  have HX1 := Lib.hid (show BY w (w1.alloc (.cells #[.int .i64 h0, .slice (some ⟨r, 0, none⟩) n vc] 26)) w1.heap.size g (k + 30) P Q G h0 r n vc zs from by
    have hb := ba w1 (.cells #[.int .i64 h0, .slice (some ⟨r, 0, none⟩) n vc] 26)
    exact ⟨⟨hgl, hsz, by omega, by omega⟩, (HR.out.by hg1 (by simp; omega)).below hb, (HT.out.by hg1 (by simp; omega)).below hb, bv_new w1 _ rfl _ _ _, own_base (hown.alloc _) (by simp), hc1.below hb, grown_trans (grown_trans HG.out hg1) (grown_below hb _)⟩)
  clear hc1 hg1 HC HG HR HT hown
  go_wp2_with fail
  refine (pick_any g _ 20 (by omega) (by omega) _ HX1.out.2.2.2.2.2.1).mono ?_
  rintro e w2 ⟨x2, rfl, hx2, hc2, hg2⟩
  have HX2 := Lib.hid (HX1.out.call hg2 hc2)
  clear hc2 hg2 HX1
  generalize w1.heap.size = b at HX2 hsz
  by_cases hx0 : x2 = 0
  · subst hx0
    obtain ⟨c0, c1, c2⟩ := HX2.out.2.1
    go_wp2_with fail
    refine (anyElement_any g _ (by omega) P Q G p0 p1 q0 q1 g0 g1 _ HX2.out.2.2.2.2.2.1).mono ?_
    rintro e w3 ⟨z, rfl, _, hc3, hg3⟩
    have HX3 := Lib.hid (HX2.out.call hg3 hc3)
    clear hc3 hg3 c0 c1 c2 HX2
    have HE := Lib.hid (HX3.out.set0 z)
    obtain ⟨b0, b1⟩ := HX3.out.2.2.2.1.1
    have bf := HX3.out.2.2.2.1.2
    have bf0 := bf 0
    clear bf
    obtain ⟨⟨t0, t1⟩, a0, a1⟩ := And.intro HE.out.2.2.2.1.1 HE.out.2.2.1.1
    have af := HE.out.2.2.1.2
    have af0 := af 0
    have af1 := af 1
    clear af
    go_wp2
    (try simp only [Exit.inBlock, Exit.then])
    refine bodyPost_ret (v := .agg #[.int .i64 z, .slice (some ⟨r, 0, none⟩) n vc]) ?_ rfl ⟨_, _, _, _, _, rfl, HE.out.res.1, ⟨by omega, by omega⟩, HE.out.res.2.1.mono (by omega), HE.out.res.2.2⟩
    · rw [results_cell_one rfl]; go_simp
  have hq0 : (x2 == 0) = false := by simpa using hx0
  by_cases hx1 : x2 = 1
  · subst hx1
    go_wp2_with fail
    have hbd : Below w2.heap.size w2 w2.drew := (Below.refl _ w2).drew
    have HXs := Lib.hid (HX2.out.below hbd)
    have hn0 : (0 : Int) < (n : Int) := by omega
    have hn00 : 0 < n := by omega
    clear hbd HX2
    refine wpK_begin (n := 6) (S := (fun w' => (w'.cell? ⟨w.heap.size, 0, none⟩ = some (.int .i64 P) ∧ w'.cell? ⟨w.heap.size, 1, none⟩ = some (.int .i64 Q) ∧ w'.cell? ⟨w.heap.size, 2, none⟩ = some (.int .i64 G)) ∧ w'.cell? ⟨b, 1, none⟩ = some (.slice (some ⟨r, 0, none⟩) n vc))) (by kernel_rfl) ?_
    refine wpK_take (i := 0) (v := ?_) rfl (by kernel_rfl) (by kernel_rfl) (by kernel_rfl) (by kernel_rfl) (fun _ _ _ h => h) (Or.inl ⟨by kernel_rfl, ?_⟩) (show _ from ⟨⟨HXs.out.2.1.1, HXs.out.2.1.2.1, HXs.out.2.1.2.2⟩, HXs.out.2.2.2.1.1.2⟩) ?_
    rotate_left 1
    · intro w9 hSw
      (try dsimp only at hSw)
      go_simp
      (try with_reducible rfl)
    (try simp only [Act.put, List.getElem_toArray, List.getElem_cons_succ, List.getElem_cons_zero, List.setIfInBounds_toArray, List.set_cons_zero, List.set_cons_succ])
    refine wpK_take (i := 1) (v := ?_) rfl (by kernel_rfl) (by kernel_rfl) (by kernel_rfl) (by kernel_rfl) (fun _ _ _ h => h) (Or.inl ⟨by kernel_rfl, ?_⟩) (show _ from ⟨⟨HXs.out.2.1.1, HXs.out.2.1.2.1, HXs.out.2.1.2.2⟩, HXs.out.2.2.2.1.1.2⟩) ?_
    rotate_left 1
    · intro w9 hSw
      (try dsimp only at hSw)
      go_simp
      (try with_reducible rfl)
    (try simp only [Act.put, List.getElem_toArray, List.getElem_cons_succ, List.getElem_cons_zero, List.setIfInBounds_toArray, List.set_cons_zero, List.set_cons_succ])
    refine wpK_take (i := 2) (v := ?_) rfl (by kernel_rfl) (by kernel_rfl) (by kernel_rfl) (by kernel_rfl) (fun _ _ _ h => h) (Or.inl ⟨by kernel_rfl, ?_⟩) (show _ from ⟨⟨HXs.out.2.1.1, HXs.out.2.1.2.1, HXs.out.2.1.2.2⟩, HXs.out.2.2.2.1.1.2⟩) ?_
    rotate_left 1
    · intro w9 hSw
      (try dsimp only at hSw)
      go_simp
      (try with_reducible rfl)
    (try simp only [Act.put, List.getElem_toArray, List.getElem_cons_succ, List.getElem_cons_zero, List.setIfInBounds_toArray, List.set_cons_zero, List.set_cons_succ])
    refine wpK_take (i := 3) (v := ?_) rfl (by kernel_rfl) (by kernel_rfl) (by kernel_rfl) (by kernel_rfl) (fun _ _ _ h => h) (Or.inl ⟨by kernel_rfl, ?_⟩) (show _ from ⟨⟨HXs.out.2.1.1, HXs.out.2.1.2.1, HXs.out.2.1.2.2⟩, HXs.out.2.2.2.1.1.2⟩) ?_
    rotate_left 1
    · intro w9 hSw
      (try dsimp only at hSw)
      go_simp
      (try with_reducible rfl)
    (try simp only [Act.put, List.getElem_toArray, List.getElem_cons_succ, List.getElem_cons_zero, List.setIfInBounds_toArray, List.set_cons_zero, List.set_cons_succ])
    refine wpK_one (i := 4) (by kernel_rfl) rfl ?_
    intro K' hK
    go_simp
    go_at_call 137
    refine (anyElement_any g _ (by omega) P Q G p0 p1 q0 q1 g0 g1 _ HXs.out.2.2.2.2.2.1).mono ?_
    rintro e w3 ⟨z, rfl, _, hc3, hg3⟩
    have HXc := Lib.hid (HXs.out.call hg3 hc3)
    clear hc3 hg3
    go_wp2_with fail
    refine hK.out _ _ (fun _ => ⟨⟨HXc.out.2.1.1, HXc.out.2.1.2.1, HXc.out.2.1.2.2⟩, HXc.out.2.2.2.1.1.2⟩) ?_
    clear hK K'
    (try simp only [Act.put, List.getElem_toArray, List.getElem_cons_succ, List.getElem_cons_zero, List.setIfInBounds_toArray, List.set_cons_zero, List.set_cons_succ])
    refine wpK_take (i := 5) (v := ?_) rfl (by kernel_rfl) (by kernel_rfl) (by kernel_rfl) (by kernel_rfl) (fun _ _ _ h => h) (Or.inl ⟨by kernel_rfl, ?_⟩) ⟨⟨HXc.out.2.1.1, HXc.out.2.1.2.1, HXc.out.2.1.2.2⟩, HXc.out.2.2.2.1.1.2⟩ ?_
    rotate_left 1
    · intro w9 hSw
      (try dsimp only at hSw)
      go_simp
      (try with_reducible rfl)
    (try simp only [Act.put, List.getElem_toArray, List.getElem_cons_succ, List.getElem_cons_zero, List.setIfInBounds_toArray, List.set_cons_zero, List.set_cons_succ])
    refine wpK_one (i := 6) (by kernel_rfl) rfl ?_
    intro K' hK
    have hzl : 0 < zs.length := by have := HXc.out.2.2.2.2.1.1; simp at this; omega
    obtain ⟨u0, u1⟩ := sown_at HXc.out.2.2.2.2.1 (j := 0) (by omega) (z := zs[0]) (by simp [hzl])
    generalize zs[0] = z0 at u0
    go_simp
    refine hK.out _ _ (fun h => absurd rfl h) ?_
    clear hK K'
    (try simp only [Act.put, List.getElem_toArray, List.getElem_cons_succ, List.getElem_cons_zero, List.setIfInBounds_toArray, List.set_cons_zero, List.set_cons_succ])
    refine wpK_done (by kernel_rfl) ?_ _
    have HE := Lib.hid (HXc.out.put (j := 0) z)
    obtain ⟨⟨t0, t1⟩, a0, a1⟩ := And.intro HE.out.2.2.2.1.1 HE.out.2.2.1.1
    have af := HE.out.2.2.1.2
    have af0 := af 0
    have af1 := af 1
    clear af
    go_wp2
    (try simp only [Exit.inBlock, Exit.then])
    refine bodyPost_ret (v := .agg #[.int .i64 h0, .slice (some ⟨r, 0, none⟩) n vc]) ?_ rfl ⟨_, _, _, _, _, rfl, HE.out.res.1, ⟨by omega, by omega⟩, HE.out.res.2.1.mono (by omega), HE.out.res.2.2⟩
    · rw [results_cell_one rfl]; go_simp
  have hq1 : (x2 == 1) = false := by simpa using hx1
  by_cases hx3 : x2 = 2
  · subst hx3
    go_wp2
    go_loopw [] (fun wr => ∃ (r n vc : Nat) (zs : List Int), (1 ≤ n ∧ n ≤ 25) ∧ BY w wr b g (k + 40 + 4 * n) P Q G h0 r n vc zs) (fun wr => match wr.cell? ⟨b, 1, none⟩ with | some (.slice _ m _) => 30 - m | _ => 0)
    case atStart => exact ⟨r, n, vc, zs, by omega, HX2.out.mono (by omega)⟩
    case round =>
      obtain ⟨r, n, vc, zs, ⟨hn1, hn25⟩, hx⟩ := hrel
      have HX := Lib.hid hx
      clear hx HX2
      have HM := Lib.hid HX.out.2.2.2.1.1.2
      go_wp2_with fail
      have hbd : Below wr.heap.size wr wr.drew := (Below.refl _ wr).drew
      have HXs := Lib.hid (HX.out.below hbd)
      clear hbd
      refine wp_region_held_drew (S := (fun w' => w'.cell? ⟨b, 1, none⟩ = some (.slice (some ⟨r, 0, none⟩) n vc))) (by kernel_rfl) (show _ from HXs.out.2.2.2.1.1.2) (fun hHeld => ?_)
      refine wpAnyH_take (i := 0) (v := ?_) rfl (by kernel_rfl) (by kernel_rfl) (by kernel_rfl) (fun _ _ _ h => h) (Or.inl ⟨by kernel_rfl, ?_⟩) (by assumption) ?_
      rotate_left 1
      · intro w9 hSw
        try dsimp only at hSw
        go_simp
        try with_reducible rfl
      try simp only [Act.put, List.getElem_toArray, List.getElem_cons_succ, List.getElem_cons_zero, List.setIfInBounds_toArray, List.set_cons_zero, List.set_cons_succ]
      refine wpAnyH_take (i := 1) (v := ?_) rfl (by kernel_rfl) (by kernel_rfl) (by kernel_rfl) (fun _ _ _ h => h) (Or.inl ⟨by kernel_rfl, ?_⟩) (by assumption) ?_
      rotate_left 1
      · intro w9 hSw
        try dsimp only at hSw
        go_simp
        try with_reducible rfl
      try simp only [Act.put, List.getElem_toArray, List.getElem_cons_succ, List.getElem_cons_zero, List.setIfInBounds_toArray, List.set_cons_zero, List.set_cons_succ]
      refine wpAnyH_take (i := 2) (v := ?_) rfl (by kernel_rfl) (by kernel_rfl) (by kernel_rfl) (fun _ _ _ h => h) (Or.inl ⟨by kernel_rfl, ?_⟩) (by assumption) ?_
      rotate_left 1
      · intro w9 hSw
        try dsimp only at hSw
        go_simp
        try with_reducible rfl
      try simp only [Act.put, List.getElem_toArray, List.getElem_cons_succ, List.getElem_cons_zero, List.setIfInBounds_toArray, List.set_cons_zero, List.set_cons_succ]
      refine wpAnyH_take (i := 3) (v := ?_) rfl (by kernel_rfl) (by kernel_rfl) (by kernel_rfl) (fun _ _ _ h => h) (Or.inl ⟨by kernel_rfl, ?_⟩) (by assumption) ?_
      rotate_left 1
      · intro w9 hSw
        try dsimp only at hSw
        go_simp
        try with_reducible rfl
      try simp only [Act.put, List.getElem_toArray, List.getElem_cons_succ, List.getElem_cons_zero, List.setIfInBounds_toArray, List.set_cons_zero, List.set_cons_succ]
      refine wpAnyH_ready (rs := [4]) (by kernel_rfl) (by simp) ?_
      refine AllReadyH.cons rfl (fun K hK => ?_) AllReadyH.nil
      go_simp
      go_at_call 100
      refine (pick_any g _ 2 (by omega) (by omega) _ HXs.out.2.2.2.2.2.1).mono ?_
      rintro e w5 ⟨x5, rfl, hx5, hc5, hg5⟩
      have HX5 := Lib.hid (HXs.out.call hg5 hc5)
      have hx50 : 0 ≤ x5 := hx5.1
      have hx51 : x5 ≤ 1 := by omega
      clear hc5 hg5 hx5
      have hwr : IntKind.i64.wrap (24 + x5) = 24 + x5 := by rw [IntKind.wrap_i64]; omega
      go_wp2_with fail
      refine hK.out _ _ (show _ from HX5.out.2.2.2.1.1.2) (fun hHeld => ?_)
      clear hK K
      try simp only [Act.put, List.getElem_toArray, List.getElem_cons_succ, List.getElem_cons_zero, List.setIfInBounds_toArray, List.set_cons_zero, List.set_cons_succ]
      refine wpAnyH_take (i := 5) (v := ?_) rfl (by kernel_rfl) (by kernel_rfl) (by kernel_rfl) (fun _ _ _ h => h) (Or.inl ⟨by kernel_rfl, ?_⟩) (by assumption) ?_
      rotate_left 1
      · intro w9 hSw
        try dsimp only at hSw
        go_simp
        try with_reducible rfl
      try simp only [Act.put, List.getElem_toArray, List.getElem_cons_succ, List.getElem_cons_zero, List.setIfInBounds_toArray, List.set_cons_zero, List.set_cons_succ]
      refine wpAnyH_take (i := 6) (v := ?_) rfl (by kernel_rfl) (by kernel_rfl) (by kernel_rfl) (fun _ _ _ h => h) (Or.inl ⟨by kernel_rfl, ?_⟩) (by assumption) ?_
      rotate_left 1
      · intro w9 hSw
        try dsimp only at hSw
        go_simp
        try with_reducible rfl
      try simp only [Act.put, List.getElem_toArray, List.getElem_cons_succ, List.getElem_cons_zero, List.setIfInBounds_toArray, List.set_cons_zero, List.set_cons_succ]
      refine wpAnyH_done (by kernel_rfl) ?_ _
      clear HXs HX hHeld
      by_cases hlt : (n : Int) < 24 + x5
      · have hn24 : n ≤ 24 := by omega
        obtain ⟨b0, b1⟩ := HX5.out.2.2.2.1.1
        go_wp2_with (at_builtin
                     refine wpList_append_lies _ rfl _ _ 24 rfl (w.heap.size + 2) 3 i0 (.int .i64 0) 1 8 Try.underlying24 hi hz0 hz1 hz2 rfl (by decide) _ _ _ rfl (HX5.out.2.2.2.2.1.alloc _) ⟨w5.heap.size, 0, none⟩ 1 1 [.int .i64 h0] rfl rfl (cell_one_new _ _ _) (ints_oneCell .i64 [h0]) (by decide) (by unfold maxLen; omega) (by omega) (by have := HX5.out.2.2.2.1.lt; simp; omega) (w5.heap.size + 1) (by simp) ?_
                     intro g7 c7 w7 hown7 hgr7 hat7 hlt7
                     have HX6 := Lib.hid (HX5.out.below (ba w5 (.cells #[.int .i64 h0] 3)))
                     have HG7 := Lib.hid (show (w5.alloc (.cells #[.int .i64 h0] 3)).grownBy w7 (some r) from hgr7)
                     have HB7 := Lib.hid (HX6.out.held HG7.out)
                     have HO7 := Lib.hid (show w7.ownsRow (w.heap.size + 2) 3 1 (.slice (some ⟨g7, 0, none⟩) (n + 1) c7) (n + 1) ((zs ++ [h0]).map (Value.int .i64)) by rw [List.map_append]; exact hown7)
                     have HN7 := Lib.hid (show g7 ≠ b from by
                       have hbl := HX5.out.2.2.2.1.lt
                       rcases hat7 with hat | hat
                       · have hat2 : r = g7 := Option.some.inj (show some r = some g7 from hat)
                         have := HX5.out.1.2.2.1; omega
                       · omega)
                     obtain ⟨y0, y1⟩ := HB7.out.1
                     have yf := HB7.out.2
                     have yf1 := yf 1
                     clear hown7 hgr7 hat7 hlt7 yf b0 b1)
        have HX8 := Lib.hid (HX6.out.app HG7.out HO7.out HN7.out)
        go_roundw
        case rel => exact ⟨g7, n + 1, c7, zs ++ [h0], by omega, HX8.out.mono (by omega)⟩
        case measure => rw [HM.out, HX8.out.2.2.2.1.1.2]; show 30 - (n + 1) < 30 - n; omega
      · have hge : 24 + x5 ≤ (n : Int) := by omega
        have HE := Lib.hid HX5.out
        obtain ⟨⟨t0, t1⟩, a0, a1⟩ := And.intro HE.out.2.2.2.1.1 HE.out.2.2.1.1
        have af := HE.out.2.2.1.2
        have af0 := af 0
        have af1 := af 1
        clear af
        go_wp2
        (try simp only [Exit.inBlock, Exit.then])
        refine bodyPost_ret (v := .agg #[.int .i64 h0, .slice (some ⟨r, 0, none⟩) n vc]) ?_ rfl ⟨_, _, _, _, _, rfl, HE.out.res.1, ⟨by omega, by omega⟩, HE.out.res.2.1.mono (by omega), HE.out.res.2.2⟩
        · rw [results_cell_one rfl]; go_simp
  have hq2 : (x2 == 2) = false := by simpa using hx3
  have HE := Lib.hid HX2.out
  obtain ⟨⟨t0, t1⟩, a0, a1⟩ := And.intro HE.out.2.2.2.1.1 HE.out.2.2.1.1
  have af := HE.out.2.2.1.2
  have af0 := af 0
  have af1 := af 1
  clear af
  go_wp2
  (try simp only [Exit.inBlock, Exit.then])
  refine bodyPost_ret (v := .agg #[.int .i64 h0, .slice (some ⟨r, 0, none⟩) n vc]) ?_ rfl ⟨_, _, _, _, _, rfl, HE.out.res.1, ⟨by omega, by omega⟩, HE.out.res.2.1.mono (by omega), HE.out.res.2.2⟩
  · rw [results_cell_one rfl]; go_simp
end Go.Proofs.Ytglfbhkdmkneoaa

/- What the law FnCommitments draws. -/
namespace Go.Proofs.Ytglfbhkdmkneoaa
open Go.RowKit
set_option linter.unusedVariables false
set_option linter.unusedSimpArgs false

theorem results_cell2_tmp2 {fn : Func} {p q u v : Tmp} {ty ty' : TypeId} (h : fn.results = #[.cell p ty, .cell q ty', .tmp u, .tmp v]) (tmps : Array Value) (P : Program) (w : World) :
    (results fn tmps).run P w =
      ((asAddr (tmps.getD p undef)).run P w).andThen fun a w₁ => ((loadVar ty a).run P w₁).andThen fun x w₂ => ((asAddr (tmps.getD q undef)).run P w₂).andThen fun a2 w₃ => ((loadVar ty' a2).run P w₃).andThen fun x2 w₄ => .ok (.tuple #[x, x2, tmps.getD u undef, tmps.getD v undef]) w₄ := by
  simp only [results, h]
  simp [Sem.run_bind, Result.andThen]
theorem results_cell_tmp4 {fn : Func} {p u v y z : Tmp} {ty : TypeId} (h : fn.results = #[.cell p ty, .tmp u, .tmp v, .tmp y, .tmp z]) (tmps : Array Value) (P : Program) (w : World) :
    (results fn tmps).run P w =
      ((asAddr (tmps.getD p undef)).run P w).andThen fun a w₁ => ((loadVar ty a).run P w₁).andThen fun x w₂ => .ok (.tuple #[x, tmps.getD u undef, tmps.getD v undef, tmps.getD y undef, tmps.getD z undef]) w₂ := by
  simp only [results, h]
  simp [Sem.run_bind, Result.andThen]
theorem own_belowR {w w' : World} {B n vc : Nat} {va : Option Addr} {zs : List Int} (h : w.ownsRow B 3 1 (.slice va n vc) n (zs.map (Value.int .i64))) (hb : Below w.heap.size w w') : w'.ownsRow B 3 1 (.slice va n vc) n (zs.map (Value.int .i64)) := own_ne h (grown_below hb none) (fun a ha => by simp)
/-- All that stands while arguments are drawn: the answer's group variable first in w0, the cursor c, the group's variable b. -/
def BD (w0 w : World) (c b k : Nat) (P Q G : Int) : Prop := (w0.heap.size < c ∧ c < b) ∧ Own3 w w0.heap.size 0 0 0 ∧ GR w b P Q G ∧ Cur w c k ∧ Below w0.heap.size w0 w
theorem BD.call {w0 w w' : World} {c b k k' : Nat} {P Q G : Int} (x : BD w0 w c b k P Q G) (hg : w.grownBy w' (some c)) (hc : Cur w' c k') : BD w0 w' c b k' P Q G := by
  obtain ⟨⟨l0, l1⟩, x1, x2, x3, x4⟩ := x
  exact ⟨⟨l0, l1⟩, x1.grown hg (by omega), x2.grown hg (by omega), hc, below_at x4 hg (by omega)⟩
theorem BD.below {w0 w w' : World} {c b k : Nat} {P Q G : Int} (x : BD w0 w c b k P Q G) (hb : Below w.heap.size w w') : BD w0 w' c b k P Q G :=
  ⟨x.1, x.2.1.below hb, x.2.2.1.below hb, x.2.2.2.1.below hb, bt x.2.2.2.2 hb⟩
theorem grown3 (w : World) (b : Nat) (x y z : Value) : w.grownBy (((w.setCell ⟨b, 0, none⟩ x).setCell ⟨b, 1, none⟩ y).setCell ⟨b, 2, none⟩ z) (some b) := grown_trans (grown_trans (grown_setCell w ⟨b, 0, none⟩ x) (grown_setCell _ ⟨b, 1, none⟩ y)) (grown_setCell _ ⟨b, 2, none⟩ z)
theorem grown2 (w : World) (b : Nat) (x y : Value) : w.grownBy ((w.setCell ⟨b, 0, none⟩ x).setCell ⟨b, 1, none⟩ y) (some b) := grown_trans (grown_setCell w ⟨b, 0, none⟩ x) (grown_setCell _ ⟨b, 1, none⟩ y)
theorem inI_own {w : World} {B : Nat} {va : Option Addr} {vc : Nat} {zs : List Int} (h : w.ownsRow B 3 1 (.slice va zs.length vc) zs.length (zs.map (Value.int .i64))) : InI w.heap.size w (.slice va zs.length vc) zs :=
  InI.of (own_ints h).1 (own_ints h).2.2 (own_cap h)

set_option maxRecDepth 100000 in
set_option maxHeartbeats 6400000 in
theorem vector_any (g k : Nat) (hk : k ≤ 700000000) (P Q G : Int) (q0 : -1 ≤ Q) (q1 : Q ≤ 2000000000) (h : Int) (va : Option Addr) (n vc : Nat) (hn : n ≤ 25) (w : World) (hc : Cur w g k) :
    Calls Try.prog 112 #[.pointer (some ⟨g, 0, none⟩), gv P Q G, .agg #[.int .i64 h, .slice va n vc]] w (ReadPostC w g (k + 200) 31) := by
  have hgl := hc.lt
  have hal : Below w.heap.size w ((w.alloc (.cells #[.int .i64 P, .int .i64 Q, .int .i64 G] 29)).alloc (.cells #[.int .i64 h, .slice va n vc] 26)) := bt (ba _ _) (ba _ _)
  have HC := Lib.hid (hc.below hal)
  have HG := Lib.hid (grown_below hal (some g))
  have HR := Lib.hid ((gr_new w P Q G 29).below (ba _ (.cells #[.int .i64 h, .slice va n vc] 26)))
  have HV := Lib.hid (bv_new (w.alloc (.cells #[.int .i64 P, .int .i64 Q, .int .i64 G] 29)) (w.heap.size + 1) (by simp) h (.slice va n vc) 26)
  clear hc hal
  have hw1 : IntKind.i64.wrap ((n : Int) + 1) = (n : Int) + 1 := by rw [IntKind.wrap_i64]; omega
  go_enter Try.func112, Try.ntmps112
  go_wp2_with fail
  generalize hW : (w.alloc (.cells #[.int .i64 P, .int .i64 Q, .int .i64 G] 29)).alloc (.cells #[.int .i64 h, .slice va n vc] 26) = u0 at *
  clear hW
  have hbd : Below u0.heap.size u0 u0.drew := (Below.refl _ u0).drew
  have HCs := Lib.hid (HC.out.below hbd)
  have HGs := Lib.hid (grown_trans HG.out (grown_below hbd (some g)))
  have HRs := Lib.hid (HR.out.below hbd)
  have HVs := Lib.hid (HV.out.below hbd)
  clear hbd
  refine wp_region_held_drew (S := (fun w' => (w'.cell? ⟨w.heap.size, 0, none⟩ = some (.int .i64 P) ∧ w'.cell? ⟨w.heap.size, 1, none⟩ = some (.int .i64 Q) ∧ w'.cell? ⟨w.heap.size, 2, none⟩ = some (.int .i64 G)) ∧ w'.cell? ⟨w.heap.size + 1, 1, none⟩ = some (.slice va n vc))) (by kernel_rfl) (show _ from ⟨⟨HRs.out.1, HRs.out.2.1, HRs.out.2.2⟩, HVs.out.1.2⟩) (fun hHeld => ?_)
  refine wpAnyH_take (i := 0) (v := ?_) rfl (by kernel_rfl) (by kernel_rfl) (by kernel_rfl) (fun _ _ _ h => h) (Or.inl ⟨by kernel_rfl, ?_⟩) (by assumption) ?_
  rotate_left 1
  · intro w9 hSw
    try dsimp only at hSw
    go_simp
    try with_reducible rfl
  try simp only [Act.put, List.getElem_toArray, List.getElem_cons_succ, List.getElem_cons_zero, List.setIfInBounds_toArray, List.set_cons_zero, List.set_cons_succ]
  refine wpAnyH_take (i := 1) (v := ?_) rfl (by kernel_rfl) (by kernel_rfl) (by kernel_rfl) (fun _ _ _ h => h) (Or.inl ⟨by kernel_rfl, ?_⟩) (by assumption) ?_
  rotate_left 1
  · intro w9 hSw
    try dsimp only at hSw
    go_simp
    try with_reducible rfl
  try simp only [Act.put, List.getElem_toArray, List.getElem_cons_succ, List.getElem_cons_zero, List.setIfInBounds_toArray, List.set_cons_zero, List.set_cons_succ]
  refine wpAnyH_take (i := 2) (v := ?_) rfl (by kernel_rfl) (by kernel_rfl) (by kernel_rfl) (fun _ _ _ h => h) (Or.inl ⟨by kernel_rfl, ?_⟩) (by assumption) ?_
  rotate_left 1
  · intro w9 hSw
    try dsimp only at hSw
    go_simp
    try with_reducible rfl
  try simp only [Act.put, List.getElem_toArray, List.getElem_cons_succ, List.getElem_cons_zero, List.setIfInBounds_toArray, List.set_cons_zero, List.set_cons_succ]
  refine wpAnyH_take (i := 3) (v := ?_) rfl (by kernel_rfl) (by kernel_rfl) (by kernel_rfl) (fun _ _ _ h => h) (Or.inl ⟨by kernel_rfl, ?_⟩) (by assumption) ?_
  rotate_left 1
  · intro w9 hSw
    try dsimp only at hSw
    go_simp
    try with_reducible rfl
  try simp only [Act.put, List.getElem_toArray, List.getElem_cons_succ, List.getElem_cons_zero, List.setIfInBounds_toArray, List.set_cons_zero, List.set_cons_succ]
  refine wpAnyH_take (i := 4) (v := ?_) rfl (by kernel_rfl) (by kernel_rfl) (by kernel_rfl) (fun _ _ _ h => h) (Or.inl ⟨by kernel_rfl, ?_⟩) (by assumption) ?_
  rotate_left 1
  · intro w9 hSw
    try dsimp only at hSw
    go_simp
    try with_reducible rfl
  try simp only [Act.put, List.getElem_toArray, List.getElem_cons_succ, List.getElem_cons_zero, List.setIfInBounds_toArray, List.set_cons_zero, List.set_cons_succ]
  refine wpAnyH_take (i := 5) (v := ?_) rfl (by kernel_rfl) (by kernel_rfl) (by kernel_rfl) (fun _ _ _ h => h) (Or.inl ⟨by kernel_rfl, ?_⟩) (by assumption) ?_
  rotate_left 1
  · intro w9 hSw
    try dsimp only at hSw
    go_simp
    try with_reducible rfl
  try simp only [Act.put, List.getElem_toArray, List.getElem_cons_succ, List.getElem_cons_zero, List.setIfInBounds_toArray, List.set_cons_zero, List.set_cons_succ]
  refine wpAnyH_take (i := 6) (v := ?_) rfl (by kernel_rfl) (by kernel_rfl) (by kernel_rfl) (fun _ _ _ h => h) (Or.inl ⟨by kernel_rfl, ?_⟩) (by assumption) ?_
  rotate_left 1
  · intro w9 hSw
    try dsimp only at hSw
    go_simp
    try with_reducible rfl
  try simp only [Act.put, List.getElem_toArray, List.getElem_cons_succ, List.getElem_cons_zero, List.setIfInBounds_toArray, List.set_cons_zero, List.set_cons_succ]
  refine wpAnyH_ready (rs := [7]) (by kernel_rfl) (by simp) ?_
  refine AllReadyH.cons rfl (fun K hK => ?_) AllReadyH.nil
  go_simp
  go_at_call 100
  refine (pick_any g _ _ (by omega) (by omega) _ HCs.out).mono ?_
  rintro e u1 ⟨x, rfl, hx, hc9, hg9⟩
  have hx0 : 0 ≤ x := hx.1
  have hx1 : x ≤ 25 := by omega
  obtain ⟨m, rfl⟩ := Int.eq_ofNat_of_zero_le hx0
  have HC1 := Lib.hid hc9
  have HG1 := Lib.hid (grown_trans HGs.out hg9)
  have HR1 := Lib.hid (HRs.out.by hg9 (by simp; omega))
  have HV1 := Lib.hid (HVs.out.by hg9 (by simp; omega))
  clear hc9 hg9 hx
  go_wp2_with fail
  refine hK.out _ _ (show _ from ⟨⟨HR1.out.1, HR1.out.2.1, HR1.out.2.2⟩, HV1.out.1.2⟩) (fun hHeld => ?_)
  clear hK K
  try simp only [Act.put, List.getElem_toArray, List.getElem_cons_succ, List.getElem_cons_zero, List.setIfInBounds_toArray, List.set_cons_zero, List.set_cons_succ]
  refine wpAnyH_ready (rs := [8]) (by kernel_rfl) (by simp) ?_
  refine AllReadyH.cons rfl (fun K hK => ?_) AllReadyH.nil
  go_simp
  go_at_call 88
  refine (anyCoinsC_any g _ (by omega) P Q G q0 q1 m (by omega) _ HC1.out).mono ?_
  rintro e u2 ⟨ad, nn, cap, zs, rfl, hi9, hl9, hn9, hu9, hc9, hg9, hcp9⟩
  have HCP := Lib.hid hcp9
  have HC2 := Lib.hid hc9
  have HG2 := Lib.hid (grown_trans HG1.out hg9)
  have HR2 := Lib.hid (HR1.out.by hg9 (by simp; omega))
  have HV2 := Lib.hid (HV1.out.by hg9 (by simp; omega))
  have HI := Lib.hid hi9
  have HL := Lib.hid hl9
  have HU := Lib.hid (show ∀ a, ad = some a → w.heap.size ≤ a.block from fun a ha => Nat.le_trans HG1.out.size (hu9 a ha))
  clear hc9 hg9 hi9 hl9 hu9 hcp9
  go_wp2_with fail
  refine hK.out _ _ (show _ from ⟨⟨HR2.out.1, HR2.out.2.1, HR2.out.2.2⟩, HV2.out.1.2⟩) (fun hHeld => ?_)
  clear hK K
  try simp only [Act.put, List.getElem_toArray, List.getElem_cons_succ, List.getElem_cons_zero, List.setIfInBounds_toArray, List.set_cons_zero, List.set_cons_succ]
  refine wpAnyH_take (i := 9) (v := ?_) rfl (by kernel_rfl) (by kernel_rfl) (by kernel_rfl) (fun _ _ _ h => h) (Or.inl ⟨by kernel_rfl, ?_⟩) (by assumption) ?_
  rotate_left 1
  · intro w9 hSw
    try dsimp only at hSw
    go_simp
    try with_reducible rfl
  try simp only [Act.put, List.getElem_toArray, List.getElem_cons_succ, List.getElem_cons_zero, List.setIfInBounds_toArray, List.set_cons_zero, List.set_cons_succ]
  refine wpAnyH_done (by kernel_rfl) ?_ _
  go_wp2
  go_ret
  exact ⟨ad, nn, cap, zs, rfl, HI.out, HL.out, hn9, HU.out, HC2.out.mono (by omega), HG2.out, HCP.out⟩

/-- What DrawEquivocate hands out. -/
def DrawEq (w : World) (e : Ending) (w' : World) : Prop := ∃ P Q G a b c d : Int, e = .returned (.tuple #[gv P Q G, .int .i64 a, .int .i64 b, .int .i64 c, .int .i64 d]) ∧ DB P Q G ∧ ((-3 ≤ a ∧ a ≤ 2000000000) ∧ (-3 ≤ b ∧ b ≤ 2000000000) ∧ (-3 ≤ c ∧ c ≤ 2000000000) ∧ (-3 ≤ d ∧ d ≤ 2000000000)) ∧ Below w.heap.size w w'

set_option maxRecDepth 100000 in
set_option maxHeartbeats 6400000 in
theorem drawEquivocate_any (ad : Option Addr) (n cap : Nat) (w : World) (hb : IsB w ad n) :
    Calls Try.prog 53 #[.slice ad n cap] w (DrawEq w) := by
  have hal : Below w.heap.size w (w.alloc (.cells #[.int .i64 0, .int .i64 0, .int .i64 0] 29)) := ba _ _
  have hal2 := ba (w.alloc (.cells #[.int .i64 0, .int .i64 0, .int .i64 0] 29)) (.cells #[.slice ad n cap, .int .i64 0, .int .u64 0] 105)
  have HC := Lib.hid (cur_at (w.alloc (.cells #[.int .i64 0, .int .i64 0, .int .i64 0] 29)) (w.heap.size + 1) (by simp) ad n cap (hb.below hal) 105)
  have HB := Lib.hid (bt hal hal2)
  have HO := Lib.hid ((own3_new w 0 0 0 29).below hal2)
  clear hb hal hal2
  go_enter Try.func53, Try.ntmps53
  go_wp2_with fail
  refine (anyGroup_any (w.heap.size + 1) 0 (Nat.zero_le _) _ HC.out).mono ?_
  rintro e w1 ⟨P, Q, G, rfl, hd, hc1, hg1⟩
  have HD := Lib.hid hd
  obtain ⟨⟨p0, p1⟩, ⟨q0, q1⟩, g0, g1⟩ := hd
  have hal3 := ba w1 (.cells #[.int .i64 P, .int .i64 Q, .int .i64 G] 29)
  have hs1 : w.heap.size + 1 < w1.heap.size := hc1.lt
  have HX1 := Lib.hid (show BD w (w1.alloc (.cells #[.int .i64 P, .int .i64 Q, .int .i64 G] 29)) (w.heap.size + 1) w1.heap.size 12 P Q G from ⟨⟨by omega, hs1⟩, (HO.out.grown hg1 (by omega)).below hal3, gr_new w1 P Q G 29, hc1.below hal3, bt (below_at HB.out hg1 (by omega)) hal3⟩)
  clear hg1 hc1 hal3 HC HB HO
  obtain ⟨v0, v1, v2⟩ := HX1.out.2.2.1
  go_wp2_with fail
  generalize hW : w1.alloc (.cells #[.int .i64 P, .int .i64 Q, .int .i64 G] 29) = u0 at *
  clear hW v0 v1 v2
  generalize w1.heap.size = b at *
  have hbd : Below u0.heap.size u0 u0.drew := (Below.refl _ u0).drew
  have HXs := Lib.hid (HX1.out.below hbd)
  clear hbd
  refine wp_region_held_drew (S := (fun w' => (w'.cell? ⟨b, 0, none⟩ = some (.int .i64 P) ∧ w'.cell? ⟨b, 1, none⟩ = some (.int .i64 Q) ∧ w'.cell? ⟨b, 2, none⟩ = some (.int .i64 G)))) (by kernel_rfl) (show _ from ⟨HXs.out.2.2.1.1, HXs.out.2.2.1.2.1, HXs.out.2.2.1.2.2⟩) (fun hHeld => ?_)
  refine wpAnyH_take (i := 0) (v := ?_) rfl (by kernel_rfl) (by kernel_rfl) (by kernel_rfl) (fun _ _ _ h => h) (Or.inl ⟨by kernel_rfl, ?_⟩) (by assumption) ?_
  rotate_left 1
  · intro w9 hSw
    try dsimp only at hSw
    go_simp
    try with_reducible rfl
  try simp only [Act.put, List.getElem_toArray, List.getElem_cons_succ, List.getElem_cons_zero, List.setIfInBounds_toArray, List.set_cons_zero, List.set_cons_succ]
  refine wpAnyH_take (i := 1) (v := ?_) rfl (by kernel_rfl) (by kernel_rfl) (by kernel_rfl) (fun _ _ _ h => h) (Or.inl ⟨by kernel_rfl, ?_⟩) (by assumption) ?_
  rotate_left 1
  · intro w9 hSw
    try dsimp only at hSw
    go_simp
    try with_reducible rfl
  try simp only [Act.put, List.getElem_toArray, List.getElem_cons_succ, List.getElem_cons_zero, List.setIfInBounds_toArray, List.set_cons_zero, List.set_cons_succ]
  refine wpAnyH_take (i := 2) (v := ?_) rfl (by kernel_rfl) (by kernel_rfl) (by kernel_rfl) (fun _ _ _ h => h) (Or.inl ⟨by kernel_rfl, ?_⟩) (by assumption) ?_
  rotate_left 1
  · intro w9 hSw
    try dsimp only at hSw
    go_simp
    try with_reducible rfl
  try simp only [Act.put, List.getElem_toArray, List.getElem_cons_succ, List.getElem_cons_zero, List.setIfInBounds_toArray, List.set_cons_zero, List.set_cons_succ]
  refine wpAnyH_take (i := 4) (v := ?_) rfl (by kernel_rfl) (by kernel_rfl) (by kernel_rfl) (fun _ _ _ h => h) (Or.inl ⟨by kernel_rfl, ?_⟩) (by assumption) ?_
  rotate_left 1
  · intro w9 hSw
    try dsimp only at hSw
    go_simp
    try with_reducible rfl
  try simp only [Act.put, List.getElem_toArray, List.getElem_cons_succ, List.getElem_cons_zero, List.setIfInBounds_toArray, List.set_cons_zero, List.set_cons_succ]
  refine wpAnyH_take (i := 5) (v := ?_) rfl (by kernel_rfl) (by kernel_rfl) (by kernel_rfl) (fun _ _ _ h => h) (Or.inl ⟨by kernel_rfl, ?_⟩) (by assumption) ?_
  rotate_left 1
  · intro w9 hSw
    try dsimp only at hSw
    go_simp
    try with_reducible rfl
  try simp only [Act.put, List.getElem_toArray, List.getElem_cons_succ, List.getElem_cons_zero, List.setIfInBounds_toArray, List.set_cons_zero, List.set_cons_succ]
  refine wpAnyH_take (i := 7) (v := ?_) rfl (by kernel_rfl) (by kernel_rfl) (by kernel_rfl) (fun _ _ _ h => h) (Or.inl ⟨by kernel_rfl, ?_⟩) (by assumption) ?_
  rotate_left 1
  · intro w9 hSw
    try dsimp only at hSw
    go_simp
    try with_reducible rfl
  try simp only [Act.put, List.getElem_toArray, List.getElem_cons_succ, List.getElem_cons_zero, List.setIfInBounds_toArray, List.set_cons_zero, List.set_cons_succ]
  refine wpAnyH_take (i := 8) (v := ?_) rfl (by kernel_rfl) (by kernel_rfl) (by kernel_rfl) (fun _ _ _ h => h) (Or.inl ⟨by kernel_rfl, ?_⟩) (by assumption) ?_
  rotate_left 1
  · intro w9 hSw
    try dsimp only at hSw
    go_simp
    try with_reducible rfl
  try simp only [Act.put, List.getElem_toArray, List.getElem_cons_succ, List.getElem_cons_zero, List.setIfInBounds_toArray, List.set_cons_zero, List.set_cons_succ]
  refine wpAnyH_take (i := 10) (v := ?_) rfl (by kernel_rfl) (by kernel_rfl) (by kernel_rfl) (fun _ _ _ h => h) (Or.inl ⟨by kernel_rfl, ?_⟩) (by assumption) ?_
  rotate_left 1
  · intro w9 hSw
    try dsimp only at hSw
    go_simp
    try with_reducible rfl
  try simp only [Act.put, List.getElem_toArray, List.getElem_cons_succ, List.getElem_cons_zero, List.setIfInBounds_toArray, List.set_cons_zero, List.set_cons_succ]
  refine wpAnyH_take (i := 11) (v := ?_) rfl (by kernel_rfl) (by kernel_rfl) (by kernel_rfl) (fun _ _ _ h => h) (Or.inl ⟨by kernel_rfl, ?_⟩) (by assumption) ?_
  rotate_left 1
  · intro w9 hSw
    try dsimp only at hSw
    go_simp
    try with_reducible rfl
  try simp only [Act.put, List.getElem_toArray, List.getElem_cons_succ, List.getElem_cons_zero, List.setIfInBounds_toArray, List.set_cons_zero, List.set_cons_succ]
  refine wpAnyH_ready (rs := [3]) (by kernel_rfl) (by simp) ?_
  refine AllReadyH.cons rfl (fun K hK => ?_) AllReadyH.nil
  go_simp
  go_at_call 95
  refine (anyExpo_any (w.heap.size + 1) _ (by omega) P Q G q0 q1 _ HXs.out.2.2.2.1).mono ?_
  rintro e ua ⟨a1, rfl, hr9, hc9, hg9⟩
  have HEa1 := Lib.hid hr9
  have HXa := Lib.hid (HXs.out.call hg9 hc9)
  clear hc9 hg9 hr9
  go_wp2_with fail
  refine hK.out _ _ (show _ from ⟨HXa.out.2.2.1.1, HXa.out.2.2.1.2.1, HXa.out.2.2.1.2.2⟩) (fun hHeld => ?_)
  clear hK K
  try simp only [Act.put, List.getElem_toArray, List.getElem_cons_succ, List.getElem_cons_zero, List.setIfInBounds_toArray, List.set_cons_zero, List.set_cons_succ]
  refine wpAnyH_ready (rs := [6]) (by kernel_rfl) (by simp) ?_
  refine AllReadyH.cons rfl (fun K hK => ?_) AllReadyH.nil
  go_simp
  go_at_call 95
  refine (anyExpo_any (w.heap.size + 1) _ (by omega) P Q G q0 q1 _ HXa.out.2.2.2.1).mono ?_
  rintro e ub ⟨a2, rfl, hr9, hc9, hg9⟩
  have HEa2 := Lib.hid hr9
  have HXb := Lib.hid (HXa.out.call hg9 hc9)
  clear hc9 hg9 hr9
  go_wp2_with fail
  refine hK.out _ _ (show _ from ⟨HXb.out.2.2.1.1, HXb.out.2.2.1.2.1, HXb.out.2.2.1.2.2⟩) (fun hHeld => ?_)
  clear hK K
  try simp only [Act.put, List.getElem_toArray, List.getElem_cons_succ, List.getElem_cons_zero, List.setIfInBounds_toArray, List.set_cons_zero, List.set_cons_succ]
  refine wpAnyH_ready (rs := [9]) (by kernel_rfl) (by simp) ?_
  refine AllReadyH.cons rfl (fun K hK => ?_) AllReadyH.nil
  go_simp
  go_at_call 95
  refine (anyExpo_any (w.heap.size + 1) _ (by omega) P Q G q0 q1 _ HXb.out.2.2.2.1).mono ?_
  rintro e uc ⟨a3, rfl, hr9, hc9, hg9⟩
  have HEa3 := Lib.hid hr9
  have HXc := Lib.hid (HXb.out.call hg9 hc9)
  clear hc9 hg9 hr9
  go_wp2_with fail
  refine hK.out _ _ (show _ from ⟨HXc.out.2.2.1.1, HXc.out.2.2.1.2.1, HXc.out.2.2.1.2.2⟩) (fun hHeld => ?_)
  clear hK K
  try simp only [Act.put, List.getElem_toArray, List.getElem_cons_succ, List.getElem_cons_zero, List.setIfInBounds_toArray, List.set_cons_zero, List.set_cons_succ]
  refine wpAnyH_ready (rs := [12]) (by kernel_rfl) (by simp) ?_
  refine AllReadyH.cons rfl (fun K hK => ?_) AllReadyH.nil
  go_simp
  go_at_call 95
  refine (anyExpo_any (w.heap.size + 1) _ (by omega) P Q G q0 q1 _ HXc.out.2.2.2.1).mono ?_
  rintro e ud ⟨a4, rfl, hr9, hc9, hg9⟩
  have HEa4 := Lib.hid hr9
  have HXd := Lib.hid (HXc.out.call hg9 hc9)
  clear hc9 hg9 hr9
  go_wp2_with fail
  refine hK.out _ _ (show _ from ⟨HXd.out.2.2.1.1, HXd.out.2.2.1.2.1, HXd.out.2.2.1.2.2⟩) (fun hHeld => ?_)
  clear hK K
  try simp only [Act.put, List.getElem_toArray, List.getElem_cons_succ, List.getElem_cons_zero, List.setIfInBounds_toArray, List.set_cons_zero, List.set_cons_succ]
  refine wpAnyH_ready (rs := [13]) (by kernel_rfl) (by simp) ?_
  refine AllReadyH.cons rfl (fun K hK => ?_) AllReadyH.nil
  have hs9 := grown3 ud w.heap.size (.int .i64 P) (.int .i64 Q) (.int .i64 G)
  have HRz := Lib.hid (HXd.out.2.2.1.by hs9 (by have := HXd.out.1; simp; omega))
  have HBz := Lib.hid (show Below w.heap.size w (((ud.setCell ⟨w.heap.size, 0, none⟩ (.int .i64 P)).setCell ⟨w.heap.size, 1, none⟩ (.int .i64 Q)).setCell ⟨w.heap.size, 2, none⟩ (.int .i64 G)) from ((HXd.out.2.2.2.2.setCell (Nat.le_refl _) _).setCell (Nat.le_refl _) _).setCell (Nat.le_refl _) _)
  clear hs9
  obtain ⟨⟨d0, d1, d2⟩, df⟩ := HXd.out.2.1
  have df0 := df 0
  have df1 := df 1
  have df2 := df 2
  clear df
  go_simp
  refine hK.out _ _ (show _ from ⟨HRz.out.1, HRz.out.2.1, HRz.out.2.2⟩) (fun hHeld => ?_)
  clear hK K
  try simp only [Act.put, List.getElem_toArray, List.getElem_cons_succ, List.getElem_cons_zero, List.setIfInBounds_toArray, List.set_cons_zero, List.set_cons_succ]
  refine wpAnyH_take (i := 14) (v := ?_) rfl (by kernel_rfl) (by kernel_rfl) (by kernel_rfl) (fun _ _ _ h => h) (Or.inl ⟨by kernel_rfl, ?_⟩) (by assumption) ?_
  rotate_left 1
  · intro w9 hSw
    try dsimp only at hSw
    go_simp
    try with_reducible rfl
  try simp only [Act.put, List.getElem_toArray, List.getElem_cons_succ, List.getElem_cons_zero, List.setIfInBounds_toArray, List.set_cons_zero, List.set_cons_succ]
  refine wpAnyH_take (i := 15) (v := ?_) rfl (by kernel_rfl) (by kernel_rfl) (by kernel_rfl) (fun _ _ _ h => h) (Or.inl ⟨by kernel_rfl, ?_⟩) (by assumption) ?_
  rotate_left 1
  · intro w9 hSw
    try dsimp only at hSw
    go_simp
    try with_reducible rfl
  try simp only [Act.put, List.getElem_toArray, List.getElem_cons_succ, List.getElem_cons_zero, List.setIfInBounds_toArray, List.set_cons_zero, List.set_cons_succ]
  refine wpAnyH_take (i := 16) (v := ?_) rfl (by kernel_rfl) (by kernel_rfl) (by kernel_rfl) (fun _ _ _ h => h) (Or.inl ⟨by kernel_rfl, ?_⟩) (by assumption) ?_
  rotate_left 1
  · intro w9 hSw
    try dsimp only at hSw
    go_simp
    try with_reducible rfl
  try simp only [Act.put, List.getElem_toArray, List.getElem_cons_succ, List.getElem_cons_zero, List.setIfInBounds_toArray, List.set_cons_zero, List.set_cons_succ]
  refine wpAnyH_take (i := 17) (v := ?_) rfl (by kernel_rfl) (by kernel_rfl) (by kernel_rfl) (fun _ _ _ h => h) (Or.inl ⟨by kernel_rfl, ?_⟩) (by assumption) ?_
  rotate_left 1
  · intro w9 hSw
    try dsimp only at hSw
    go_simp
    try with_reducible rfl
  try simp only [Act.put, List.getElem_toArray, List.getElem_cons_succ, List.getElem_cons_zero, List.setIfInBounds_toArray, List.set_cons_zero, List.set_cons_succ]
  refine wpAnyH_done (by kernel_rfl) ?_ _
  go_wp2
  (try simp only [Exit.inBlock, Exit.then])
  refine bodyPost_ret (v := .tuple #[gv P Q G, .int .i64 a1, .int .i64 a2, .int .i64 a3, .int .i64 a4]) ?_ rfl ⟨P, Q, G, a1, a2, a3, a4, rfl, HD.out, ⟨HEa1.out, HEa2.out, HEa3.out, HEa4.out⟩, HBz.out⟩
  · rw [results_cell_tmp4 rfl]; go_simp

/-- What DrawCommit hands out. -/
def DrawCm (w : World) (e : Ending) (w' : World) : Prop := ∃ (P Q G H m r : Int) (y : Value) (hs : List Int), e = .returned (.tuple #[gv P Q G, .agg #[.int .i64 H, y], .int .i64 m, .int .i64 r]) ∧ DB P Q G ∧ hs.length ≤ 25 ∧ InI w'.heap.size w' y hs ∧ ((-3 ≤ m ∧ m ≤ 2000000000) ∧ -3 ≤ r ∧ r ≤ 2000000000) ∧ Below w.heap.size w w'

set_option maxRecDepth 100000 in
set_option maxHeartbeats 6400000 in
theorem drawCommit_any (ad : Option Addr) (n cap : Nat) (w : World) (hb : IsB w ad n) :
    Calls Try.prog 51 #[.slice ad n cap] w (DrawCm w) := by
  have hal : Below w.heap.size w ((w.alloc (.cells #[.int .i64 0, .int .i64 0, .int .i64 0] 29)).alloc (.cells #[.int .i64 0, .slice none 0 0] 26)) := bt (ba _ _) (ba _ _)
  have hal2 := ba ((w.alloc (.cells #[.int .i64 0, .int .i64 0, .int .i64 0] 29)).alloc (.cells #[.int .i64 0, .slice none 0 0] 26)) (.cells #[.slice ad n cap, .int .i64 0, .int .u64 0] 105)
  have HC := Lib.hid (cur_at ((w.alloc (.cells #[.int .i64 0, .int .i64 0, .int .i64 0] 29)).alloc (.cells #[.int .i64 0, .slice none 0 0] 26)) (w.heap.size + 2) (by simp) ad n cap (hb.below hal) 105)
  have HB := Lib.hid (bt hal hal2)
  have HO := Lib.hid (((own3_new w 0 0 0 29).below (ba _ (.cells #[.int .i64 0, .slice none 0 0] 26))).below hal2)
  have HT := Lib.hid ((bv_new (w.alloc (.cells #[.int .i64 0, .int .i64 0, .int .i64 0] 29)) (w.heap.size + 1) (by simp) 0 (.slice none 0 0) 26).below hal2)
  clear hb hal hal2
  go_enter Try.func51, Try.ntmps51
  go_wp2_with fail
  refine (anyGroup_any (w.heap.size + 2) 0 (Nat.zero_le _) _ HC.out).mono ?_
  rintro e w1 ⟨P, Q, G, rfl, hd, hc1, hg1⟩
  have HD := Lib.hid hd
  obtain ⟨⟨p0, p1⟩, ⟨q0, q1⟩, g0, g1⟩ := hd
  have hal3 := ba w1 (.cells #[.int .i64 P, .int .i64 Q, .int .i64 G] 29)
  have hs1 : w.heap.size + 2 < w1.heap.size := hc1.lt
  have HX1 := Lib.hid (show BD w (w1.alloc (.cells #[.int .i64 P, .int .i64 Q, .int .i64 G] 29)) (w.heap.size + 2) w1.heap.size 12 P Q G from ⟨⟨by omega, hs1⟩, (HO.out.grown hg1 (by omega)).below hal3, gr_new w1 P Q G 29, hc1.below hal3, bt (below_at HB.out hg1 (by omega)) hal3⟩)
  have HV1 := Lib.hid ((HT.out.by hg1 (by simp)).below hal3)
  clear hg1 hc1 hal3 HC HB HO HT
  obtain ⟨v0, v1, v2⟩ := HX1.out.2.2.1
  go_wp2_with fail
  generalize hW : w1.alloc (.cells #[.int .i64 P, .int .i64 Q, .int .i64 G] 29) = u0 at *
  clear hW v0 v1 v2
  generalize w1.heap.size = b at *
  have hbd : Below u0.heap.size u0 u0.drew := (Below.refl _ u0).drew
  have HXs := Lib.hid (HX1.out.below hbd)
  have HVs := Lib.hid (HV1.out.below hbd)
  clear hbd
  refine wp_region_held_drew (S := (fun w' => (w'.cell? ⟨b, 0, none⟩ = some (.int .i64 P) ∧ w'.cell? ⟨b, 1, none⟩ = some (.int .i64 Q) ∧ w'.cell? ⟨b, 2, none⟩ = some (.int .i64 G)))) (by kernel_rfl) (show _ from ⟨HXs.out.2.2.1.1, HXs.out.2.2.1.2.1, HXs.out.2.2.1.2.2⟩) (fun hHeld => ?_)
  refine wpAnyH_take (i := 0) (v := ?_) rfl (by kernel_rfl) (by kernel_rfl) (by kernel_rfl) (fun _ _ _ h => h) (Or.inl ⟨by kernel_rfl, ?_⟩) (by assumption) ?_
  rotate_left 1
  · intro w9 hSw
    try dsimp only at hSw
    go_simp
    try with_reducible rfl
  try simp only [Act.put, List.getElem_toArray, List.getElem_cons_succ, List.getElem_cons_zero, List.setIfInBounds_toArray, List.set_cons_zero, List.set_cons_succ]
  refine wpAnyH_take (i := 1) (v := ?_) rfl (by kernel_rfl) (by kernel_rfl) (by kernel_rfl) (fun _ _ _ h => h) (Or.inl ⟨by kernel_rfl, ?_⟩) (by assumption) ?_
  rotate_left 1
  · intro w9 hSw
    try dsimp only at hSw
    go_simp
    try with_reducible rfl
  try simp only [Act.put, List.getElem_toArray, List.getElem_cons_succ, List.getElem_cons_zero, List.setIfInBounds_toArray, List.set_cons_zero, List.set_cons_succ]
  refine wpAnyH_take (i := 2) (v := ?_) rfl (by kernel_rfl) (by kernel_rfl) (by kernel_rfl) (fun _ _ _ h => h) (Or.inl ⟨by kernel_rfl, ?_⟩) (by assumption) ?_
  rotate_left 1
  · intro w9 hSw
    try dsimp only at hSw
    go_simp
    try with_reducible rfl
  try simp only [Act.put, List.getElem_toArray, List.getElem_cons_succ, List.getElem_cons_zero, List.setIfInBounds_toArray, List.set_cons_zero, List.set_cons_succ]
  refine wpAnyH_take (i := 4) (v := ?_) rfl (by kernel_rfl) (by kernel_rfl) (by kernel_rfl) (fun _ _ _ h => h) (Or.inl ⟨by kernel_rfl, ?_⟩) (by assumption) ?_
  rotate_left 1
  · intro w9 hSw
    try dsimp only at hSw
    go_simp
    try with_reducible rfl
  try simp only [Act.put, List.getElem_toArray, List.getElem_cons_succ, List.getElem_cons_zero, List.setIfInBounds_toArray, List.set_cons_zero, List.set_cons_succ]
  refine wpAnyH_take (i := 5) (v := ?_) rfl (by kernel_rfl) (by kernel_rfl) (by kernel_rfl) (fun _ _ _ h => h) (Or.inl ⟨by kernel_rfl, ?_⟩) (by assumption) ?_
  rotate_left 1
  · intro w9 hSw
    try dsimp only at hSw
    go_simp
    try with_reducible rfl
  try simp only [Act.put, List.getElem_toArray, List.getElem_cons_succ, List.getElem_cons_zero, List.setIfInBounds_toArray, List.set_cons_zero, List.set_cons_succ]
  refine wpAnyH_take (i := 7) (v := ?_) rfl (by kernel_rfl) (by kernel_rfl) (by kernel_rfl) (fun _ _ _ h => h) (Or.inl ⟨by kernel_rfl, ?_⟩) (by assumption) ?_
  rotate_left 1
  · intro w9 hSw
    try dsimp only at hSw
    go_simp
    try with_reducible rfl
  try simp only [Act.put, List.getElem_toArray, List.getElem_cons_succ, List.getElem_cons_zero, List.setIfInBounds_toArray, List.set_cons_zero, List.set_cons_succ]
  refine wpAnyH_take (i := 8) (v := ?_) rfl (by kernel_rfl) (by kernel_rfl) (by kernel_rfl) (fun _ _ _ h => h) (Or.inl ⟨by kernel_rfl, ?_⟩) (by assumption) ?_
  rotate_left 1
  · intro w9 hSw
    try dsimp only at hSw
    go_simp
    try with_reducible rfl
  try simp only [Act.put, List.getElem_toArray, List.getElem_cons_succ, List.getElem_cons_zero, List.setIfInBounds_toArray, List.set_cons_zero, List.set_cons_succ]
  refine wpAnyH_ready (rs := [3]) (by kernel_rfl) (by simp) ?_
  refine AllReadyH.cons rfl (fun K hK => ?_) AllReadyH.nil
  go_simp
  go_at_call 111
  refine (anyBases_any (w.heap.size + 2) _ (by omega) P Q G p0 p1 q0 q1 g0 g1 _ HXs.out.2.2.2.1).mono ?_
  rintro e ua ⟨H, va, n9, vc, hs, rfl, ho9, ⟨_, hn9⟩, hc9, hg9⟩
  obtain rfl : hs.length = n9 := by have := ho9.1; simpa using this
  have HXa := Lib.hid (HXs.out.call hg9 hc9)
  have HVa := Lib.hid (HVs.out.by hg9 (by simp))
  have HLB := Lib.hid (show b < ua.heap.size from HXa.out.2.2.1.lt)
  obtain ⟨B9, hB9, ho8⟩ : ∃ B, w.heap.size + 2 < B ∧ ua.ownsRow B 3 1 (.slice va hs.length vc) hs.length (hs.map (Value.int .i64)) := ⟨_, by have := HXs.out.1; have := HXs.out.2.2.1.lt; omega, ho9⟩
  have HOa := Lib.hid ho8
  clear hc9 hg9 ho9 ho8
  go_wp2_with fail
  refine hK.out _ _ (show _ from ⟨HXa.out.2.2.1.1, HXa.out.2.2.1.2.1, HXa.out.2.2.1.2.2⟩) (fun hHeld => ?_)
  clear hK K
  try simp only [Act.put, List.getElem_toArray, List.getElem_cons_succ, List.getElem_cons_zero, List.setIfInBounds_toArray, List.set_cons_zero, List.set_cons_succ]
  refine wpAnyH_ready (rs := [6]) (by kernel_rfl) (by simp) ?_
  refine AllReadyH.cons rfl (fun K hK => ?_) AllReadyH.nil
  go_simp
  go_at_call 95
  refine (anyExpo_any (w.heap.size + 2) _ (by omega) P Q G q0 q1 _ HXa.out.2.2.2.1).mono ?_
  rintro e ub ⟨m, rfl, hr9, hc9, hg9⟩
  have HXb := Lib.hid (HXa.out.call hg9 hc9)
  have HEm := Lib.hid hr9
  have HVb := Lib.hid (HVa.out.by hg9 (by simp))
  have HOb := Lib.hid (own_cur HOa.out hg9 (by omega))
  clear hr9
  clear hc9 hg9
  go_wp2_with fail
  refine hK.out _ _ (show _ from ⟨HXb.out.2.2.1.1, HXb.out.2.2.1.2.1, HXb.out.2.2.1.2.2⟩) (fun hHeld => ?_)
  clear hK K
  try simp only [Act.put, List.getElem_toArray, List.getElem_cons_succ, List.getElem_cons_zero, List.setIfInBounds_toArray, List.set_cons_zero, List.set_cons_succ]
  refine wpAnyH_ready (rs := [9]) (by kernel_rfl) (by simp) ?_
  refine AllReadyH.cons rfl (fun K hK => ?_) AllReadyH.nil
  go_simp
  go_at_call 95
  refine (anyExpo_any (w.heap.size + 2) _ (by omega) P Q G q0 q1 _ HXb.out.2.2.2.1).mono ?_
  rintro e uc ⟨r, rfl, hr9, hc9, hg9⟩
  have HXc := Lib.hid (HXb.out.call hg9 hc9)
  have HEr := Lib.hid hr9
  have HVc := Lib.hid (HVb.out.by hg9 (by simp))
  have HOc := Lib.hid (own_cur HOb.out hg9 (by omega))
  clear hr9
  clear hc9 hg9
  go_wp2_with fail
  refine hK.out _ _ (show _ from ⟨HXc.out.2.2.1.1, HXc.out.2.2.1.2.1, HXc.out.2.2.1.2.2⟩) (fun hHeld => ?_)
  clear hK K
  try simp only [Act.put, List.getElem_toArray, List.getElem_cons_succ, List.getElem_cons_zero, List.setIfInBounds_toArray, List.set_cons_zero, List.set_cons_succ]
  refine wpAnyH_ready (rs := [10]) (by kernel_rfl) (by simp) ?_
  refine AllReadyH.cons rfl (fun K hK => ?_) AllReadyH.nil
  have hs9 := grown3 uc w.heap.size (.int .i64 P) (.int .i64 Q) (.int .i64 G)
  have HRz := Lib.hid (HXc.out.2.2.1.by hs9 (by have := HXc.out.1; simp; omega))
  have HBz := Lib.hid (show Below w.heap.size w (((uc.setCell ⟨w.heap.size, 0, none⟩ (.int .i64 P)).setCell ⟨w.heap.size, 1, none⟩ (.int .i64 Q)).setCell ⟨w.heap.size, 2, none⟩ (.int .i64 G)) from ((HXc.out.2.2.2.2.setCell (Nat.le_refl _) _).setCell (Nat.le_refl _) _).setCell (Nat.le_refl _) _)
  have HVz := Lib.hid (HVc.out.by hs9 (by simp))
  have HOz := Lib.hid (own_cur HOc.out hs9 (by omega))
  clear hs9
  obtain ⟨⟨d0, d1, d2⟩, df⟩ := HXc.out.2.1
  have df0 := df 0
  have df1 := df 1
  have df2 := df 2
  clear df
  go_simp
  refine hK.out _ _ (show _ from ⟨HRz.out.1, HRz.out.2.1, HRz.out.2.2⟩) (fun hHeld => ?_)
  clear hK K
  try simp only [Act.put, List.getElem_toArray, List.getElem_cons_succ, List.getElem_cons_zero, List.setIfInBounds_toArray, List.set_cons_zero, List.set_cons_succ]
  refine wpAnyH_ready (rs := [11]) (by kernel_rfl) (by simp) ?_
  refine AllReadyH.cons rfl (fun K hK => ?_) AllReadyH.nil
  have hs9 := grown2 (((uc.setCell ⟨w.heap.size, 0, none⟩ (.int .i64 P)).setCell ⟨w.heap.size, 1, none⟩ (.int .i64 Q)).setCell ⟨w.heap.size, 2, none⟩ (.int .i64 G)) (w.heap.size + 1) (.int .i64 H) (.slice va hs.length vc)
  have HRy := Lib.hid (HRz.out.by hs9 (by have := HXc.out.1; simp; omega))
  have HOy := Lib.hid (own_cur HOz.out hs9 (by omega))
  have HBy := Lib.hid ((HBz.out.setCell (p := ⟨w.heap.size + 1, 0, none⟩) (Nat.le_succ _) (.int .i64 H)).setCell (p := ⟨w.heap.size + 1, 1, none⟩) (Nat.le_succ _) (.slice va hs.length vc))
  clear hs9
  obtain ⟨⟨e0, e1⟩, ef⟩ := HVz.out
  have ef0 := ef 0
  have ef1 := ef 1
  clear ef
  go_simp
  refine hK.out _ _ (show _ from ⟨HRy.out.1, HRy.out.2.1, HRy.out.2.2⟩) (fun hHeld => ?_)
  clear hK K
  try simp only [Act.put, List.getElem_toArray, List.getElem_cons_succ, List.getElem_cons_zero, List.setIfInBounds_toArray, List.set_cons_zero, List.set_cons_succ]
  refine wpAnyH_take (i := 12) (v := ?_) rfl (by kernel_rfl) (by kernel_rfl) (by kernel_rfl) (fun _ _ _ h => h) (Or.inl ⟨by kernel_rfl, ?_⟩) (by assumption) ?_
  rotate_left 1
  · intro w9 hSw
    try dsimp only at hSw
    go_simp
    try with_reducible rfl
  try simp only [Act.put, List.getElem_toArray, List.getElem_cons_succ, List.getElem_cons_zero, List.setIfInBounds_toArray, List.set_cons_zero, List.set_cons_succ]
  refine wpAnyH_take (i := 13) (v := ?_) rfl (by kernel_rfl) (by kernel_rfl) (by kernel_rfl) (fun _ _ _ h => h) (Or.inl ⟨by kernel_rfl, ?_⟩) (by assumption) ?_
  rotate_left 1
  · intro w9 hSw
    try dsimp only at hSw
    go_simp
    try with_reducible rfl
  try simp only [Act.put, List.getElem_toArray, List.getElem_cons_succ, List.getElem_cons_zero, List.setIfInBounds_toArray, List.set_cons_zero, List.set_cons_succ]
  refine wpAnyH_done (by kernel_rfl) ?_ _
  go_wp2
  (try simp only [Exit.inBlock, Exit.then])
  refine bodyPost_ret (v := .tuple #[gv P Q G, .agg #[.int .i64 H, .slice va hs.length vc], .int .i64 m, .int .i64 r]) ?_ rfl ⟨P, Q, G, H, m, r, _, hs, rfl, HD.out, hn9, inI_own HOy.out, ⟨HEm.out, HEr.out⟩, HBy.out⟩
  · rw [results_cell2_tmp2 rfl]; go_simp

/-- What DrawCommitVector hands out. -/
def DrawCv (w : World) (e : Ending) (w' : World) : Prop := ∃ (P Q G H r : Int) (y v : Value) (hs zs : List Int), e = .returned (.tuple #[gv P Q G, .agg #[.int .i64 H, y], v, .int .i64 r]) ∧ DB P Q G ∧ (hs.length ≤ 25 ∧ zs.length ≤ 31) ∧ InI w'.heap.size w' y hs ∧ InI w'.heap.size w' v zs ∧ Below w.heap.size w w'

set_option maxRecDepth 100000 in
set_option maxHeartbeats 6400000 in
theorem drawCommitVector_any (ad : Option Addr) (n cap : Nat) (w : World) (hb : IsB w ad n) :
    Calls Try.prog 52 #[.slice ad n cap] w (DrawCv w) := by
  have hal : Below w.heap.size w ((w.alloc (.cells #[.int .i64 0, .int .i64 0, .int .i64 0] 29)).alloc (.cells #[.int .i64 0, .slice none 0 0] 26)) := bt (ba _ _) (ba _ _)
  have hal2 := ba ((w.alloc (.cells #[.int .i64 0, .int .i64 0, .int .i64 0] 29)).alloc (.cells #[.int .i64 0, .slice none 0 0] 26)) (.cells #[.slice ad n cap, .int .i64 0, .int .u64 0] 105)
  have HC := Lib.hid (cur_at ((w.alloc (.cells #[.int .i64 0, .int .i64 0, .int .i64 0] 29)).alloc (.cells #[.int .i64 0, .slice none 0 0] 26)) (w.heap.size + 2) (by simp) ad n cap (hb.below hal) 105)
  have HB := Lib.hid (bt hal hal2)
  have HO := Lib.hid (((own3_new w 0 0 0 29).below (ba _ (.cells #[.int .i64 0, .slice none 0 0] 26))).below hal2)
  have HT := Lib.hid ((bv_new (w.alloc (.cells #[.int .i64 0, .int .i64 0, .int .i64 0] 29)) (w.heap.size + 1) (by simp) 0 (.slice none 0 0) 26).below hal2)
  clear hb hal hal2
  go_enter Try.func52, Try.ntmps52
  go_wp2_with fail
  refine (anyGroup_any (w.heap.size + 2) 0 (Nat.zero_le _) _ HC.out).mono ?_
  rintro e w1 ⟨P, Q, G, rfl, hd, hc1, hg1⟩
  have HD := Lib.hid hd
  obtain ⟨⟨p0, p1⟩, ⟨q0, q1⟩, g0, g1⟩ := hd
  have hal3 := ba w1 (.cells #[.int .i64 P, .int .i64 Q, .int .i64 G] 29)
  have hs1 : w.heap.size + 2 < w1.heap.size := hc1.lt
  have HX1 := Lib.hid (show BD w (w1.alloc (.cells #[.int .i64 P, .int .i64 Q, .int .i64 G] 29)) (w.heap.size + 2) w1.heap.size 12 P Q G from ⟨⟨by omega, hs1⟩, (HO.out.grown hg1 (by omega)).below hal3, gr_new w1 P Q G 29, hc1.below hal3, bt (below_at HB.out hg1 (by omega)) hal3⟩)
  have HV1 := Lib.hid ((HT.out.by hg1 (by simp)).below hal3)
  clear hg1 hc1 hal3 HC HB HO HT
  obtain ⟨v0, v1, v2⟩ := HX1.out.2.2.1
  go_wp2_with fail
  generalize hW : w1.alloc (.cells #[.int .i64 P, .int .i64 Q, .int .i64 G] 29) = u0 at *
  clear hW v0 v1 v2
  generalize w1.heap.size = b at *
  refine (anyBases_any (w.heap.size + 2) _ (by omega) P Q G p0 p1 q0 q1 g0 g1 _ HX1.out.2.2.2.1).mono ?_
  rintro e ua ⟨H, va, n9, vc, hs, rfl, ho9, ⟨_, hn9⟩, hc9, hg9⟩
  obtain rfl : hs.length = n9 := by have := ho9.1; simpa using this
  have HXa := Lib.hid (HX1.out.call hg9 hc9)
  have HVa := Lib.hid (HV1.out.by hg9 (by simp))
  obtain ⟨B9, hB9, ho8⟩ : ∃ B, w.heap.size + 2 < B ∧ ua.ownsRow B 3 1 (.slice va hs.length vc) hs.length (hs.map (Value.int .i64)) := ⟨_, by have := HX1.out.1; have := HX1.out.2.2.1.lt; omega, ho9⟩
  have hba := ba ua (.cells #[.int .i64 H, .slice va hs.length vc] 26)
  have HXq := Lib.hid (HXa.out.below hba)
  have HVq := Lib.hid (HVa.out.below hba)
  have HOq := Lib.hid (ho8.alloc (.cells #[.int .i64 H, .slice va hs.length vc] 26))
  have HDq := Lib.hid (bv_new ua ua.heap.size rfl H (.slice va hs.length vc) 26)
  have hbl : b < ua.heap.size := HXa.out.2.2.1.lt
  clear hba ho8 ho9 hc9 hg9 HXa HVa
  go_wp2_with fail
  generalize hW : ua.alloc (.cells #[.int .i64 H, .slice va hs.length vc] 26) = uq at *
  clear hW
  generalize ua.heap.size = d at *
  have hbd : Below uq.heap.size uq uq.drew := (Below.refl _ uq).drew
  have HXs := Lib.hid (HXq.out.below hbd)
  have HVs := Lib.hid (HVq.out.below hbd)
  have HDs := Lib.hid (HDq.out.below hbd)
  have HOs := Lib.hid (own_belowR HOq.out hbd)
  clear hbd
  refine wp_region_held_drew (S := (fun w' => (w'.cell? ⟨b, 0, none⟩ = some (.int .i64 P) ∧ w'.cell? ⟨b, 1, none⟩ = some (.int .i64 Q) ∧ w'.cell? ⟨b, 2, none⟩ = some (.int .i64 G)) ∧ w'.cell? ⟨d, 0, none⟩ = some (.int .i64 H) ∧ w'.cell? ⟨d, 1, none⟩ = some (.slice va hs.length vc))) (by kernel_rfl) (show _ from ⟨⟨HXs.out.2.2.1.1, HXs.out.2.2.1.2.1, HXs.out.2.2.1.2.2⟩, HDs.out.1⟩) (fun hHeld => ?_)
  refine wpAnyH_take (i := 0) (v := ?_) rfl (by kernel_rfl) (by kernel_rfl) (by kernel_rfl) (fun _ _ _ h => h) (Or.inl ⟨by kernel_rfl, ?_⟩) (by assumption) ?_
  rotate_left 1
  · intro w9 hSw
    try dsimp only at hSw
    go_simp
    try with_reducible rfl
  try simp only [Act.put, List.getElem_toArray, List.getElem_cons_succ, List.getElem_cons_zero, List.setIfInBounds_toArray, List.set_cons_zero, List.set_cons_succ]
  refine wpAnyH_take (i := 1) (v := ?_) rfl (by kernel_rfl) (by kernel_rfl) (by kernel_rfl) (fun _ _ _ h => h) (Or.inl ⟨by kernel_rfl, ?_⟩) (by assumption) ?_
  rotate_left 1
  · intro w9 hSw
    try dsimp only at hSw
    go_simp
    try with_reducible rfl
  try simp only [Act.put, List.getElem_toArray, List.getElem_cons_succ, List.getElem_cons_zero, List.setIfInBounds_toArray, List.set_cons_zero, List.set_cons_succ]
  refine wpAnyH_take (i := 2) (v := ?_) rfl (by kernel_rfl) (by kernel_rfl) (by kernel_rfl) (fun _ _ _ h => h) (Or.inl ⟨by kernel_rfl, ?_⟩) (by assumption) ?_
  rotate_left 1
  · intro w9 hSw
    try dsimp only at hSw
    go_simp
    try with_reducible rfl
  try simp only [Act.put, List.getElem_toArray, List.getElem_cons_succ, List.getElem_cons_zero, List.setIfInBounds_toArray, List.set_cons_zero, List.set_cons_succ]
  refine wpAnyH_take (i := 3) (v := ?_) rfl (by kernel_rfl) (by kernel_rfl) (by kernel_rfl) (fun _ _ _ h => h) (Or.inl ⟨by kernel_rfl, ?_⟩) (by assumption) ?_
  rotate_left 1
  · intro w9 hSw
    try dsimp only at hSw
    go_simp
    try with_reducible rfl
  try simp only [Act.put, List.getElem_toArray, List.getElem_cons_succ, List.getElem_cons_zero, List.setIfInBounds_toArray, List.set_cons_zero, List.set_cons_succ]
  refine wpAnyH_take (i := 4) (v := ?_) rfl (by kernel_rfl) (by kernel_rfl) (by kernel_rfl) (fun _ _ _ h => h) (Or.inl ⟨by kernel_rfl, ?_⟩) (by assumption) ?_
  rotate_left 1
  · intro w9 hSw
    try dsimp only at hSw
    go_simp
    try with_reducible rfl
  try simp only [Act.put, List.getElem_toArray, List.getElem_cons_succ, List.getElem_cons_zero, List.setIfInBounds_toArray, List.set_cons_zero, List.set_cons_succ]
  refine wpAnyH_take (i := 6) (v := ?_) rfl (by kernel_rfl) (by kernel_rfl) (by kernel_rfl) (fun _ _ _ h => h) (Or.inl ⟨by kernel_rfl, ?_⟩) (by assumption) ?_
  rotate_left 1
  · intro w9 hSw
    try dsimp only at hSw
    go_simp
    try with_reducible rfl
  try simp only [Act.put, List.getElem_toArray, List.getElem_cons_succ, List.getElem_cons_zero, List.setIfInBounds_toArray, List.set_cons_zero, List.set_cons_succ]
  refine wpAnyH_take (i := 7) (v := ?_) rfl (by kernel_rfl) (by kernel_rfl) (by kernel_rfl) (fun _ _ _ h => h) (Or.inl ⟨by kernel_rfl, ?_⟩) (by assumption) ?_
  rotate_left 1
  · intro w9 hSw
    try dsimp only at hSw
    go_simp
    try with_reducible rfl
  try simp only [Act.put, List.getElem_toArray, List.getElem_cons_succ, List.getElem_cons_zero, List.setIfInBounds_toArray, List.set_cons_zero, List.set_cons_succ]
  refine wpAnyH_ready (rs := [5]) (by kernel_rfl) (by simp) ?_
  refine AllReadyH.cons rfl (fun K hK => ?_) AllReadyH.nil
  go_simp
  go_at_call 112
  refine (vector_any (w.heap.size + 2) _ (by omega) P Q G q0 q1 H va hs.length vc hn9 _ HXs.out.2.2.2.1).mono ?_
  rintro e uv ⟨xa, xn, xc, zs, rfl, hi9, hl9, hn8, hu9, hc9, hg9, hcp9⟩
  obtain rfl : zs.length = xn := hl9
  have HXv := Lib.hid (HXs.out.call hg9 hc9)
  have HVv := Lib.hid (HVs.out.by hg9 (by simp))
  have HDv := Lib.hid (HDs.out.by hg9 (by have := HXs.out.1; simp; omega))
  have HOv := Lib.hid (own_cur HOs.out hg9 (by omega))
  have HIv := Lib.hid hi9
  have HU := Lib.hid (show ∀ a, xa = some a → w.heap.size + 2 < a.block from fun a ha => by have h1 := hu9 a ha; have h2 : d < uq.heap.size := HDq.out.lt; have h3 : uq.drew.heap.size = uq.heap.size := rfl; omega)
  have HCP := Lib.hid hcp9
  clear hc9 hg9 hi9 hu9 hcp9
  go_wp2_with fail
  refine hK.out _ _ (show _ from ⟨⟨HXv.out.2.2.1.1, HXv.out.2.2.1.2.1, HXv.out.2.2.1.2.2⟩, HDv.out.1⟩) (fun hHeld => ?_)
  clear hK K
  try simp only [Act.put, List.getElem_toArray, List.getElem_cons_succ, List.getElem_cons_zero, List.setIfInBounds_toArray, List.set_cons_zero, List.set_cons_succ]
  refine wpAnyH_ready (rs := [8]) (by kernel_rfl) (by simp) ?_
  refine AllReadyH.cons rfl (fun K hK => ?_) AllReadyH.nil
  go_simp
  go_at_call 95
  refine (anyExpo_any (w.heap.size + 2) _ (by omega) P Q G q0 q1 _ HXv.out.2.2.2.1).mono ?_
  rintro e uc ⟨r, rfl, _, hc9, hg9⟩
  have HXc := Lib.hid (HXv.out.call hg9 hc9)
  have HVc := Lib.hid (HVv.out.by hg9 (by simp))
  have HDc := Lib.hid (HDv.out.by hg9 (by have := HXs.out.1; simp; omega))
  have HOc := Lib.hid (own_cur HOv.out hg9 (by omega))
  have HIc := Lib.hid (HIv.out.grown hg9 (fun a ha => by have := HU.out a ha; simp; omega))
  clear hc9 hg9
  go_wp2_with fail
  refine hK.out _ _ (show _ from ⟨⟨HXc.out.2.2.1.1, HXc.out.2.2.1.2.1, HXc.out.2.2.1.2.2⟩, HDc.out.1⟩) (fun hHeld => ?_)
  clear hK K
  try simp only [Act.put, List.getElem_toArray, List.getElem_cons_succ, List.getElem_cons_zero, List.setIfInBounds_toArray, List.set_cons_zero, List.set_cons_succ]
  refine wpAnyH_ready (rs := [9]) (by kernel_rfl) (by simp) ?_
  refine AllReadyH.cons rfl (fun K hK => ?_) AllReadyH.nil
  have hs9 := grown3 uc w.heap.size (.int .i64 P) (.int .i64 Q) (.int .i64 G)
  have HDz := Lib.hid (HDc.out.by hs9 (by have := HXs.out.1; simp; omega))
  have HIz := Lib.hid (HIc.out.grown hs9 (fun a ha => by have := HU.out a ha; simp; omega))
  have HRz := Lib.hid (HXc.out.2.2.1.by hs9 (by have := HXc.out.1; simp; omega))
  have HBz := Lib.hid (show Below w.heap.size w (((uc.setCell ⟨w.heap.size, 0, none⟩ (.int .i64 P)).setCell ⟨w.heap.size, 1, none⟩ (.int .i64 Q)).setCell ⟨w.heap.size, 2, none⟩ (.int .i64 G)) from ((HXc.out.2.2.2.2.setCell (Nat.le_refl _) _).setCell (Nat.le_refl _) _).setCell (Nat.le_refl _) _)
  have HVz := Lib.hid (HVc.out.by hs9 (by simp))
  have HOz := Lib.hid (own_cur HOc.out hs9 (by omega))
  clear hs9
  obtain ⟨⟨d0, d1, d2⟩, df⟩ := HXc.out.2.1
  have df0 := df 0
  have df1 := df 1
  have df2 := df 2
  clear df
  go_simp
  refine hK.out _ _ (show _ from ⟨⟨HRz.out.1, HRz.out.2.1, HRz.out.2.2⟩, HDz.out.1⟩) (fun hHeld => ?_)
  clear hK K
  try simp only [Act.put, List.getElem_toArray, List.getElem_cons_succ, List.getElem_cons_zero, List.setIfInBounds_toArray, List.set_cons_zero, List.set_cons_succ]
  refine wpAnyH_ready (rs := [10]) (by kernel_rfl) (by simp) ?_
  refine AllReadyH.cons rfl (fun K hK => ?_) AllReadyH.nil
  have hs9 := grown2 (((uc.setCell ⟨w.heap.size, 0, none⟩ (.int .i64 P)).setCell ⟨w.heap.size, 1, none⟩ (.int .i64 Q)).setCell ⟨w.heap.size, 2, none⟩ (.int .i64 G)) (w.heap.size + 1) (.int .i64 H) (.slice va hs.length vc)
  have HDy := Lib.hid (HDz.out.by hs9 (by have := HXs.out.1; simp; omega))
  have HIy := Lib.hid (HIz.out.grown hs9 (fun a ha => by have := HU.out a ha; simp; omega))
  have HRy := Lib.hid (HRz.out.by hs9 (by have := HXc.out.1; simp; omega))
  have HOy := Lib.hid (own_cur HOz.out hs9 (by omega))
  have HBy := Lib.hid ((HBz.out.setCell (p := ⟨w.heap.size + 1, 0, none⟩) (Nat.le_succ _) (.int .i64 H)).setCell (p := ⟨w.heap.size + 1, 1, none⟩) (Nat.le_succ _) (.slice va hs.length vc))
  clear hs9
  obtain ⟨⟨e0, e1⟩, ef⟩ := HVz.out
  have ef0 := ef 0
  have ef1 := ef 1
  clear ef
  go_simp
  refine hK.out _ _ (show _ from ⟨⟨HRy.out.1, HRy.out.2.1, HRy.out.2.2⟩, HDy.out.1⟩) (fun hHeld => ?_)
  clear hK K
  try simp only [Act.put, List.getElem_toArray, List.getElem_cons_succ, List.getElem_cons_zero, List.setIfInBounds_toArray, List.set_cons_zero, List.set_cons_succ]
  refine wpAnyH_take (i := 11) (v := ?_) rfl (by kernel_rfl) (by kernel_rfl) (by kernel_rfl) (fun _ _ _ h => h) (Or.inl ⟨by kernel_rfl, ?_⟩) (by assumption) ?_
  rotate_left 1
  · intro w9 hSw
    try dsimp only at hSw
    go_simp
    try with_reducible rfl
  try simp only [Act.put, List.getElem_toArray, List.getElem_cons_succ, List.getElem_cons_zero, List.setIfInBounds_toArray, List.set_cons_zero, List.set_cons_succ]
  refine wpAnyH_take (i := 12) (v := ?_) rfl (by kernel_rfl) (by kernel_rfl) (by kernel_rfl) (fun _ _ _ h => h) (Or.inl ⟨by kernel_rfl, ?_⟩) (by assumption) ?_
  rotate_left 1
  · intro w9 hSw
    try dsimp only at hSw
    go_simp
    try with_reducible rfl
  try simp only [Act.put, List.getElem_toArray, List.getElem_cons_succ, List.getElem_cons_zero, List.setIfInBounds_toArray, List.set_cons_zero, List.set_cons_succ]
  refine wpAnyH_done (by kernel_rfl) ?_ _
  go_wp2
  (try simp only [Exit.inBlock, Exit.then])
  refine bodyPost_ret (v := .tuple #[gv P Q G, .agg #[.int .i64 H, .slice va hs.length vc], .slice xa zs.length xc, .int .i64 r]) ?_ rfl ⟨P, Q, G, H, r, _, _, hs, zs, rfl, HD.out, ⟨hn9, hn8⟩, inI_own HOy.out, InI.of HIy.out HCP.out.1 HCP.out.2, HBy.out⟩
  · rw [results_cell2_tmp2 rfl]; go_simp
end Go.Proofs.Ytglfbhkdmkneoaa

