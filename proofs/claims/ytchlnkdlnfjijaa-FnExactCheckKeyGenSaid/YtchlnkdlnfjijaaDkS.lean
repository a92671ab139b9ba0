/- Chapter 11: SumDealings of the program. -/
import Derived.Test.YtchlnkdlnfjijaaDkA
import Derived.Deep.DeepCutAuto
import Derived.Deep.RegionHeld3
import Derived.Test.YtchlnkdlnfjijaaWpK
namespace Go.Proofs.Ytchlnkdlnfjijaa
open Go.RowKit
set_option linter.unusedVariables false
set_option linter.unusedSimpArgs false

theorem DC.below9 {w : World} {b o : Nat} {x y : Value} (h : DC w b o x y) (c : Nat) (u v : Value) {B : Nat} (hl : b < B) (hc : B ≤ c) : DC ((w.setCell ⟨c, 0, none⟩ u).setCell ⟨c, 1, none⟩ v) b o x y := by
  have hm := mid_two7 w c u v
  have he := hm.block b (World.block_lt_of_cell? w _ h.1) (.inl (by omega))
  exact ⟨(World.cell?_of_block (a := ⟨b, o, none⟩) he).trans h.1, (World.cell?_of_block (a := ⟨b, o + 1, none⟩) he).trans h.2⟩
/-- The sum as it grows: a box of its own, two lists of its own. -/
def SumB (v wx : World) (b : Nat) (x y : Value) (d : DlD) : Prop := ∃ Q M N P, OwI Q M wx x d.c ∧ OwI N P wx y d.s ∧ M ≤ N ∧ VD2 wx b x y ∧ (b < Q ∨ M ≤ b) ∧ (b < N ∨ P ≤ b) ∧ v.heap.size ≤ Q ∧ v.heap.size ≤ b ∧ Below v.heap.size v wx
theorem sumB_mk {v W : World} {b Q M N P : Nat} {x y x0 y0 : Value} {d : DlD} (h1 : OwI Q M W x d.c) (h2 : OwI N P W y d.s) (hMN : M ≤ N) (hz : VD2 W b x0 y0) (hb1 : b < Q ∨ M ≤ b) (hb2 : b < N ∨ P ≤ b) (hQ : v.heap.size ≤ Q) (hb : v.heap.size ≤ b) (hB : Below v.heap.size v W) :
    SumB v ((W.setCell ⟨b, 0, none⟩ x).setCell ⟨b, 1, none⟩ y) b x y d := by
  have hm := mid_two7 W b x y
  exact ⟨Q, M, N, P, h1.mid hm (hb1.symm.imp id id), h2.mid hm (hb2.symm.imp id id), hMN, (hz.set0 x).set1 y, hb1, hb2, hQ, hb, (hB.setCell (p := ⟨b, 0, none⟩) hb x).setCell (p := ⟨b, 1, none⟩) hb y⟩

theorem owI_eq {Q M n cap : Nat} {w : World} {ad : Option Addr} {zs : List Int} (h : OwI Q M w (.slice ad n cap) zs) : n = zs.length := by
  obtain ⟨_, _, e⟩ := own_shape h.1
  simp only [Value.slice.injEq] at e
  exact e.2.1
theorem owI_at {Q M g n cap j : Nat} {w : World} {zs : List Int} {z : Int} (h : OwI Q M w (.slice (some ⟨g, 0, none⟩) n cap) zs) (hz : zs[j]? = some z) : w.cell? ⟨g, j, none⟩ = some (.int .i64 z) ∧ w.frozen? ⟨g, j, none⟩ = false := by
  obtain rfl := owI_eq h
  exact own_at h.1 (List.getElem?_eq_some_iff.1 hz).1 hz
theorem owI_store {Q M g n cap k : Nat} {w : World} {xs ys : List Int} {x : Int} (h : OwI Q M w (.slice (some ⟨g, 0, none⟩) n cap) (over xs ys k)) (hx : ∀ h : k < xs.length, xs[k] = x) (hk : k < xs.length) (hl : xs.length = ys.length) :
    OwI Q M (w.setCell ⟨g, k, none⟩ (.int .i64 x)) (.slice (some ⟨g, 0, none⟩) n cap) (over xs ys (k + 1)) := by
  have e1 := over_length xs ys k (by omega) hl
  have e2 := over_length xs ys (k + 1) (by omega) hl
  obtain rfl := owI_eq h
  obtain ⟨h1, h2, h3, h4⟩ := h
  rw [e1] at h1 ⊢
  refine ⟨?_, h2, by simpa using h3, h4⟩
  show World.ownsRow _ _ _ _ _ _ _
  rw [e2]
  exact inv_store h1 hx hk (by omega)
theorem owI_blk {Q M g n cap : Nat} {w : World} {zs : List Int} (h : OwI Q M w (.slice (some ⟨g, 0, none⟩) n cap) zs) : Q ≤ g ∧ g < M := ⟨(h.1.lt g rfl).1, h.2.1 g rfl⟩
theorem owI_some {Q M n cap : Nat} {w : World} {ad : Option Addr} {zs : List Int} (h : OwI Q M w (.slice ad n cap) zs) (hn : 0 < zs.length) : ∃ g, ad = some ⟨g, 0, none⟩ := by
  rcases h.1.2 with ⟨_, h0⟩ | ⟨g, cap', cur, hv, _⟩
  · omega
  · simp only [Value.slice.injEq] at hv
    exact ⟨g, hv.1⟩
/-- The sum as it grows, its places fixed. -/
def SumC (v wx : World) (b Q M N P : Nat) (x y : Value) (d : DlD) : Prop := OwI Q M wx x d.c ∧ OwI N P wx y d.s ∧ VD2 wx b x y ∧ Below v.heap.size v wx
theorem SumC.below {v w w' : World} {b Q M N P : Nat} {x y : Value} {d : DlD} (h : SumC v w b Q M N P x y d) (hb : Below w.heap.size w w') : SumC v w' b Q M N P x y d :=
  ⟨h.1.below hb, h.2.1.below hb, h.2.2.1.below hb, bt h.2.2.2 hb⟩
theorem SumC.store {v w : World} {b Q M N P g n cap k : Nat} {y : Value} {xs ys ss : List Int} {x : Int} (h : SumC v w b Q M N P (.slice (some ⟨g, 0, none⟩) n cap) y ⟨over xs ys k, ss⟩) (hx : ∀ h : k < xs.length, xs[k] = x) (hk : k < xs.length) (hl : xs.length = ys.length)
    (hMN : M ≤ N) (hb : b < Q ∨ M ≤ b) (hv : v.heap.size ≤ Q) : SumC v (w.setCell ⟨g, k, none⟩ (.int .i64 x)) b Q M N P (.slice (some ⟨g, 0, none⟩) n cap) y ⟨over xs ys (k + 1), ss⟩ := by
  obtain ⟨h1, h2, h3, h4⟩ := h
  obtain ⟨l1, l2⟩ := owI_blk h1
  have hm := mid_cell w g k (.int .i64 x)
  exact ⟨owI_store h1 hx hk hl, h2.mid hm (.inr (by omega)), h3.mid hm (by omega), h4.setCell (p := ⟨g, k, none⟩) (by show v.heap.size ≤ g; omega) _⟩
theorem SumC.add {v w w' : World} {b Q M N P : Nat} {x y : Value} {cs ss gs : List Int} {qq : Int} (h : SumC v w b Q M N P x y ⟨cs, ss⟩) (ho : OwI N P w' y (axpy qq ss 1 gs)) (hm : Mid N P w w') (hMN : M ≤ N) (hb : b < N ∨ P ≤ b) (hv : v.heap.size ≤ Q) : SumC v w' b Q M N P x y ⟨cs, axpy qq ss 1 gs⟩ := by
  obtain ⟨h1, h2, h3, h4⟩ := h
  have q1 := h1.2.2.2
  exact ⟨h1.mid hm (.inl hMN), ho, h3.mid hm hb, h4.trans (hm.toBelow (by omega) h4.size)⟩
theorem likeD_eq {d e : DlD} (h : likeD d e = true) : d.c.length = e.c.length ∧ d.s.length = e.s.length := by
  unfold likeD at h
  rw [Bool.and_eq_true] at h
  exact ⟨of_decide_eq_true h.1, of_decide_eq_true h.2⟩
theorem dlB_facts {P Q : Int} {cs ss : List Int} (h : dlB P Q cs ss = true) : (1 ≤ cs.length ∧ cs.length ≤ 7) ∧ (∀ z ∈ cs, 0 ≤ z ∧ z < P) ∧ ss.length ≤ 7 ∧ ∀ z ∈ ss, 0 ≤ z ∧ z < Q := by
  obtain ⟨h1, h2, h3⟩ := dlB_true.1 h
  obtain ⟨c1, c2, c3⟩ := cmsB_true.1 h1
  obtain ⟨s1, s2⟩ := shsB_true.1 h3
  exact ⟨⟨c1, c2⟩, fun z hz => by have := (els_range c3 z hz).1; omega, s1, allIn_res7 s2⟩
theorem sdK_res {P Q G : Int} {ds : List DlD} (h : sdB P Q G ds = true) (hP : 0 < P) (hQ : 0 < Q) : ∀ k, (∀ z ∈ (sdK P Q ds k).c, 0 ≤ z ∧ z < P) ∧ ∀ z ∈ (sdK P Q ds k).s, 0 ≤ z ∧ z < Q
  | 0 => by
    obtain ⟨_, ⟨h1, h2⟩, h3⟩ := sd_facts h
    rw [sdK_zero]
    cases ds with
    | nil => simp at h1
    | cons d ds =>
      obtain ⟨_, f1, _, f2⟩ := dlB_facts (h3 d (by simp)).1
      exact ⟨f1, f2⟩
  | k + 1 => by
    have ih := sdK_res h hP hQ k
    rcases Nat.lt_or_ge (k + 1) ds.length with hk | hk
    · rw [sdK_step (d := ds[k + 1]) (by simp [hk])]
      have hl := likeD_eq (sdK_like h k)
      have hd := likeD_eq ((sd_facts h).2.2 ds[k + 1] (List.getElem_mem hk)).2
      exact ⟨prdL_res hP (by omega), axpy1_res hQ (by omega)⟩
    · rw [sdK_all (k := k) hk] at ih
      rw [sdK_all (k := k + 1) (by omega)]; exact ih

set_option maxRecDepth 100000 in
set_option maxHeartbeats 3200000 in
theorem sumDealings_any (P Q G : Int) {B : Nat} {v : Value} {ds : List DlD} (hl : ds.length ≤ 1048576) (hr : nDs ds ≤ 1048576) {w : World} (hz : InDs B w v ds) :
    Calls Try.prog 28 #[gv P Q G, v] w (AnsD w (sdV P Q G ds) (sdB P Q G ds)) := by
  obtain ⟨la, lc, rfl⟩ := hz.shape
  have G_0 := Lib.hid ((gr_atS w w.heap.size rfl P Q G 24).below (ba (w.alloc (.cells #[.int .i64 P, .int .i64 Q, .int .i64 G] 24)) (.cells #[.slice none 0 0, .slice none 0 0] 42)))
  have Z_0 := Lib.hid (v2_at (w.alloc (.cells #[.int .i64 P, .int .i64 Q, .int .i64 G] 24)) (w.heap.size + 1) (by simp) (.slice none 0 0) (.slice none 0 0) 42)
  have HB_0 := Lib.hid (show Below w.heap.size w ((w.alloc (.cells #[.int .i64 P, .int .i64 Q, .int .i64 G] 24)).alloc (.cells #[.slice none 0 0, .slice none 0 0] 42)) from bt (ba _ _) (ba _ _))
  have L_0 := Lib.hid (hz.below HB_0.out)
  by_cases h9 : ds.length = 0
  · have HA9 := Lib.hid (show alB P Q ds = false by simp [alB, inB_false.2 (show (ds.length : Int) < 1 ∨ 7 < (ds.length : Int) by omega)])
    clear h9
    cases h0 : trB P Q G
    · have K0 := Lib.hid (show trB P Q G = false from h0)
      have E1 := Lib.hid (show sdB P Q G ds = false by rw [sdB_al, h0]; rfl)
      rw [E1.out, sd_off E1.out]
      clear h0
      obtain ⟨gG0, gG1, gG2⟩ := G_0.out
      obtain ⟨zZ0, zZ1, zfZ⟩ := Z_0.out
      have zfZ0 := zfZ 0
      have zfZ1 := zfZ 1
      clear zfZ
      go_enter Try.func28, Try.ntmps28
      go_wp2_with fail
      refine (hasTrustees_any P Q G _).mono ?_
      rw [K0.out]
      rintro e v1 ⟨rfl, hb⟩
      have HB_1 := Lib.hid (bt HB_0.out hb)
      have G_1 := Lib.hid (G_0.out.below hb)
      have Z_1 := Lib.hid (Z_0.out.below hb)
      have L_1 := Lib.hid (L_0.out.below hb)
      clear hb gG0 gG1 gG2 zZ0 zZ1 zfZ0 zfZ1
      obtain ⟨gG0, gG1, gG2⟩ := G_1.out
      obtain ⟨zZ0, zZ1, zfZ⟩ := Z_1.out
      have zfZ0 := zfZ 0
      have zfZ1 := zfZ 1
      clear zfZ
      go_wp2
      (try simp only [Exit.inBlock, Exit.then])
      refine bodyPost_ret (v := .tuple #[.agg #[.slice none 0 0, .slice none 0 0], .bool false]) ?_ rfl ?_
      · rw [results_cell_tmp rfl]; go_simp
      · have hm5 := mid_two7 v1 (w.heap.size + 1) (.slice none 0 0) (.slice none 0 0)
        exact ⟨_, rfl, owD_nil _ _ (Nat.le_trans HB_1.out.size hm5.size), HB_1.out.trans (hm5.toBelow (by omega) HB_1.out.size)⟩
    have K0 := Lib.hid (show trB P Q G = true from h0)
    have hmo := (trB_of h0).2.1
    cases h1 : alB P Q ds
    · have K1 := Lib.hid (show alB P Q ds = false from h1)
      have E1 := Lib.hid (show sdB P Q G ds = false by rw [sdB_al, h1, Bool.and_false])
      rw [E1.out, sd_off E1.out]
      clear h0 h1
      obtain ⟨gG0, gG1, gG2⟩ := G_0.out
      obtain ⟨zZ0, zZ1, zfZ⟩ := Z_0.out
      have zfZ0 := zfZ 0
      have zfZ1 := zfZ 1
      clear zfZ
      go_enter Try.func28, Try.ntmps28
      go_wp2_with fail
      refine (hasTrustees_any P Q G _).mono ?_
      rw [K0.out]
      rintro e v1 ⟨rfl, hb⟩
      have HB_1 := Lib.hid (bt HB_0.out hb)
      have G_1 := Lib.hid (G_0.out.below hb)
      have Z_1 := Lib.hid (Z_0.out.below hb)
      have L_1 := Lib.hid (L_0.out.below hb)
      clear hb gG0 gG1 gG2 zZ0 zZ1 zfZ0 zfZ1
      obtain ⟨gG0, gG1, gG2⟩ := G_1.out
      obtain ⟨zZ0, zZ1, zfZ⟩ := Z_1.out
      have zfZ0 := zfZ 0
      have zfZ1 := zfZ 1
      clear zfZ
      go_wp2_with fail
      refine (areAlike_any P Q G hmo hl hr L_1.out).mono ?_
      rw [K1.out]
      rintro e v2 ⟨rfl, hb⟩
      have HB_2 := Lib.hid (bt HB_1.out hb)
      have G_2 := Lib.hid (G_1.out.below hb)
      have Z_2 := Lib.hid (Z_1.out.below hb)
      have L_2 := Lib.hid (L_1.out.below hb)
      clear hb gG0 gG1 gG2 zZ0 zZ1 zfZ0 zfZ1
      obtain ⟨gG0, gG1, gG2⟩ := G_2.out
      obtain ⟨zZ0, zZ1, zfZ⟩ := Z_2.out
      have zfZ0 := zfZ 0
      have zfZ1 := zfZ 1
      clear zfZ
      go_wp2
      (try simp only [Exit.inBlock, Exit.then])
      refine bodyPost_ret (v := .tuple #[.agg #[.slice none 0 0, .slice none 0 0], .bool false]) ?_ rfl ?_
      · rw [results_cell_tmp rfl]; go_simp
      · have hm5 := mid_two7 v2 (w.heap.size + 1) (.slice none 0 0) (.slice none 0 0)
        exact ⟨_, rfl, owD_nil _ _ (Nat.le_trans HB_2.out.size hm5.size), HB_2.out.trans (hm5.toBelow (by omega) HB_2.out.size)⟩
    have K1 := Lib.hid (show alB P Q ds = true from h1)
    exact absurd (HA9.out.symm.trans h1) (by simp)
  have h10 : 1 ≤ ds.length := by omega
  obtain ⟨lb, lo, x, y, d0, rfl, hlb, hx, hy, hi, hj, hd⟩ := L_0.out.at (k := 0) (by omega)
  obtain ⟨a1, a2, rfl⟩ := hi.shape
  obtain ⟨b1, b2, rfl⟩ := hj.shape
  have hd0 : ds.headD nilD = d0 := by rw [show ds = d0 :: ds.drop 1 from hd]; rfl
  have E_0 := Lib.hid (show DC _ lb lo (.slice a1 d0.c.length a2) (.slice b1 d0.s.length b2) from ⟨by simpa using hx, by simpa using hy⟩)
  have I_0 := Lib.hid (And.intro hi hj)
  have HD9 := Lib.hid hd
  have B0_0 := Lib.hid (show BZ ((w.alloc (.cells #[.int .i64 P, .int .i64 Q, .int .i64 G] 24)).alloc (.cells #[.slice none 0 0, .slice none 0 0] 42)) ((w.alloc (.cells #[.int .i64 P, .int .i64 Q, .int .i64 G] 24)).alloc (.cells #[.slice none 0 0, .slice none 0 0] 42)) from Below.refl _ _)
  clear hx hy hi hj hd h9 hz
  cases h0 : trB P Q G
  · have K0 := Lib.hid (show trB P Q G = false from h0)
    have E1 := Lib.hid (show sdB P Q G ds = false by rw [sdB_al, h0]; rfl)
    rw [E1.out, sd_off E1.out]
    clear h0
    obtain ⟨gG0, gG1, gG2⟩ := G_0.out
    obtain ⟨cE0, cE1⟩ := E_0.out
    obtain ⟨zZ0, zZ1, zfZ⟩ := Z_0.out
    have zfZ0 := zfZ 0
    have zfZ1 := zfZ 1
    clear zfZ
    go_enter Try.func28, Try.ntmps28
    go_wp2_with fail
    refine (hasTrustees_any P Q G _).mono ?_
    rw [K0.out]
    rintro e v1 ⟨rfl, hb⟩
    have HB_1 := Lib.hid (bt HB_0.out hb)
    have G_1 := Lib.hid (G_0.out.below hb)
    have Z_1 := Lib.hid (Z_0.out.below hb)
    have L_1 := Lib.hid (L_0.out.below hb)
    have E_1 := Lib.hid (E_0.out.below hb)
    have B0_1 := Lib.hid (B0_0.out.below hb)
    clear hb gG0 gG1 gG2 cE0 cE1 zZ0 zZ1 zfZ0 zfZ1
    obtain ⟨gG0, gG1, gG2⟩ := G_1.out
    obtain ⟨cE0, cE1⟩ := E_1.out
    obtain ⟨zZ0, zZ1, zfZ⟩ := Z_1.out
    have zfZ0 := zfZ 0
    have zfZ1 := zfZ 1
    clear zfZ
    go_wp2
    (try simp only [Exit.inBlock, Exit.then])
    refine bodyPost_ret (v := .tuple #[.agg #[.slice none 0 0, .slice none 0 0], .bool false]) ?_ rfl ?_
    · rw [results_cell_tmp rfl]; go_simp
    · have hm5 := mid_two7 v1 (w.heap.size + 1) (.slice none 0 0) (.slice none 0 0)
      exact ⟨_, rfl, owD_nil _ _ (Nat.le_trans HB_1.out.size hm5.size), HB_1.out.trans (hm5.toBelow (by omega) HB_1.out.size)⟩
  have K0 := Lib.hid (show trB P Q G = true from h0)
  have hmo := (trB_of h0).2.1
  cases h1 : alB P Q ds
  · have K1 := Lib.hid (show alB P Q ds = false from h1)
    have E1 := Lib.hid (show sdB P Q G ds = false by rw [sdB_al, h1, Bool.and_false])
    rw [E1.out, sd_off E1.out]
    clear h0 h1
    obtain ⟨gG0, gG1, gG2⟩ := G_0.out
    obtain ⟨cE0, cE1⟩ := E_0.out
    obtain ⟨zZ0, zZ1, zfZ⟩ := Z_0.out
    have zfZ0 := zfZ 0
    have zfZ1 := zfZ 1
    clear zfZ
    go_enter Try.func28, Try.ntmps28
    go_wp2_with fail
    refine (hasTrustees_any P Q G _).mono ?_
    rw [K0.out]
    rintro e v1 ⟨rfl, hb⟩
    have HB_1 := Lib.hid (bt HB_0.out hb)
    have G_1 := Lib.hid (G_0.out.below hb)
    have Z_1 := Lib.hid (Z_0.out.below hb)
    have L_1 := Lib.hid (L_0.out.below hb)
    have E_1 := Lib.hid (E_0.out.below hb)
    have B0_1 := Lib.hid (B0_0.out.below hb)
    clear hb gG0 gG1 gG2 cE0 cE1 zZ0 zZ1 zfZ0 zfZ1
    obtain ⟨gG0, gG1, gG2⟩ := G_1.out
    obtain ⟨cE0, cE1⟩ := E_1.out
    obtain ⟨zZ0, zZ1, zfZ⟩ := Z_1.out
    have zfZ0 := zfZ 0
    have zfZ1 := zfZ 1
    clear zfZ
    go_wp2_with fail
    refine (areAlike_any P Q G hmo hl hr L_1.out).mono ?_
    rw [K1.out]
    rintro e v2 ⟨rfl, hb⟩
    have HB_2 := Lib.hid (bt HB_1.out hb)
    have G_2 := Lib.hid (G_1.out.below hb)
    have Z_2 := Lib.hid (Z_1.out.below hb)
    have L_2 := Lib.hid (L_1.out.below hb)
    have E_2 := Lib.hid (E_1.out.below hb)
    have B0_2 := Lib.hid (B0_1.out.below hb)
    clear hb gG0 gG1 gG2 cE0 cE1 zZ0 zZ1 zfZ0 zfZ1
    obtain ⟨gG0, gG1, gG2⟩ := G_2.out
    obtain ⟨cE0, cE1⟩ := E_2.out
    obtain ⟨zZ0, zZ1, zfZ⟩ := Z_2.out
    have zfZ0 := zfZ 0
    have zfZ1 := zfZ 1
    clear zfZ
    go_wp2
    (try simp only [Exit.inBlock, Exit.then])
    refine bodyPost_ret (v := .tuple #[.agg #[.slice none 0 0, .slice none 0 0], .bool false]) ?_ rfl ?_
    · rw [results_cell_tmp rfl]; go_simp
    · have hm5 := mid_two7 v2 (w.heap.size + 1) (.slice none 0 0) (.slice none 0 0)
      exact ⟨_, rfl, owD_nil _ _ (Nat.le_trans HB_2.out.size hm5.size), HB_2.out.trans (hm5.toBelow (by omega) HB_2.out.size)⟩
  have K1 := Lib.hid (show alB P Q ds = true from h1)
  have E1 := Lib.hid (show sdB P Q G ds = true by rw [sdB_al, h0, h1]; rfl)
  rw [E1.out, sd_on E1.out]
  clear h0 h1
  have IC := Lib.hid I_0.out.1
  have IS := Lib.hid I_0.out.2
  have hdn : d0.c.length + d0.s.length ≤ 1048576 := by have := nDs_drop ds 0; rw [HD9.out, nDs_cons] at this; unfold DlD.n at this; omega
  obtain ⟨hgd, hmo2, hq7⟩ := trB_of (sd_facts E1.out).1
  have hbg := goodB_true.1 hgd
  have hP2 : 2 ≤ P := by omega
  have hP3 : P ≤ 2000000000 := by omega
  have hQ3 : Q ≤ 2000000000 := by omega
  clear hbg
  have DFC := Lib.hid (show 1 ≤ d0.c.length from (dlB_facts ((sd_facts E1.out).2.2 d0 (by rw [← List.drop_zero (l := ds), HD9.out]; simp)).1).1.1)
  have hd7 : ds.length ≤ 7 := (sd_facts E1.out).2.1.2
  have hpos : 0 < ds.length := by omega
  obtain ⟨gG0, gG1, gG2⟩ := G_0.out
  obtain ⟨cE0, cE1⟩ := E_0.out
  obtain ⟨zZ0, zZ1, zfZ⟩ := Z_0.out
  have zfZ0 := zfZ 0
  have zfZ1 := zfZ 1
  clear zfZ
  go_enter Try.func28, Try.ntmps28
  go_wp2_with fail
  refine (hasTrustees_any P Q G _).mono ?_
  rw [K0.out]
  rintro e v1 ⟨rfl, hb⟩
  have HB_1 := Lib.hid (bt HB_0.out hb)
  have G_1 := Lib.hid (G_0.out.below hb)
  have Z_1 := Lib.hid (Z_0.out.below hb)
  have L_1 := Lib.hid (L_0.out.below hb)
  have E_1 := Lib.hid (E_0.out.below hb)
  have B0_1 := Lib.hid (B0_0.out.below hb)
  clear hb gG0 gG1 gG2 cE0 cE1 zZ0 zZ1 zfZ0 zfZ1
  obtain ⟨gG0, gG1, gG2⟩ := G_1.out
  obtain ⟨cE0, cE1⟩ := E_1.out
  obtain ⟨zZ0, zZ1, zfZ⟩ := Z_1.out
  have zfZ0 := zfZ 0
  have zfZ1 := zfZ 1
  clear zfZ
  go_wp2_with fail
  refine (areAlike_any P Q G hmo hl hr L_1.out).mono ?_
  rw [K1.out]
  rintro e v2 ⟨rfl, hb⟩
  have HB_2 := Lib.hid (bt HB_1.out hb)
  have G_2 := Lib.hid (G_1.out.below hb)
  have Z_2 := Lib.hid (Z_1.out.below hb)
  have L_2 := Lib.hid (L_1.out.below hb)
  have E_2 := Lib.hid (E_1.out.below hb)
  have B0_2 := Lib.hid (B0_1.out.below hb)
  clear hb gG0 gG1 gG2 cE0 cE1 zZ0 zZ1 zfZ0 zfZ1
  obtain ⟨gG0, gG1, gG2⟩ := G_2.out
  obtain ⟨cE0, cE1⟩ := E_2.out
  obtain ⟨zZ0, zZ1, zfZ⟩ := Z_2.out
  have zfZ0 := zfZ 0
  have zfZ1 := zfZ 1
  clear zfZ
  have CC_2 := Lib.hid (show LZ v2 a1 d0.c from LZ.below (inI_ints IC.out) B0_2.out)
  have CS_2 := Lib.hid (show LZ v2 b1 d0.s from LZ.below (inI_ints IS.out) B0_2.out)
  have LE := Lib.hid (World.block_lt_of_cell? _ _ E_2.out.1)
  have LO_2 := Lib.hid (show BZ v2 v2 from Below.refl _ _)
  go_upto_region 3 with fail
  clear gG0 gG1 gG2 cE0 cE1 zZ0 zZ1 zfZ0 zfZ1
  go_cut [6] (fun s1 wx => ∃ (b : Nat) (va : Option Addr) (vc : Nat) (vb : Option Addr) (vd : Nat), s1 = .pointer (some ⟨b, 0, none⟩) ∧ SumB v2 wx b (.slice va d0.c.length vc) (.slice vb d0.s.length vd) d0)
  case first =>
    have hbd : Below v2.heap.size v2 v2.drew := (Below.refl _ v2).drew
    have HB_s := Lib.hid (bt HB_2.out hbd)
    have E_s := Lib.hid (E_2.out.below hbd)
    have CC_s := Lib.hid (CC_2.out.below hbd)
    have CS_s := Lib.hid (CS_2.out.below hbd)
    have LO_s := Lib.hid (LO_2.out.below hbd)
    clear hbd
    refine wp_region_held_drew (S := (fun w' => w'.cell? ⟨lb, lo, none⟩ = some (.slice a1 d0.c.length a2) ∧ w'.cell? ⟨lb, lo + 1, none⟩ = some (.slice b1 d0.s.length b2))) (by kernel_rfl) (show _ from ⟨E_2.out.1, E_2.out.2⟩) (fun hHeld => ?_)
    generalize hW0 : v2.drew = Ws at *
    clear hW0
    refine wpAnyH_take (i := 0) (v := ?_) rfl (by kernel_rfl) (by kernel_rfl) (by kernel_rfl) (fun _ _ _ h => h) (Or.inl ⟨by kernel_rfl, ?_⟩) (by assumption) ?_
    rotate_left 1
    · intro w9 hSw
      try dsimp only at hSw
      go_simp
      try with_reducible rfl
    try simp only [Act.put, List.getElem_toArray, List.getElem_cons_succ, List.getElem_cons_zero, List.setIfInBounds_toArray, List.set_cons_zero, List.set_cons_succ]
    refine wpAnyH_take (i := 1) (v := ?_) rfl (by kernel_rfl) (by kernel_rfl) (by kernel_rfl) (fun _ _ _ h => h) (Or.inl ⟨by kernel_rfl, ?_⟩) (by assumption) ?_
    rotate_left 1
    · intro w9 hSw
      try dsimp only at hSw
      go_simp
      try with_reducible rfl
    try simp only [Act.put, List.getElem_toArray, List.getElem_cons_succ, List.getElem_cons_zero, List.setIfInBounds_toArray, List.set_cons_zero, List.set_cons_succ]
    refine wpAnyH_take (i := 2) (v := ?_) rfl (by kernel_rfl) (by kernel_rfl) (by kernel_rfl) (fun _ _ _ h => h) (Or.inl ⟨by kernel_rfl, ?_⟩) (by assumption) ?_
    rotate_left 1
    · intro w9 hSw
      try dsimp only at hSw
      go_simp
      try with_reducible rfl
    try simp only [Act.put, List.getElem_toArray, List.getElem_cons_succ, List.getElem_cons_zero, List.setIfInBounds_toArray, List.set_cons_zero, List.set_cons_succ]
    refine wpAnyH_take (i := 3) (v := ?_) rfl (by kernel_rfl) (by kernel_rfl) (by kernel_rfl) (fun _ _ _ h => h) (Or.inl ⟨by kernel_rfl, ?_⟩) (by assumption) ?_
    rotate_left 1
    · intro w9 hSw
      try dsimp only at hSw
      go_simp
      try with_reducible rfl
    try simp only [Act.put, List.getElem_toArray, List.getElem_cons_succ, List.getElem_cons_zero, List.setIfInBounds_toArray, List.set_cons_zero, List.set_cons_succ]
    refine wpAnyH_take (i := 5) (v := ?_) rfl (by kernel_rfl) (by kernel_rfl) (by kernel_rfl) (fun _ _ _ h => h) (Or.inl ⟨by kernel_rfl, ?_⟩) (by assumption) ?_
    rotate_left 1
    · intro w9 hSw
      try dsimp only at hSw
      go_simp
      try with_reducible rfl
    try simp only [Act.put, List.getElem_toArray, List.getElem_cons_succ, List.getElem_cons_zero, List.setIfInBounds_toArray, List.set_cons_zero, List.set_cons_succ]
    refine wpAnyH_take (i := 6) (v := ?_) rfl (by kernel_rfl) (by kernel_rfl) (by kernel_rfl) (fun _ _ _ h => h) (Or.inl ⟨by kernel_rfl, ?_⟩) (by assumption) ?_
    rotate_left 1
    · intro w9 hSw
      try dsimp only at hSw
      go_simp
      try with_reducible rfl
    try simp only [Act.put, List.getElem_toArray, List.getElem_cons_succ, List.getElem_cons_zero, List.setIfInBounds_toArray, List.set_cons_zero, List.set_cons_succ]
    refine wpAnyH_take (i := 7) (v := ?_) rfl (by kernel_rfl) (by kernel_rfl) (by kernel_rfl) (fun _ _ _ h => h) (Or.inl ⟨by kernel_rfl, ?_⟩) (by assumption) ?_
    rotate_left 1
    · intro w9 hSw
      try dsimp only at hSw
      go_simp
      try with_reducible rfl
    try simp only [Act.put, List.getElem_toArray, List.getElem_cons_succ, List.getElem_cons_zero, List.setIfInBounds_toArray, List.set_cons_zero, List.set_cons_succ]
    refine wpAnyH_take (i := 8) (v := ?_) rfl (by kernel_rfl) (by kernel_rfl) (by kernel_rfl) (fun _ _ _ h => h) (Or.inl ⟨by kernel_rfl, ?_⟩) (by assumption) ?_
    rotate_left 1
    · intro w9 hSw
      try dsimp only at hSw
      go_simp
      try with_reducible rfl
    try simp only [Act.put, List.getElem_toArray, List.getElem_cons_succ, List.getElem_cons_zero, List.setIfInBounds_toArray, List.set_cons_zero, List.set_cons_succ]
    refine wpAnyH_ready (rs := [4, 11]) (by kernel_rfl) (by simp) ?_
    refine AllReadyH.cons rfl (fun K hK => ?_) (AllReadyH.cons rfl (fun K hK => ?_) (AllReadyH.nil))
    · go_simp
      (first | have LBC := Lib.hid Z2_s.out.lt | skip)
      have LC := Lib.hid LO_s.out.size
      go_at_call 89
      refine (cloneD_any a1 d0.c.length a2 d0.c rfl (by omega) (inI_nilc IC.out) _ (show IsInts _ _ _ from CC_s.out)).mono ?_
      rintro e' Wse ⟨vx, rfl, ho, hb⟩
      obtain ⟨va, vc, rfl⟩ := own_shape ho.1
      have HB_se := Lib.hid (bt HB_s.out hb)
      have E_se := Lib.hid (E_s.out.below hb)
      have CC_se := Lib.hid (CC_s.out.below hb)
      have CS_se := Lib.hid (CS_s.out.below hb)
      have LO_se := Lib.hid (LO_s.out.below hb)
      have OC_se := Lib.hid ho
      clear ho
      clear hb
      go_wp2_with fail
      refine hK.out _ _ (show _ from ⟨E_se.out.1, E_se.out.2⟩) (fun hHeld => ?_)
      clear hK K
      try simp only [Act.put, List.getElem_toArray, List.getElem_cons_succ, List.getElem_cons_zero, List.setIfInBounds_toArray, List.set_cons_zero, List.set_cons_succ]
      refine wpAnyH_ready (rs := [9, 11]) (by kernel_rfl) (by simp) ?_
      refine AllReadyH.cons rfl (fun K hK => ?_) (AllReadyH.cons rfl (fun K hK => ?_) (AllReadyH.nil))
      · go_simp
        (first | have LBS := Lib.hid Z2_se.out.lt | skip)
        have LS := Lib.hid LO_se.out.size
        have LCS := Lib.hid OC_se.out.toIn.le
        go_at_call 89
        refine (cloneD_any b1 d0.s.length b2 d0.s rfl (by omega) (inI_nilc IS.out) _ (show IsInts _ _ _ from CS_se.out)).mono ?_
        rintro e' Wsej ⟨vx, rfl, ho, hb⟩
        obtain ⟨vb, vd, rfl⟩ := own_shape ho.1
        have HB_sej := Lib.hid (bt HB_se.out hb)
        have E_sej := Lib.hid (E_se.out.below hb)
        have CC_sej := Lib.hid (CC_se.out.below hb)
        have CS_sej := Lib.hid (CS_se.out.below hb)
        have LO_sej := Lib.hid (LO_se.out.below hb)
        have OC_sej := Lib.hid (OC_se.out.below hb)
        have OS_sej := Lib.hid ho
        clear ho
        clear hb
        go_wp2_with fail
        refine hK.out _ _ (show _ from ⟨E_sej.out.1, E_sej.out.2⟩) (fun hHeld => ?_)
        clear hK K
        try simp only [Act.put, List.getElem_toArray, List.getElem_cons_succ, List.getElem_cons_zero, List.setIfInBounds_toArray, List.set_cons_zero, List.set_cons_succ]
        refine wpAnyH_take (i := 10) (v := ?_) rfl (by kernel_rfl) (by kernel_rfl) (by kernel_rfl) (fun _ _ _ h => h) (Or.inl ⟨by kernel_rfl, ?_⟩) (by assumption) ?_
        rotate_left 1
        · intro w9 hSw
          try dsimp only at hSw
          go_simp
          try with_reducible rfl
        try simp only [Act.put, List.getElem_toArray, List.getElem_cons_succ, List.getElem_cons_zero, List.setIfInBounds_toArray, List.set_cons_zero, List.set_cons_succ]
        refine wpAnyH_ready (rs := [11]) (by kernel_rfl) (by simp) ?_
        refine AllReadyH.cons rfl (fun K hK => ?_) (AllReadyH.nil)
        go_simp
        have hb := ba Wsej (.cells #[.slice none 0 0, .slice none 0 0] 42)
        have HB_sejl := Lib.hid (bt HB_sej.out hb)
        have E_sejl := Lib.hid (E_sej.out.below hb)
        have CC_sejl := Lib.hid (CC_sej.out.below hb)
        have CS_sejl := Lib.hid (CS_sej.out.below hb)
        have LO_sejl := Lib.hid (LO_sej.out.below hb)
        have OC_sejl := Lib.hid (OC_sej.out.below hb)
        have OS_sejl := Lib.hid (OS_sej.out.below hb)
        have Z2_sejl := Lib.hid (show VD2 (Wsej.alloc (.cells #[.slice none 0 0, .slice none 0 0] 42)) Wsej.heap.size (.slice none 0 0) (.slice none 0 0) from v2_at Wsej Wsej.heap.size rfl _ _ 42)
        have LB := Lib.hid (show v2.heap.size ≤ Wsej.heap.size from LO_sej.out.size)
        (first | have LBD := Lib.hid OC_sej.out.toIn.le | skip)
        (first | have LBT := Lib.hid OS_sej.out.toIn.le | skip)
        clear hb
        refine hK.out _ _ (show _ from ⟨E_sejl.out.1, E_sejl.out.2⟩) (fun hHeld => ?_)
        clear hK K
        try simp only [Act.put, List.getElem_toArray, List.getElem_cons_succ, List.getElem_cons_zero, List.setIfInBounds_toArray, List.set_cons_zero, List.set_cons_succ]
        generalize hW9 : Wsej.alloc (.cells #[.slice none 0 0, .slice none 0 0] 42) = Wsejl at *
        clear hW9
        have BX := Lib.hid (show SumB v2 _ (Wsej.heap.size) (.slice va d0.c.length vc) (.slice vb d0.s.length vd) d0 from sumB_mk OC_sejl.out OS_sejl.out LCS.out Z2_sejl.out (by first | exact .inl LBC.out | exact .inr LBD.out) (by first | exact .inl LBS.out | exact .inr LBT.out) LC.out LB.out LO_sejl.out)
        refine wpAnyH_ready (rs := [12]) (by kernel_rfl) (by simp) ?_
        refine AllReadyH.cons rfl (fun K hK => ?_) AllReadyH.nil
        obtain ⟨y0, y1, yf⟩ := Z2_sejl.out
        have yf0 := yf 0
        have yf1 := yf 1
        clear yf
        go_simp
        have E_y := Lib.hid (E_sejl.out.below9 (Wsej.heap.size) (.slice va d0.c.length vc) (.slice vb d0.s.length vd) LE.out LB.out)
        refine hK.out _ _ (show _ from ⟨E_y.out.1, E_y.out.2⟩) (fun hHeld => ?_)
        clear hK K
        try simp only [Act.put, List.getElem_toArray, List.getElem_cons_succ, List.getElem_cons_zero, List.setIfInBounds_toArray, List.set_cons_zero, List.set_cons_succ]
        refine wpAnyH_done (by kernel_rfl) ?_ _
        go_wp2_with fail
        go_meet
        exact ⟨_, _, _, _, _, rfl, BX.out⟩
      · go_simp
        have hb := ba Wse (.cells #[.slice none 0 0, .slice none 0 0] 42)
        have HB_sel := Lib.hid (bt HB_se.out hb)
        have E_sel := Lib.hid (E_se.out.below hb)
        have CC_sel := Lib.hid (CC_se.out.below hb)
        have CS_sel := Lib.hid (CS_se.out.below hb)
        have LO_sel := Lib.hid (LO_se.out.below hb)
        have OC_sel := Lib.hid (OC_se.out.below hb)
        have Z2_sel := Lib.hid (show VD2 (Wse.alloc (.cells #[.slice none 0 0, .slice none 0 0] 42)) Wse.heap.size (.slice none 0 0) (.slice none 0 0) from v2_at Wse Wse.heap.size rfl _ _ 42)
        have LB := Lib.hid (show v2.heap.size ≤ Wse.heap.size from LO_se.out.size)
        (first | have LBD := Lib.hid OC_se.out.toIn.le | skip)
        (first | have LBT := Lib.hid OS_se.out.toIn.le | skip)
        clear hb
        refine hK.out _ _ (show _ from ⟨E_sel.out.1, E_sel.out.2⟩) (fun hHeld => ?_)
        clear hK K
        try simp only [Act.put, List.getElem_toArray, List.getElem_cons_succ, List.getElem_cons_zero, List.setIfInBounds_toArray, List.set_cons_zero, List.set_cons_succ]
        generalize hW9 : Wse.alloc (.cells #[.slice none 0 0, .slice none 0 0] 42) = Wsel at *
        clear hW9
        refine wpAnyH_ready (rs := [9]) (by kernel_rfl) (by simp) ?_
        refine AllReadyH.cons rfl (fun K hK => ?_) (AllReadyH.nil)
        go_simp
        (first | have LBS := Lib.hid Z2_sel.out.lt | skip)
        have LS := Lib.hid LO_sel.out.size
        have LCS := Lib.hid OC_sel.out.toIn.le
        go_at_call 89
        refine (cloneD_any b1 d0.s.length b2 d0.s rfl (by omega) (inI_nilc IS.out) _ (show IsInts _ _ _ from CS_sel.out)).mono ?_
        rintro e' Wselj ⟨vx, rfl, ho, hb⟩
        obtain ⟨vb, vd, rfl⟩ := own_shape ho.1
        have HB_selj := Lib.hid (bt HB_sel.out hb)
        have E_selj := Lib.hid (E_sel.out.below hb)
        have CC_selj := Lib.hid (CC_sel.out.below hb)
        have CS_selj := Lib.hid (CS_sel.out.below hb)
        have LO_selj := Lib.hid (LO_sel.out.below hb)
        have OC_selj := Lib.hid (OC_sel.out.below hb)
        have Z2_selj := Lib.hid (Z2_sel.out.below hb)
        have OS_selj := Lib.hid ho
        clear ho
        clear hb
        go_wp2_with fail
        refine hK.out _ _ (show _ from ⟨E_selj.out.1, E_selj.out.2⟩) (fun hHeld => ?_)
        clear hK K
        try simp only [Act.put, List.getElem_toArray, List.getElem_cons_succ, List.getElem_cons_zero, List.setIfInBounds_toArray, List.set_cons_zero, List.set_cons_succ]
        refine wpAnyH_take (i := 10) (v := ?_) rfl (by kernel_rfl) (by kernel_rfl) (by kernel_rfl) (fun _ _ _ h => h) (Or.inl ⟨by kernel_rfl, ?_⟩) (by assumption) ?_
        rotate_left 1
        · intro w9 hSw
          try dsimp only at hSw
          go_simp
          try with_reducible rfl
        try simp only [Act.put, List.getElem_toArray, List.getElem_cons_succ, List.getElem_cons_zero, List.setIfInBounds_toArray, List.set_cons_zero, List.set_cons_succ]
        have BX := Lib.hid (show SumB v2 _ (Wse.heap.size) (.slice va d0.c.length vc) (.slice vb d0.s.length vd) d0 from sumB_mk OC_selj.out OS_selj.out LCS.out Z2_selj.out (by first | exact .inl LBC.out | exact .inr LBD.out) (by first | exact .inl LBS.out | exact .inr LBT.out) LC.out LB.out LO_selj.out)
        refine wpAnyH_ready (rs := [12]) (by kernel_rfl) (by simp) ?_
        refine AllReadyH.cons rfl (fun K hK => ?_) AllReadyH.nil
        obtain ⟨y0, y1, yf⟩ := Z2_selj.out
        have yf0 := yf 0
        have yf1 := yf 1
        clear yf
        go_simp
        have E_y := Lib.hid (E_selj.out.below9 (Wse.heap.size) (.slice va d0.c.length vc) (.slice vb d0.s.length vd) LE.out LB.out)
        refine hK.out _ _ (show _ from ⟨E_y.out.1, E_y.out.2⟩) (fun hHeld => ?_)
        clear hK K
        try simp only [Act.put, List.getElem_toArray, List.getElem_cons_succ, List.getElem_cons_zero, List.setIfInBounds_toArray, List.set_cons_zero, List.set_cons_succ]
        refine wpAnyH_done (by kernel_rfl) ?_ _
        go_wp2_with fail
        go_meet
        exact ⟨_, _, _, _, _, rfl, BX.out⟩
    · go_simp
      have hb := ba Ws (.cells #[.slice none 0 0, .slice none 0 0] 42)
      have HB_sl := Lib.hid (bt HB_s.out hb)
      have E_sl := Lib.hid (E_s.out.below hb)
      have CC_sl := Lib.hid (CC_s.out.below hb)
      have CS_sl := Lib.hid (CS_s.out.below hb)
      have LO_sl := Lib.hid (LO_s.out.below hb)
      have Z2_sl := Lib.hid (show VD2 (Ws.alloc (.cells #[.slice none 0 0, .slice none 0 0] 42)) Ws.heap.size (.slice none 0 0) (.slice none 0 0) from v2_at Ws Ws.heap.size rfl _ _ 42)
      have LB := Lib.hid (show v2.heap.size ≤ Ws.heap.size from LO_s.out.size)
      (first | have LBD := Lib.hid OC_s.out.toIn.le | skip)
      (first | have LBT := Lib.hid OS_s.out.toIn.le | skip)
      clear hb
      refine hK.out _ _ (show _ from ⟨E_sl.out.1, E_sl.out.2⟩) (fun hHeld => ?_)
      clear hK K
      try simp only [Act.put, List.getElem_toArray, List.getElem_cons_succ, List.getElem_cons_zero, List.setIfInBounds_toArray, List.set_cons_zero, List.set_cons_succ]
      generalize hW9 : Ws.alloc (.cells #[.slice none 0 0, .slice none 0 0] 42) = Wsl at *
      clear hW9
      refine wpAnyH_ready (rs := [4]) (by kernel_rfl) (by simp) ?_
      refine AllReadyH.cons rfl (fun K hK => ?_) (AllReadyH.nil)
      go_simp
      (first | have LBC := Lib.hid Z2_sl.out.lt | skip)
      have LC := Lib.hid LO_sl.out.size
      go_at_call 89
      refine (cloneD_any a1 d0.c.length a2 d0.c rfl (by omega) (inI_nilc IC.out) _ (show IsInts _ _ _ from CC_sl.out)).mono ?_
      rintro e' Wsle ⟨vx, rfl, ho, hb⟩
      obtain ⟨va, vc, rfl⟩ := own_shape ho.1
      have HB_sle := Lib.hid (bt HB_sl.out hb)
      have E_sle := Lib.hid (E_sl.out.below hb)
      have CC_sle := Lib.hid (CC_sl.out.below hb)
      have CS_sle := Lib.hid (CS_sl.out.below hb)
      have LO_sle := Lib.hid (LO_sl.out.below hb)
      have Z2_sle := Lib.hid (Z2_sl.out.below hb)
      have OC_sle := Lib.hid ho
      clear ho
      clear hb
      go_wp2_with fail
      refine hK.out _ _ (show _ from ⟨E_sle.out.1, E_sle.out.2⟩) (fun hHeld => ?_)
      clear hK K
      try simp only [Act.put, List.getElem_toArray, List.getElem_cons_succ, List.getElem_cons_zero, List.setIfInBounds_toArray, List.set_cons_zero, List.set_cons_succ]
      refine wpAnyH_ready (rs := [9]) (by kernel_rfl) (by simp) ?_
      refine AllReadyH.cons rfl (fun K hK => ?_) (AllReadyH.nil)
      go_simp
      (first | have LBS := Lib.hid Z2_sle.out.lt | skip)
      have LS := Lib.hid LO_sle.out.size
      have LCS := Lib.hid OC_sle.out.toIn.le
      go_at_call 89
      refine (cloneD_any b1 d0.s.length b2 d0.s rfl (by omega) (inI_nilc IS.out) _ (show IsInts _ _ _ from CS_sle.out)).mono ?_
      rintro e' Wslej ⟨vx, rfl, ho, hb⟩
      obtain ⟨vb, vd, rfl⟩ := own_shape ho.1
      have HB_slej := Lib.hid (bt HB_sle.out hb)
      have E_slej := Lib.hid (E_sle.out.below hb)
      have CC_slej := Lib.hid (CC_sle.out.below hb)
      have CS_slej := Lib.hid (CS_sle.out.below hb)
      have LO_slej := Lib.hid (LO_sle.out.below hb)
      have Z2_slej := Lib.hid (Z2_sle.out.below hb)
      have OC_slej := Lib.hid (OC_sle.out.below hb)
      have OS_slej := Lib.hid ho
      clear ho
      clear hb
      go_wp2_with fail
      refine hK.out _ _ (show _ from ⟨E_slej.out.1, E_slej.out.2⟩) (fun hHeld => ?_)
      clear hK K
      try simp only [Act.put, List.getElem_toArray, List.getElem_cons_succ, List.getElem_cons_zero, List.setIfInBounds_toArray, List.set_cons_zero, List.set_cons_succ]
      refine wpAnyH_take (i := 10) (v := ?_) rfl (by kernel_rfl) (by kernel_rfl) (by kernel_rfl) (fun _ _ _ h => h) (Or.inl ⟨by kernel_rfl, ?_⟩) (by assumption) ?_
      rotate_left 1
      · intro w9 hSw
        try dsimp only at hSw
        go_simp
        try with_reducible rfl
      try simp only [Act.put, List.getElem_toArray, List.getElem_cons_succ, List.getElem_cons_zero, List.setIfInBounds_toArray, List.set_cons_zero, List.set_cons_succ]
      have BX := Lib.hid (show SumB v2 _ (Ws.heap.size) (.slice va d0.c.length vc) (.slice vb d0.s.length vd) d0 from sumB_mk OC_slej.out OS_slej.out LCS.out Z2_slej.out (by first | exact .inl LBC.out | exact .inr LBD.out) (by first | exact .inl LBS.out | exact .inr LBT.out) LC.out LB.out LO_slej.out)
      refine wpAnyH_ready (rs := [12]) (by kernel_rfl) (by simp) ?_
      refine AllReadyH.cons rfl (fun K hK => ?_) AllReadyH.nil
      obtain ⟨y0, y1, yf⟩ := Z2_slej.out
      have yf0 := yf 0
      have yf1 := yf 1
      clear yf
      go_simp
      have E_y := Lib.hid (E_slej.out.below9 (Ws.heap.size) (.slice va d0.c.length vc) (.slice vb d0.s.length vd) LE.out LB.out)
      refine hK.out _ _ (show _ from ⟨E_y.out.1, E_y.out.2⟩) (fun hHeld => ?_)
      clear hK K
      try simp only [Act.put, List.getElem_toArray, List.getElem_cons_succ, List.getElem_cons_zero, List.setIfInBounds_toArray, List.set_cons_zero, List.set_cons_succ]
      refine wpAnyH_done (by kernel_rfl) ?_ _
      go_wp2_with fail
      go_meet
      exact ⟨_, _, _, _, _, rfl, BX.out⟩
  case rest =>
    obtain ⟨b, va, vc, vb, vd, rfl, hsb⟩ := hcut
    obtain ⟨Q0, M0, N0, P0, hs1, hs2, hMN, hs3, hbQ, hbN, hvQ, hvb, hs4⟩ := hsb
    obtain ⟨g, rfl⟩ := owI_some hs1 (by have := DFC.out; omega)
    have SC0 := Lib.hid (show SumC v2 _ b Q0 M0 N0 P0 (.slice (some ⟨g, 0, none⟩) d0.c.length vc) (.slice vb d0.s.length vd) (sdK P Q ds 0) from by rw [sdK_zero, hd0]; exact ⟨hs1, hs2, hs3, hs4⟩)
    have HNUM := Lib.hid (And.intro hMN (And.intro hbQ (And.intro hbN (And.intro hvQ hvb))))
    have hcap := L_2.out.cap
    have hsl : (1 : Int) ≤ (ds.length : Int) := by omega
    have hlc0 : ds.length ≤ lc := hcap
    clear hs1 hs2 hs3 hs4 hMN hbQ hbN hvQ hvb
    have HDD := Lib.hid hd0
    clear hd0
    have hBv := L_2.out.le
    by_cases hlc : lc = 1
    · have hn1 : ds.length = 1 := by omega
      have hd0l : (0 : Int) ≤ 0 := Int.le_refl _
      subst hlc
      go_wp2_with fail
      go_loopw [8, 9, 10, 35, 42] (fun _ _ _ K _ wr => ∃ k : Nat, k + 1 ≤ ds.length ∧ K = .int .i64 k ∧ SumC v2 wr b Q0 M0 N0 P0 (.slice (some ⟨g, 0, none⟩) d0.c.length vc) (.slice vb d0.s.length vd) (sdK P Q ds k)) (fun _ _ _ K _ _ => ds.length - 1 - (intOf K).toNat)
      case atStart => exact ⟨0, by omega, rfl, SC0.out⟩
      case round =>
        obtain ⟨k, hk, rfl, hsb⟩ := hrel
        obtain rfl : k = 0 := by omega
        have hkk : sdK P Q ds 0 = sdL P Q ds := sdK_all (by omega)
        rw [hkk] at hsb
        have HSB := Lib.hid hsb
        have HZ4 := Lib.hid (Z_2.out.below hsb.2.2.2)
        have HLV := Lib.hid Z_2.out.lt
        clear hkk hsb SC0
        obtain ⟨x0, x1, _⟩ := HSB.out.2.2.1
        obtain ⟨y0, y1, yf⟩ := HZ4.out
        have yf0 := yf 0
        have yf1 := yf 1
        clear yf
        go_wp2
        (try simp only [Exit.inBlock, Exit.then])
        refine bodyPost_ret (v := .tuple #[.agg #[.slice (some ⟨g, 0, none⟩) d0.c.length vc, .slice vb d0.s.length vd], .bool true]) ?_ rfl ?_
        · rw [results_cell_tmp rfl]; go_simp
        · have hm5 := mid_two7 wr (w.heap.size + 1) (.slice (some ⟨g, 0, none⟩) d0.c.length vc) (.slice vb d0.s.length vd)
          have hlv := HLV.out
          obtain ⟨hMN, hbQ, hbN, hvQ, hvb⟩ := HNUM.out
          have hq1 := HSB.out.1.2.2.2
          have hq2 := HSB.out.2.1.2.2.2
          have hwl := HB_2.out.size
          have h1 := HSB.out.1.mid hm5 (.inr (by omega))
          have h2 := HSB.out.2.1.mid hm5 (.inr (by omega))
          have hB9 := bt HB_2.out HSB.out.2.2.2
          exact ⟨_, rfl, ⟨_, _, M0, rfl, h1.wide (by omega) (Nat.le_refl _) h1.2.2.1, h2.wide hMN (h2.le) (Nat.le_refl _)⟩, hB9.trans (hm5.toBelow (by omega) hB9.size)⟩
    have hlc1 : ¬ lc - 1 = 0 := by omega
    go_wp2_with fail
    go_loopw [8, 9, 10, 35, 42] (fun _ _ _ K _ wr => ∃ k : Nat, k + 1 ≤ ds.length ∧ K = .int .i64 k ∧ SumC v2 wr b Q0 M0 N0 P0 (.slice (some ⟨g, 0, none⟩) d0.c.length vc) (.slice vb d0.s.length vd) (sdK P Q ds k)) (fun _ _ _ K _ _ => ds.length - 1 - (intOf K).toNat)
    case atStart => exact ⟨0, by omega, rfl, SC0.out⟩
    case round =>
      obtain ⟨k, hk, rfl, hsb⟩ := hrel
      by_cases hkn : k + 1 < ds.length
      · generalize wr = wq at *
        obtain ⟨b', off, x, y, d, hbo, hb9, hx, hy, hi, hj, hd⟩ := L_2.out.at (k := k + 1) hkn
        obtain ⟨p1, p2, rfl⟩ := hi.shape
        obtain ⟨r1, r2, rfl⟩ := hj.shape
        simp only [Option.some.injEq, Addr.mk.injEq, and_true] at hbo
        obtain ⟨rfl, rfl⟩ := hbo
        have hx9 : wq.cell? ⟨lb, lo + 2 + k * 2, none⟩ = some (.slice p1 d.c.length p2) := by rw [show lo + 2 + k * 2 = lo + (k + 1) * 2 by omega]; exact (hsb.2.2.2.cell (p := ⟨lb, _, none⟩) hb9).trans hx
        have hy9 : wq.cell? ⟨lb, lo + 2 + k * 2 + 1, none⟩ = some (.slice r1 d.s.length r2) := by rw [show lo + 2 + k * 2 = lo + (k + 1) * 2 by omega]; exact (hsb.2.2.2.cell (p := ⟨lb, _, none⟩) hb9).trans hy
        have hdm : d ∈ ds := List.mem_of_mem_drop (i := k + 1) (by rw [hd]; simp)
        have hdf := (sd_facts E1.out).2.2 d hdm
        obtain ⟨⟨hc1, hc7⟩, hcr, hs7, hsr⟩ := dlB_facts hdf.1
        have hlk := likeD_eq hdf.2
        have hla := likeD_eq (sdK_like E1.out k)
        have hres := sdK_res E1.out (show 0 < P by omega) (show 0 < Q by omega) k
        have hstep : sdK P Q ds (k + 1) = sdStep P Q (sdK P Q ds k) d := sdK_step (by have := congrArg List.head? hd; simpa [List.head?_drop] using this)
        rw [HDD.out] at hlk hla
        generalize hA : sdK P Q ds k = a at *
        obtain ⟨ac, as9⟩ := a
        have HST := Lib.hid hstep
        have HLEN := Lib.hid (show ac.length = d.c.length ∧ as9.length = d.s.length ∧ d0.c.length = ac.length from by have h1 := hlk.1; have h2 := hlk.2; have h3 := hla.1; have h4 := hla.2; dsimp only at h3 h4; omega)
        have HRA := Lib.hid hres
        have HRC := Lib.hid hcr
        have HRS := Lib.hid hsr
        have HCI := Lib.hid hi
        have HSI := Lib.hid hj
        have hal := ba wq (.cells #[.slice p1 d.c.length p2, .slice r1 d.s.length r2] 42)
        have hM0 : M0 ≤ wq.heap.size := hsb.1.le
        have SCx := Lib.hid (hsb.below hal)
        have DX := Lib.hid (v2_at wq wq.heap.size rfl (.slice p1 d.c.length p2) (.slice r1 d.s.length r2) 42)
        clear hA hstep hlk hla hres hcr hsr hi hj hx hy hdf hd hdm hsb hal SC0
        go_wp2_with fail
        go_loopw [9, 10, 42] (fun _ _ J wr => ∃ j : Nat, j ≤ d.c.length ∧ J = .int .i64 j ∧ SumC v2 wr b Q0 M0 N0 P0 (.slice (some ⟨g, 0, none⟩) d0.c.length vc) (.slice vb d0.s.length vd) ⟨over (prdL P ac d.c) ac j, as9⟩ ∧ VD2 wr wq.heap.size (.slice p1 d.c.length p2) (.slice r1 d.s.length r2)) (fun _ _ J _ => d.c.length - (intOf J).toNat)
        case atStart => exact ⟨0, Nat.zero_le _, rfl, by rw [over_zero]; exact SCx.out, DX.out⟩
        case round =>
          obtain ⟨j, hj9, rfl, hsc, hdx⟩ := hrel
          obtain ⟨hMN, hbQ, hbN, hvQ, hvb⟩ := HNUM.out
          by_cases hjn : j < d.c.length
          · obtain ⟨cb, co, cv, rfl, hcb, hcx, hcd⟩ := (show IsInts wr p1 d.c from inI_ints (HCI.out.below hsc.2.2.2)).at (k := j) hjn
            have hja : j < ac.length := by have := HLEN.out; omega
            have hj0 : j < d0.c.length := by have := HLEN.out; omega
            have hpl : (prdL P ac d.c).length = ac.length := prdL_length _ _ _
            obtain ⟨hrow, hfz⟩ := owI_at hsc.1 (j := j) (z := ac[j]) ((over_at (by rw [hpl]; omega)).trans (List.getElem?_eq_getElem hja))
            obtain ⟨av0, av1⟩ := HRA.out.1 ac[j] (List.getElem_mem hja)
            obtain ⟨cv0, cv1⟩ := HRC.out cv (mem_drop hcd)
            have hgv : d.c[j] = cv := (head_of_drop hcd).2
            have HG := Lib.hid (show ∀ h : j < (prdL P ac d.c).length, (prdL P ac d.c)[j] = ac[j] * cv % P from fun h => by rw [prdL_get P ac d.c j hja hjn h, hgv])
            have HSC := Lib.hid (SumC.store hsc HG.out (by rw [hpl]; exact hja) hpl hMN hbQ hvQ)
            have hgM := (owI_blk hsc.1).2
            have HDX := Lib.hid (hdx.mid (mid_cell wr g j (.int .i64 (ac[j] * cv % P))) (.inr (by omega)))
            obtain ⟨gG0, gG1, gG2⟩ := G_2.out.below hsc.2.2.2
            obtain ⟨u0, u1, _⟩ := hsc.2.2.1
            generalize hav : ac[j] = av at *
            obtain ⟨q0, q1⟩ := prod_bd (a := av) (z := cv) av0 (by omega) cv0 (by omega)
            have hx1 : IntKind.i64.wrap (av * cv) = av * cv := by rw [IntKind.wrap_i64]; omega
            have hx2 : (av * cv).tmod P = av * cv % P := Int.tmod_eq_emod_of_nonneg q0
            have hP0 : P ≠ 0 := by omega
            have hm0 : 0 ≤ av * cv % P := Int.emod_nonneg _ hP0
            have hm1 : av * cv % P < P := Int.emod_lt_of_pos _ (by omega)
            have hx3 : IntKind.i64.wrap (av * cv % P) = av * cv % P := by rw [IntKind.wrap_i64]; omega
            clear hsc hdx hcd hgv hav hpl hja hMN hbQ hbN hvQ hvb
            go_wp2
            go_region
            all_goals go_wp2
            go_roundw
            case rel => exact ⟨j + 1, by omega, by go_num, HSC.out.below (Below.refl _ _).drew, HDX.out.below (Below.refl _ _).drew⟩
            case measure => simp only [intOf]; omega
          · obtain rfl : j = d.c.length := by omega
            have hov : over (prdL P ac d.c) ac d.c.length = prdL P ac d.c := over_all _ _ (by rw [prdL_length]; have := HLEN.out; omega) (by have := HLEN.out; omega)
            rw [hov] at hsc
            have HSC := Lib.hid hsc
            have HI9 := Lib.hid (HSI.out.below hsc.2.2.2)
            obtain ⟨gG0, gG1, gG2⟩ := G_2.out.below hsc.2.2.2
            obtain ⟨u0, u1, _⟩ := hsc.2.2.1
            obtain ⟨e0, e1, _⟩ := hdx
            clear hsc hov hMN hbQ hbN hvQ hvb
            go_wp2_with fail
            refine (addMul_own Q (by omega) hQ3 HRA.out.2 HRS.out HLEN.out.2.1 (show as9.length ≤ 1000000 by have := HLEN.out; omega) HSC.out.2.1 HI9.out (by have := HNUM.out; have := HSC.out.1.2.2.2; omega)).mono ?_
            rintro e w2 ⟨⟨xv, rfl⟩, ho, hm⟩
            have HS2 := Lib.hid (SumC.add HSC.out ho hm HNUM.out.1 HNUM.out.2.2.1 HNUM.out.2.2.2.1)
            clear ho hm gG0 gG1 gG2 u0 u1 e0 e1
            go_wp2
            go_roundw
            case rel => exact ⟨k + 1, by omega, by go_num, by rw [HST.out]; exact HS2.out⟩
            case measure => simp only [intOf]; omega
      · obtain rfl : k = ds.length - 1 := by omega
        have hkk : sdK P Q ds (ds.length - 1) = sdL P Q ds := sdK_all (by omega)
        rw [hkk] at hsb
        have HSB := Lib.hid hsb
        have HZ4 := Lib.hid (Z_2.out.below hsb.2.2.2)
        have HLV := Lib.hid Z_2.out.lt
        clear hkk hsb SC0
        obtain ⟨x0, x1, _⟩ := HSB.out.2.2.1
        obtain ⟨y0, y1, yf⟩ := HZ4.out
        have yf0 := yf 0
        have yf1 := yf 1
        clear yf
        go_wp2
        (try simp only [Exit.inBlock, Exit.then])
        refine bodyPost_ret (v := .tuple #[.agg #[.slice (some ⟨g, 0, none⟩) d0.c.length vc, .slice vb d0.s.length vd], .bool true]) ?_ rfl ?_
        · rw [results_cell_tmp rfl]; go_simp
        · have hm5 := mid_two7 wr (w.heap.size + 1) (.slice (some ⟨g, 0, none⟩) d0.c.length vc) (.slice vb d0.s.length vd)
          have hlv := HLV.out
          obtain ⟨hMN, hbQ, hbN, hvQ, hvb⟩ := HNUM.out
          have hq1 := HSB.out.1.2.2.2
          have hq2 := HSB.out.2.1.2.2.2
          have hwl := HB_2.out.size
          have h1 := HSB.out.1.mid hm5 (.inr (by omega))
          have h2 := HSB.out.2.1.mid hm5 (.inr (by omega))
          have hB9 := bt HB_2.out HSB.out.2.2.2
          exact ⟨_, rfl, ⟨_, _, M0, rfl, h1.wide (by omega) (Nat.le_refl _) h1.2.2.1, h2.wide hMN (h2.le) (Nat.le_refl _)⟩, hB9.trans (hm5.toBelow (by omega) hB9.size)⟩

end Go.Proofs.Ytchlnkdlnfjijaa

/- Chapter 11: SumDealings of the reference. -/
namespace Go.Proofs.Ytchlnkdlnfjijaa
open Go.RowKit
set_option linter.unusedVariables false
set_option linter.unusedSimpArgs false

theorem l1OwnD_any (ad : Option Addr) (n cap : Nat) (zs : List Int) (hn : zs.length = n) (hl : n ≤ 1000000000) (hnil : ad = none → cap = 0) (w : World) (hz : IsInts w ad zs) :
    Calls Try.prog 123 #[.slice ad n cap] w (OwnI9 w zs) := by
  refine (l1Own_any ad n cap zs hn hl hnil w hz).mono ?_
  rintro e w' ⟨va, vc, rfl, ho, hb⟩
  exact ⟨_, rfl, owI_mk ho hb.size, hb⟩
theorem SumC.store2 {v w : World} {b Q M N P g n cap k : Nat} {x : Value} {cs xs ys : List Int} {z : Int} (h : SumC v w b Q M N P x (.slice (some ⟨g, 0, none⟩) n cap) ⟨cs, over xs ys k⟩) (hx : ∀ h : k < xs.length, xs[k] = z) (hk : k < xs.length) (hl : xs.length = ys.length)
    (hMN : M ≤ N) (hb : b < N ∨ P ≤ b) (hv : v.heap.size ≤ Q) : SumC v (w.setCell ⟨g, k, none⟩ (.int .i64 z)) b Q M N P x (.slice (some ⟨g, 0, none⟩) n cap) ⟨cs, over xs ys (k + 1)⟩ := by
  obtain ⟨h1, h2, h3, h4⟩ := h
  have q1 := h1.2.2.2
  obtain ⟨l1, l2⟩ := owI_blk h2
  have hm := mid_cell w g k (.int .i64 z)
  exact ⟨h1.mid hm (.inl (by omega)), owI_store h2 hx hk hl, h3.mid hm (by omega), h4.setCell (p := ⟨g, k, none⟩) (by show v.heap.size ≤ g; omega) _⟩
theorem axpy1_at {Q : Int} {s g : List Int} {j : Nat} {z : Int} (hs : j < s.length) (hg : j < g.length) (hz : g[j] = z) : ∀ h : j < (axpy Q s 1 g).length, (axpy Q s 1 g)[j] = (s[j] + z) % Q := fun h => by rw [axpy1_get Q s g j hs hg h, hz]
theorem sdV_bound (P Q G : Int) (ds : List DlD) : (sdV P Q G ds).n ≤ 14 := by
  cases h : sdB P Q G ds
  · rw [sd_off h]; simp [nilD, DlD.n]
  · rw [sd_on h, ← sdK_all (P := P) (Q := Q) (k := ds.length) (by omega)]
    have hl := likeD_eq (sdK_like h ds.length)
    obtain ⟨_, ⟨h1, _⟩, h3⟩ := sd_facts h
    cases ds with
    | nil => simp at h1
    | cons d ds =>
      obtain ⟨⟨_, c7⟩, _, s7, _⟩ := dlB_facts (h3 d (by simp)).1
      unfold DlD.n
      simp only [List.headD_cons] at hl
      omega
theorem mul_two9 {P x y : Int} (h0 : 0 ≤ x) (h1 : x < P) : mulFrom P 1 [x, y] = x * y % P := mul_two h0 h1

set_option maxRecDepth 100000 in
set_option maxHeartbeats 3200000 in
theorem sSum_any (P Q G : Int) {B : Nat} {v : Value} {ds : List DlD} (hl : ds.length ≤ 1048576) (hr : nDs ds ≤ 1048576) {w : World} (hz : InDs B w v ds) (hB : sdB P Q G ds = true) :
    Calls Try.prog 85 #[gv P Q G, v] w (MadeD w (sdL P Q ds)) := by
  obtain ⟨la, lc, rfl⟩ := hz.shape
  have G_0 := Lib.hid ((gr_atS w w.heap.size rfl P Q G 24).below (ba (w.alloc (.cells #[.int .i64 P, .int .i64 Q, .int .i64 G] 24)) (.cells #[.slice none 0 0, .slice none 0 0] 42)))
  have Z_0 := Lib.hid (v2_at (w.alloc (.cells #[.int .i64 P, .int .i64 Q, .int .i64 G] 24)) (w.heap.size + 1) (by simp) (.slice none 0 0) (.slice none 0 0) 42)
  have HB_0 := Lib.hid (show Below w.heap.size w ((w.alloc (.cells #[.int .i64 P, .int .i64 Q, .int .i64 G] 24)).alloc (.cells #[.slice none 0 0, .slice none 0 0] 42)) from bt (ba _ _) (ba _ _))
  have L_0 := Lib.hid (hz.below HB_0.out)
  have h10 : 1 ≤ ds.length := (sd_facts hB).2.1.1
  have E1 := Lib.hid hB
  clear hB
  obtain ⟨lb, lo, x, y, d0, rfl, hlb, hx, hy, hi, hj, hd⟩ := L_0.out.at (k := 0) (by omega)
  obtain ⟨a1, a2, rfl⟩ := hi.shape
  obtain ⟨b1, b2, rfl⟩ := hj.shape
  have hd0 : ds.headD nilD = d0 := by rw [show ds = d0 :: ds.drop 1 from hd]; rfl
  have E_0 := Lib.hid (show DC _ lb lo (.slice a1 d0.c.length a2) (.slice b1 d0.s.length b2) from ⟨by simpa using hx, by simpa using hy⟩)
  have I_0 := Lib.hid (And.intro hi hj)
  have HD9 := Lib.hid hd
  have B0_0 := Lib.hid (show BZ ((w.alloc (.cells #[.int .i64 P, .int .i64 Q, .int .i64 G] 24)).alloc (.cells #[.slice none 0 0, .slice none 0 0] 42)) ((w.alloc (.cells #[.int .i64 P, .int .i64 Q, .int .i64 G] 24)).alloc (.cells #[.slice none 0 0, .slice none 0 0] 42)) from Below.refl _ _)
  clear hx hy hi hj hd hz
  obtain ⟨hgd, hmo2, hq7⟩ := trB_of (sd_facts E1.out).1
  have hbg := goodB_true.1 hgd
  have hP2 : 2 ≤ P := by omega
  have hP3 : P ≤ 2000000000 := by omega
  have hQ3 : Q ≤ 2000000000 := by omega
  clear hbg
  have IC := Lib.hid I_0.out.1
  have IS := Lib.hid I_0.out.2
  have hdn : d0.c.length + d0.s.length ≤ 1048576 := by have := nDs_drop ds 0; rw [HD9.out, nDs_cons] at this; unfold DlD.n at this; omega
  have DFC := Lib.hid (show 1 ≤ d0.c.length ∧ 1 ≤ d0.s.length from (fun h => by have h1 := (dlB_facts h).1.1; have h2 := (dlB_true.1 h).2.1; omega) ((sd_facts E1.out).2.2 d0 (by rw [← List.drop_zero (l := ds), HD9.out]; simp)).1)
  have hd7 : ds.length ≤ 7 := (sd_facts E1.out).2.1.2
  have hpos : 0 < ds.length := by omega
  obtain ⟨v0, hv0⟩ : ∃ W, ((w.alloc (.cells #[.int .i64 P, .int .i64 Q, .int .i64 G] 24)).alloc (.cells #[.slice none 0 0, .slice none 0 0] 42)) = W := ⟨_, rfl⟩
  rw [hv0] at G_0 Z_0 HB_0 L_0 E_0
  have CC_0 := Lib.hid (show LZ v0 a1 d0.c from by rw [← hv0]; exact inI_ints IC.out)
  have CS_0 := Lib.hid (show LZ v0 b1 d0.s from by rw [← hv0]; exact inI_ints IS.out)
  have LE := Lib.hid (World.block_lt_of_cell? _ _ E_0.out.1)
  have LO_0 := Lib.hid (show BZ v0 v0 from Below.refl _ _)
  obtain ⟨gG0, gG1, gG2⟩ := G_0.out
  obtain ⟨cE0, cE1⟩ := E_0.out
  go_enter Try.func85, Try.ntmps85
  go_upto_region 1 with fail
  clear gG0 gG1 gG2 cE0 cE1 hv0
  go_cut [5] (fun s1 wx => ∃ (b : Nat) (va : Option Addr) (vc : Nat) (vb : Option Addr) (vd : Nat), s1 = .pointer (some ⟨b, 0, none⟩) ∧ SumB v0 wx b (.slice va d0.c.length vc) (.slice vb d0.s.length vd) d0)
  case first =>
    have hbd : Below v0.heap.size v0 v0.drew := (Below.refl _ v0).drew
    have HB_s := Lib.hid (bt HB_0.out hbd)
    have E_s := Lib.hid (E_0.out.below hbd)
    have CC_s := Lib.hid (CC_0.out.below hbd)
    have CS_s := Lib.hid (CS_0.out.below hbd)
    have LO_s := Lib.hid (LO_0.out.below hbd)
    clear hbd
    refine wp_region_held_drew (S := (fun w' => w'.cell? ⟨lb, lo, none⟩ = some (.slice a1 d0.c.length a2) ∧ w'.cell? ⟨lb, lo + 1, none⟩ = some (.slice b1 d0.s.length b2))) (by kernel_rfl) (show _ from ⟨E_0.out.1, E_0.out.2⟩) (fun hHeld => ?_)
    generalize hW0 : v0.drew = Ws at *
    clear hW0
    refine wpAnyH_take (i := 0) (v := ?_) rfl (by kernel_rfl) (by kernel_rfl) (by kernel_rfl) (fun _ _ _ h => h) (Or.inl ⟨by kernel_rfl, ?_⟩) (by assumption) ?_
    rotate_left 1
    · intro w9 hSw
      try dsimp only at hSw
      go_simp
      try with_reducible rfl
    try simp only [Act.put, List.getElem_toArray, List.getElem_cons_succ, List.getElem_cons_zero, List.setIfInBounds_toArray, List.set_cons_zero, List.set_cons_succ]
    refine wpAnyH_take (i := 1) (v := ?_) rfl (by kernel_rfl) (by kernel_rfl) (by kernel_rfl) (fun _ _ _ h => h) (Or.inl ⟨by kernel_rfl, ?_⟩) (by assumption) ?_
    rotate_left 1
    · intro w9 hSw
      try dsimp only at hSw
      go_simp
      try with_reducible rfl
    try simp only [Act.put, List.getElem_toArray, List.getElem_cons_succ, List.getElem_cons_zero, List.setIfInBounds_toArray, List.set_cons_zero, List.set_cons_succ]
    refine wpAnyH_take (i := 2) (v := ?_) rfl (by kernel_rfl) (by kernel_rfl) (by kernel_rfl) (fun _ _ _ h => h) (Or.inl ⟨by kernel_rfl, ?_⟩) (by assumption) ?_
    rotate_left 1
    · intro w9 hSw
      try dsimp only at hSw
      go_simp
      try with_reducible rfl
    try simp only [Act.put, List.getElem_toArray, List.getElem_cons_succ, List.getElem_cons_zero, List.setIfInBounds_toArray, List.set_cons_zero, List.set_cons_succ]
    refine wpAnyH_take (i := 3) (v := ?_) rfl (by kernel_rfl) (by kernel_rfl) (by kernel_rfl) (fun _ _ _ h => h) (Or.inl ⟨by kernel_rfl, ?_⟩) (by assumption) ?_
    rotate_left 1
    · intro w9 hSw
      try dsimp only at hSw
      go_simp
      try with_reducible rfl
    try simp only [Act.put, List.getElem_toArray, List.getElem_cons_succ, List.getElem_cons_zero, List.setIfInBounds_toArray, List.set_cons_zero, List.set_cons_succ]
    refine wpAnyH_take (i := 5) (v := ?_) rfl (by kernel_rfl) (by kernel_rfl) (by kernel_rfl) (fun _ _ _ h => h) (Or.inl ⟨by kernel_rfl, ?_⟩) (by assumption) ?_
    rotate_left 1
    · intro w9 hSw
      try dsimp only at hSw
      go_simp
      try with_reducible rfl
    try simp only [Act.put, List.getElem_toArray, List.getElem_cons_succ, List.getElem_cons_zero, List.setIfInBounds_toArray, List.set_cons_zero, List.set_cons_succ]
    refine wpAnyH_take (i := 6) (v := ?_) rfl (by kernel_rfl) (by kernel_rfl) (by kernel_rfl) (fun _ _ _ h => h) (Or.inl ⟨by kernel_rfl, ?_⟩) (by assumption) ?_
    rotate_left 1
    · intro w9 hSw
      try dsimp only at hSw
      go_simp
      try with_reducible rfl
    try simp only [Act.put, List.getElem_toArray, List.getElem_cons_succ, List.getElem_cons_zero, List.setIfInBounds_toArray, List.set_cons_zero, List.set_cons_succ]
    refine wpAnyH_take (i := 7) (v := ?_) rfl (by kernel_rfl) (by kernel_rfl) (by kernel_rfl) (fun _ _ _ h => h) (Or.inl ⟨by kernel_rfl, ?_⟩) (by assumption) ?_
    rotate_left 1
    · intro w9 hSw
      try dsimp only at hSw
      go_simp
      try with_reducible rfl
    try simp only [Act.put, List.getElem_toArray, List.getElem_cons_succ, List.getElem_cons_zero, List.setIfInBounds_toArray, List.set_cons_zero, List.set_cons_succ]
    refine wpAnyH_take (i := 8) (v := ?_) rfl (by kernel_rfl) (by kernel_rfl) (by kernel_rfl) (fun _ _ _ h => h) (Or.inl ⟨by kernel_rfl, ?_⟩) (by assumption) ?_
    rotate_left 1
    · intro w9 hSw
      try dsimp only at hSw
      go_simp
      try with_reducible rfl
    try simp only [Act.put, List.getElem_toArray, List.getElem_cons_succ, List.getElem_cons_zero, List.setIfInBounds_toArray, List.set_cons_zero, List.set_cons_succ]
    refine wpAnyH_ready (rs := [4, 11]) (by kernel_rfl) (by simp) ?_
    refine AllReadyH.cons rfl (fun K hK => ?_) (AllReadyH.cons rfl (fun K hK => ?_) (AllReadyH.nil))
    · go_simp
      (first | have LBC := Lib.hid Z2_s.out.lt | skip)
      have LC := Lib.hid LO_s.out.size
      go_at_call 123
      refine (l1OwnD_any a1 d0.c.length a2 d0.c rfl (by omega) (inI_nilc IC.out) _ (show IsInts _ _ _ from CC_s.out)).mono ?_
      rintro e' Wse ⟨vx, rfl, ho, hb⟩
      obtain ⟨va, vc, rfl⟩ := own_shape ho.1
      have HB_se := Lib.hid (bt HB_s.out hb)
      have E_se := Lib.hid (E_s.out.below hb)
      have CC_se := Lib.hid (CC_s.out.below hb)
      have CS_se := Lib.hid (CS_s.out.below hb)
      have LO_se := Lib.hid (LO_s.out.below hb)
      have OC_se := Lib.hid ho
      clear ho
      clear hb
      go_wp2_with fail
      refine hK.out _ _ (show _ from ⟨E_se.out.1, E_se.out.2⟩) (fun hHeld => ?_)
      clear hK K
      try simp only [Act.put, List.getElem_toArray, List.getElem_cons_succ, List.getElem_cons_zero, List.setIfInBounds_toArray, List.set_cons_zero, List.set_cons_succ]
      refine wpAnyH_ready (rs := [9, 11]) (by kernel_rfl) (by simp) ?_
      refine AllReadyH.cons rfl (fun K hK => ?_) (AllReadyH.cons rfl (fun K hK => ?_) (AllReadyH.nil))
      · go_simp
        (first | have LBS := Lib.hid Z2_se.out.lt | skip)
        have LS := Lib.hid LO_se.out.size
        have LCS := Lib.hid OC_se.out.toIn.le
        go_at_call 123
        refine (l1OwnD_any b1 d0.s.length b2 d0.s rfl (by omega) (inI_nilc IS.out) _ (show IsInts _ _ _ from CS_se.out)).mono ?_
        rintro e' Wsej ⟨vx, rfl, ho, hb⟩
        obtain ⟨vb, vd, rfl⟩ := own_shape ho.1
        have HB_sej := Lib.hid (bt HB_se.out hb)
        have E_sej := Lib.hid (E_se.out.below hb)
        have CC_sej := Lib.hid (CC_se.out.below hb)
        have CS_sej := Lib.hid (CS_se.out.below hb)
        have LO_sej := Lib.hid (LO_se.out.below hb)
        have OC_sej := Lib.hid (OC_se.out.below hb)
        have OS_sej := Lib.hid ho
        clear ho
        clear hb
        go_wp2_with fail
        refine hK.out _ _ (show _ from ⟨E_sej.out.1, E_sej.out.2⟩) (fun hHeld => ?_)
        clear hK K
        try simp only [Act.put, List.getElem_toArray, List.getElem_cons_succ, List.getElem_cons_zero, List.setIfInBounds_toArray, List.set_cons_zero, List.set_cons_succ]
        refine wpAnyH_take (i := 10) (v := ?_) rfl (by kernel_rfl) (by kernel_rfl) (by kernel_rfl) (fun _ _ _ h => h) (Or.inl ⟨by kernel_rfl, ?_⟩) (by assumption) ?_
        rotate_left 1
        · intro w9 hSw
          try dsimp only at hSw
          go_simp
          try with_reducible rfl
        try simp only [Act.put, List.getElem_toArray, List.getElem_cons_succ, List.getElem_cons_zero, List.setIfInBounds_toArray, List.set_cons_zero, List.set_cons_succ]
        refine wpAnyH_ready (rs := [11]) (by kernel_rfl) (by simp) ?_
        refine AllReadyH.cons rfl (fun K hK => ?_) (AllReadyH.nil)
        go_simp
        have hb := ba Wsej (.cells #[.slice none 0 0, .slice none 0 0] 42)
        have HB_sejl := Lib.hid (bt HB_sej.out hb)
        have E_sejl := Lib.hid (E_sej.out.below hb)
        have CC_sejl := Lib.hid (CC_sej.out.below hb)
        have CS_sejl := Lib.hid (CS_sej.out.below hb)
        have LO_sejl := Lib.hid (LO_sej.out.below hb)
        have OC_sejl := Lib.hid (OC_sej.out.below hb)
        have OS_sejl := Lib.hid (OS_sej.out.below hb)
        have Z2_sejl := Lib.hid (show VD2 (Wsej.alloc (.cells #[.slice none 0 0, .slice none 0 0] 42)) Wsej.heap.size (.slice none 0 0) (.slice none 0 0) from v2_at Wsej Wsej.heap.size rfl _ _ 42)
        have LB := Lib.hid (show v0.heap.size ≤ Wsej.heap.size from LO_sej.out.size)
        (first | have LBD := Lib.hid OC_sej.out.toIn.le | skip)
        (first | have LBT := Lib.hid OS_sej.out.toIn.le | skip)
        clear hb
        refine hK.out _ _ (show _ from ⟨E_sejl.out.1, E_sejl.out.2⟩) (fun hHeld => ?_)
        clear hK K
        try simp only [Act.put, List.getElem_toArray, List.getElem_cons_succ, List.getElem_cons_zero, List.setIfInBounds_toArray, List.set_cons_zero, List.set_cons_succ]
        generalize hW9 : Wsej.alloc (.cells #[.slice none 0 0, .slice none 0 0] 42) = Wsejl at *
        clear hW9
        have BX := Lib.hid (show SumB v0 _ (Wsej.heap.size) (.slice va d0.c.length vc) (.slice vb d0.s.length vd) d0 from sumB_mk OC_sejl.out OS_sejl.out LCS.out Z2_sejl.out (by first | exact .inl LBC.out | exact .inr LBD.out) (by first | exact .inl LBS.out | exact .inr LBT.out) LC.out LB.out LO_sejl.out)
        refine wpAnyH_ready (rs := [12]) (by kernel_rfl) (by simp) ?_
        refine AllReadyH.cons rfl (fun K hK => ?_) AllReadyH.nil
        obtain ⟨y0, y1, yf⟩ := Z2_sejl.out
        have yf0 := yf 0
        have yf1 := yf 1
        clear yf
        go_simp
        have E_y := Lib.hid (E_sejl.out.below9 (Wsej.heap.size) (.slice va d0.c.length vc) (.slice vb d0.s.length vd) LE.out LB.out)
        refine hK.out _ _ (show _ from ⟨E_y.out.1, E_y.out.2⟩) (fun hHeld => ?_)
        clear hK K
        try simp only [Act.put, List.getElem_toArray, List.getElem_cons_succ, List.getElem_cons_zero, List.setIfInBounds_toArray, List.set_cons_zero, List.set_cons_succ]
        refine wpAnyH_done (by kernel_rfl) ?_ _
        go_wp2_with fail
        go_meet
        exact ⟨_, _, _, _, _, rfl, BX.out⟩
      · go_simp
        have hb := ba Wse (.cells #[.slice none 0 0, .slice none 0 0] 42)
        have HB_sel := Lib.hid (bt HB_se.out hb)
        have E_sel := Lib.hid (E_se.out.below hb)
        have CC_sel := Lib.hid (CC_se.out.below hb)
        have CS_sel := Lib.hid (CS_se.out.below hb)
        have LO_sel := Lib.hid (LO_se.out.below hb)
        have OC_sel := Lib.hid (OC_se.out.below hb)
        have Z2_sel := Lib.hid (show VD2 (Wse.alloc (.cells #[.slice none 0 0, .slice none 0 0] 42)) Wse.heap.size (.slice none 0 0) (.slice none 0 0) from v2_at Wse Wse.heap.size rfl _ _ 42)
        have LB := Lib.hid (show v0.heap.size ≤ Wse.heap.size from LO_se.out.size)
        (first | have LBD := Lib.hid OC_se.out.toIn.le | skip)
        (first | have LBT := Lib.hid OS_se.out.toIn.le | skip)
        clear hb
        refine hK.out _ _ (show _ from ⟨E_sel.out.1, E_sel.out.2⟩) (fun hHeld => ?_)
        clear hK K
        try simp only [Act.put, List.getElem_toArray, List.getElem_cons_succ, List.getElem_cons_zero, List.setIfInBounds_toArray, List.set_cons_zero, List.set_cons_succ]
        generalize hW9 : Wse.alloc (.cells #[.slice none 0 0, .slice none 0 0] 42) = Wsel at *
        clear hW9
        refine wpAnyH_ready (rs := [9]) (by kernel_rfl) (by simp) ?_
        refine AllReadyH.cons rfl (fun K hK => ?_) (AllReadyH.nil)
        go_simp
        (first | have LBS := Lib.hid Z2_sel.out.lt | skip)
        have LS := Lib.hid LO_sel.out.size
        have LCS := Lib.hid OC_sel.out.toIn.le
        go_at_call 123
        refine (l1OwnD_any b1 d0.s.length b2 d0.s rfl (by omega) (inI_nilc IS.out) _ (show IsInts _ _ _ from CS_sel.out)).mono ?_
        rintro e' Wselj ⟨vx, rfl, ho, hb⟩
        obtain ⟨vb, vd, rfl⟩ := own_shape ho.1
        have HB_selj := Lib.hid (bt HB_sel.out hb)
        have E_selj := Lib.hid (E_sel.out.below hb)
        have CC_selj := Lib.hid (CC_sel.out.below hb)
        have CS_selj := Lib.hid (CS_sel.out.below hb)
        have LO_selj := Lib.hid (LO_sel.out.below hb)
        have OC_selj := Lib.hid (OC_sel.out.below hb)
        have Z2_selj := Lib.hid (Z2_sel.out.below hb)
        have OS_selj := Lib.hid ho
        clear ho
        clear hb
        go_wp2_with fail
        refine hK.out _ _ (show _ from ⟨E_selj.out.1, E_selj.out.2⟩) (fun hHeld => ?_)
        clear hK K
        try simp only [Act.put, List.getElem_toArray, List.getElem_cons_succ, List.getElem_cons_zero, List.setIfInBounds_toArray, List.set_cons_zero, List.set_cons_succ]
        refine wpAnyH_take (i := 10) (v := ?_) rfl (by kernel_rfl) (by kernel_rfl) (by kernel_rfl) (fun _ _ _ h => h) (Or.inl ⟨by kernel_rfl, ?_⟩) (by assumption) ?_
        rotate_left 1
        · intro w9 hSw
          try dsimp only at hSw
          go_simp
          try with_reducible rfl
        try simp only [Act.put, List.getElem_toArray, List.getElem_cons_succ, List.getElem_cons_zero, List.setIfInBounds_toArray, List.set_cons_zero, List.set_cons_succ]
        have BX := Lib.hid (show SumB v0 _ (Wse.heap.size) (.slice va d0.c.length vc) (.slice vb d0.s.length vd) d0 from sumB_mk OC_selj.out OS_selj.out LCS.out Z2_selj.out (by first | exact .inl LBC.out | exact .inr LBD.out) (by first | exact .inl LBS.out | exact .inr LBT.out) LC.out LB.out LO_selj.out)
        refine wpAnyH_ready (rs := [12]) (by kernel_rfl) (by simp) ?_
        refine AllReadyH.cons rfl (fun K hK => ?_) AllReadyH.nil
        obtain ⟨y0, y1, yf⟩ := Z2_selj.out
        have yf0 := yf 0
        have yf1 := yf 1
        clear yf
        go_simp
        have E_y := Lib.hid (E_selj.out.below9 (Wse.heap.size) (.slice va d0.c.length vc) (.slice vb d0.s.length vd) LE.out LB.out)
        refine hK.out _ _ (show _ from ⟨E_y.out.1, E_y.out.2⟩) (fun hHeld => ?_)
        clear hK K
        try simp only [Act.put, List.getElem_toArray, List.getElem_cons_succ, List.getElem_cons_zero, List.setIfInBounds_toArray, List.set_cons_zero, List.set_cons_succ]
        refine wpAnyH_done (by kernel_rfl) ?_ _
        go_wp2_with fail
        go_meet
        exact ⟨_, _, _, _, _, rfl, BX.out⟩
    · go_simp
      have hb := ba Ws (.cells #[.slice none 0 0, .slice none 0 0] 42)
      have HB_sl := Lib.hid (bt HB_s.out hb)
      have E_sl := Lib.hid (E_s.out.below hb)
      have CC_sl := Lib.hid (CC_s.out.below hb)
      have CS_sl := Lib.hid (CS_s.out.below hb)
      have LO_sl := Lib.hid (LO_s.out.below hb)
      have Z2_sl := Lib.hid (show VD2 (Ws.alloc (.cells #[.slice none 0 0, .slice none 0 0] 42)) Ws.heap.size (.slice none 0 0) (.slice none 0 0) from v2_at Ws Ws.heap.size rfl _ _ 42)
      have LB := Lib.hid (show v0.heap.size ≤ Ws.heap.size from LO_s.out.size)
      (first | have LBD := Lib.hid OC_s.out.toIn.le | skip)
      (first | have LBT := Lib.hid OS_s.out.toIn.le | skip)
      clear hb
      refine hK.out _ _ (show _ from ⟨E_sl.out.1, E_sl.out.2⟩) (fun hHeld => ?_)
      clear hK K
      try simp only [Act.put, List.getElem_toArray, List.getElem_cons_succ, List.getElem_cons_zero, List.setIfInBounds_toArray, List.set_cons_zero, List.set_cons_succ]
      generalize hW9 : Ws.alloc (.cells #[.slice none 0 0, .slice none 0 0] 42) = Wsl at *
      clear hW9
      refine wpAnyH_ready (rs := [4]) (by kernel_rfl) (by simp) ?_
      refine AllReadyH.cons rfl (fun K hK => ?_) (AllReadyH.nil)
      go_simp
      (first | have LBC := Lib.hid Z2_sl.out.lt | skip)
      have LC := Lib.hid LO_sl.out.size
      go_at_call 123
      refine (l1OwnD_any a1 d0.c.length a2 d0.c rfl (by omega) (inI_nilc IC.out) _ (show IsInts _ _ _ from CC_sl.out)).mono ?_
      rintro e' Wsle ⟨vx, rfl, ho, hb⟩
      obtain ⟨va, vc, rfl⟩ := own_shape ho.1
      have HB_sle := Lib.hid (bt HB_sl.out hb)
      have E_sle := Lib.hid (E_sl.out.below hb)
      have CC_sle := Lib.hid (CC_sl.out.below hb)
      have CS_sle := Lib.hid (CS_sl.out.below hb)
      have LO_sle := Lib.hid (LO_sl.out.below hb)
      have Z2_sle := Lib.hid (Z2_sl.out.below hb)
      have OC_sle := Lib.hid ho
      clear ho
      clear hb
      go_wp2_with fail
      refine hK.out _ _ (show _ from ⟨E_sle.out.1, E_sle.out.2⟩) (fun hHeld => ?_)
      clear hK K
      try simp only [Act.put, List.getElem_toArray, List.getElem_cons_succ, List.getElem_cons_zero, List.setIfInBounds_toArray, List.set_cons_zero, List.set_cons_succ]
      refine wpAnyH_ready (rs := [9]) (by kernel_rfl) (by simp) ?_
      refine AllReadyH.cons rfl (fun K hK => ?_) (AllReadyH.nil)
      go_simp
      (first | have LBS := Lib.hid Z2_sle.out.lt | skip)
      have LS := Lib.hid LO_sle.out.size
      have LCS := Lib.hid OC_sle.out.toIn.le
      go_at_call 123
      refine (l1OwnD_any b1 d0.s.length b2 d0.s rfl (by omega) (inI_nilc IS.out) _ (show IsInts _ _ _ from CS_sle.out)).mono ?_
      rintro e' Wslej ⟨vx, rfl, ho, hb⟩
      obtain ⟨vb, vd, rfl⟩ := own_shape ho.1
      have HB_slej := Lib.hid (bt HB_sle.out hb)
      have E_slej := Lib.hid (E_sle.out.below hb)
      have CC_slej := Lib.hid (CC_sle.out.below hb)
      have CS_slej := Lib.hid (CS_sle.out.below hb)
      have LO_slej := Lib.hid (LO_sle.out.below hb)
      have Z2_slej := Lib.hid (Z2_sle.out.below hb)
      have OC_slej := Lib.hid (OC_sle.out.below hb)
      have OS_slej := Lib.hid ho
      clear ho
      clear hb
      go_wp2_with fail
      refine hK.out _ _ (show _ from ⟨E_slej.out.1, E_slej.out.2⟩) (fun hHeld => ?_)
      clear hK K
      try simp only [Act.put, List.getElem_toArray, List.getElem_cons_succ, List.getElem_cons_zero, List.setIfInBounds_toArray, List.set_cons_zero, List.set_cons_succ]
      refine wpAnyH_take (i := 10) (v := ?_) rfl (by kernel_rfl) (by kernel_rfl) (by kernel_rfl) (fun _ _ _ h => h) (Or.inl ⟨by kernel_rfl, ?_⟩) (by assumption) ?_
      rotate_left 1
      · intro w9 hSw
        try dsimp only at hSw
        go_simp
        try with_reducible rfl
      try simp only [Act.put, List.getElem_toArray, List.getElem_cons_succ, List.getElem_cons_zero, List.setIfInBounds_toArray, List.set_cons_zero, List.set_cons_succ]
      have BX := Lib.hid (show SumB v0 _ (Ws.heap.size) (.slice va d0.c.length vc) (.slice vb d0.s.length vd) d0 from sumB_mk OC_slej.out OS_slej.out LCS.out Z2_slej.out (by first | exact .inl LBC.out | exact .inr LBD.out) (by first | exact .inl LBS.out | exact .inr LBT.out) LC.out LB.out LO_slej.out)
      refine wpAnyH_ready (rs := [12]) (by kernel_rfl) (by simp) ?_
      refine AllReadyH.cons rfl (fun K hK => ?_) AllReadyH.nil
      obtain ⟨y0, y1, yf⟩ := Z2_slej.out
      have yf0 := yf 0
      have yf1 := yf 1
      clear yf
      go_simp
      have E_y := Lib.hid (E_slej.out.below9 (Ws.heap.size) (.slice va d0.c.length vc) (.slice vb d0.s.length vd) LE.out LB.out)
      refine hK.out _ _ (show _ from ⟨E_y.out.1, E_y.out.2⟩) (fun hHeld => ?_)
      clear hK K
      try simp only [Act.put, List.getElem_toArray, List.getElem_cons_succ, List.getElem_cons_zero, List.setIfInBounds_toArray, List.set_cons_zero, List.set_cons_succ]
      refine wpAnyH_done (by kernel_rfl) ?_ _
      go_wp2_with fail
      go_meet
      exact ⟨_, _, _, _, _, rfl, BX.out⟩
  case rest =>
    obtain ⟨b, va, vc, vb, vd, rfl, hsb⟩ := hcut
    obtain ⟨Q0, M0, N0, P0, hs1, hs2, hMN, hs3, hbQ, hbN, hvQ, hvb, hs4⟩ := hsb
    obtain ⟨g, rfl⟩ := owI_some hs1 (by have := DFC.out; omega)
    obtain ⟨g2, rfl⟩ := owI_some hs2 (by have := DFC.out; omega)
    have SC0 := Lib.hid (show SumC v0 _ b Q0 M0 N0 P0 (.slice (some ⟨g, 0, none⟩) d0.c.length vc) (.slice (some ⟨g2, 0, none⟩) d0.s.length vd) (sdK P Q ds 0) from by rw [sdK_zero, hd0]; exact ⟨hs1, hs2, hs3, hs4⟩)
    have HNUM := Lib.hid (And.intro hMN (And.intro hbQ (And.intro hbN (And.intro hvQ hvb))))
    have hcap := L_0.out.cap
    have hsl : (1 : Int) ≤ (ds.length : Int) := by omega
    have hlc0 : ds.length ≤ lc := hcap
    clear hs1 hs2 hs3 hs4 hMN hbQ hbN hvQ hvb
    have HDD := Lib.hid hd0
    clear hd0
    have hBv := L_0.out.le
    by_cases hlc : lc = 1
    · have hn1 : ds.length = 1 := by omega
      have hd0l : (0 : Int) ≤ 0 := Int.le_refl _
      subst hlc
      go_wp2_with fail
      go_loopw [7, 8, 9, 10, 11, 26, 33, 55] (fun _ _ _ _ _ K _ _ wr => ∃ k : Nat, k + 1 ≤ ds.length ∧ K = .int .i64 k ∧ SumC v0 wr b Q0 M0 N0 P0 (.slice (some ⟨g, 0, none⟩) d0.c.length vc) (.slice (some ⟨g2, 0, none⟩) d0.s.length vd) (sdK P Q ds k)) (fun _ _ _ _ _ K _ _ _ => ds.length - 1 - (intOf K).toNat)
      case atStart => exact ⟨0, by omega, rfl, SC0.out⟩
      case round =>
        obtain ⟨k, hk, rfl, hsb⟩ := hrel
        obtain rfl : k = 0 := by omega
        have hkk : sdK P Q ds 0 = sdL P Q ds := sdK_all (by omega)
        rw [hkk] at hsb
        have HSB := Lib.hid hsb
        have HZ4 := Lib.hid (Z_0.out.below hsb.2.2.2)
        have HLV := Lib.hid Z_0.out.lt
        clear hkk hsb SC0
        obtain ⟨x0, x1, _⟩ := HSB.out.2.2.1
        obtain ⟨y0, y1, yf⟩ := HZ4.out
        have yf0 := yf 0
        have yf1 := yf 1
        clear yf
        go_wp2
        (try simp only [Exit.inBlock, Exit.then])
        refine bodyPost_ret (v := .agg #[.slice (some ⟨g, 0, none⟩) d0.c.length vc, .slice (some ⟨g2, 0, none⟩) d0.s.length vd]) ?_ rfl ?_
        · rw [results_cell_one rfl]; go_simp
        · have hm5 := mid_two7 wr (w.heap.size + 1) (.slice (some ⟨g, 0, none⟩) d0.c.length vc) (.slice (some ⟨g2, 0, none⟩) d0.s.length vd)
          have hlv := HLV.out
          obtain ⟨hMN, hbQ, hbN, hvQ, hvb⟩ := HNUM.out
          have hq1 := HSB.out.1.2.2.2
          have hq2 := HSB.out.2.1.2.2.2
          have hwl := HB_0.out.size
          have h1 := HSB.out.1.mid hm5 (.inr (by omega))
          have h2 := HSB.out.2.1.mid hm5 (.inr (by omega))
          have hB9 := bt HB_0.out HSB.out.2.2.2
          exact ⟨_, rfl, ⟨_, _, M0, rfl, h1.wide (by omega) (Nat.le_refl _) h1.2.2.1, h2.wide hMN (h2.le) (Nat.le_refl _)⟩, hB9.trans (hm5.toBelow (by omega) hB9.size)⟩
    have hlc1 : ¬ lc - 1 = 0 := by omega
    go_wp2_with fail
    go_loopw [7, 8, 9, 10, 11, 26, 33, 55] (fun _ _ _ _ _ K _ _ wr => ∃ k : Nat, k + 1 ≤ ds.length ∧ K = .int .i64 k ∧ SumC v0 wr b Q0 M0 N0 P0 (.slice (some ⟨g, 0, none⟩) d0.c.length vc) (.slice (some ⟨g2, 0, none⟩) d0.s.length vd) (sdK P Q ds k)) (fun _ _ _ _ _ K _ _ _ => ds.length - 1 - (intOf K).toNat)
    case atStart => exact ⟨0, by omega, rfl, SC0.out⟩
    case round =>
      obtain ⟨k, hk, rfl, hsb⟩ := hrel
      by_cases hkn : k + 1 < ds.length
      · generalize wr = wq at *
        obtain ⟨b', off, x, y, d, hbo, hb9, hx, hy, hi, hj, hd⟩ := L_0.out.at (k := k + 1) hkn
        obtain ⟨p1, p2, rfl⟩ := hi.shape
        obtain ⟨r1, r2, rfl⟩ := hj.shape
        simp only [Option.some.injEq, Addr.mk.injEq, and_true] at hbo
        obtain ⟨rfl, rfl⟩ := hbo
        have hx9 : wq.cell? ⟨lb, lo + 2 + k * 2, none⟩ = some (.slice p1 d.c.length p2) := by rw [show lo + 2 + k * 2 = lo + (k + 1) * 2 by omega]; exact (hsb.2.2.2.cell (p := ⟨lb, _, none⟩) hb9).trans hx
        have hy9 : wq.cell? ⟨lb, lo + 2 + k * 2 + 1, none⟩ = some (.slice r1 d.s.length r2) := by rw [show lo + 2 + k * 2 = lo + (k + 1) * 2 by omega]; exact (hsb.2.2.2.cell (p := ⟨lb, _, none⟩) hb9).trans hy
        have hdm : d ∈ ds := List.mem_of_mem_drop (i := k + 1) (by rw [hd]; simp)
        have hdf := (sd_facts E1.out).2.2 d hdm
        obtain ⟨⟨hc1, hc7⟩, hcr, hs7, hsr⟩ := dlB_facts hdf.1
        have hlk := likeD_eq hdf.2
        have hla := likeD_eq (sdK_like E1.out k)
        have hres := sdK_res E1.out (show 0 < P by omega) (show 0 < Q by omega) k
        have hstep : sdK P Q ds (k + 1) = sdStep P Q (sdK P Q ds k) d := sdK_step (by have := congrArg List.head? hd; simpa [List.head?_drop] using this)
        rw [HDD.out] at hlk hla
        generalize hA : sdK P Q ds k = a at *
        obtain ⟨ac, as9⟩ := a
        have HST := Lib.hid hstep
        have HLEN := Lib.hid (show ac.length = d.c.length ∧ as9.length = d.s.length ∧ d0.c.length = ac.length from by have h1 := hlk.1; have h2 := hlk.2; have h3 := hla.1; have h4 := hla.2; dsimp only at h3 h4; omega)
        have HLEN2 := Lib.hid (show d0.s.length = as9.length from by have h4 := hla.2; exact h4)
        have HRA := Lib.hid hres
        have HRC := Lib.hid hcr
        have HRS := Lib.hid hsr
        have HCI := Lib.hid hi
        have HSI := Lib.hid hj
        have hal := ba wq (.cells #[.slice p1 d.c.length p2, .slice r1 d.s.length r2] 42)
        have hM0 : M0 ≤ wq.heap.size := hsb.1.le
        have SCx := Lib.hid (hsb.below hal)
        have DX := Lib.hid (v2_at wq wq.heap.size rfl (.slice p1 d.c.length p2) (.slice r1 d.s.length r2) 42)
        clear hA hstep hlk hla hres hcr hsr hi hj hx hy hdf hd hdm hsb hal SC0
        go_wp2_with fail
        go_loopw [8, 9, 33] (fun _ _ J wr => ∃ j : Nat, j ≤ d.c.length ∧ J = .int .i64 j ∧ SumC v0 wr b Q0 M0 N0 P0 (.slice (some ⟨g, 0, none⟩) d0.c.length vc) (.slice (some ⟨g2, 0, none⟩) d0.s.length vd) ⟨over (prdL P ac d.c) ac j, as9⟩ ∧ VD2 wr wq.heap.size (.slice p1 d.c.length p2) (.slice r1 d.s.length r2)) (fun _ _ J _ => d.c.length - (intOf J).toNat)
        case atStart => exact ⟨0, Nat.zero_le _, rfl, by rw [over_zero]; exact SCx.out, DX.out⟩
        case round =>
          obtain ⟨j, hj9, rfl, hsc, hdx⟩ := hrel
          obtain ⟨hMN, hbQ, hbN, hvQ, hvb⟩ := HNUM.out
          by_cases hjn : j < d.c.length
          · obtain ⟨cb, co, cv, rfl, hcb, hcx, hcd⟩ := (show IsInts wr p1 d.c from inI_ints (HCI.out.below hsc.2.2.2)).at (k := j) hjn
            have hja : j < ac.length := by have := HLEN.out; omega
            have hj0 : j < d0.c.length := by have := HLEN.out; omega
            have hpl : (prdL P ac d.c).length = ac.length := prdL_length _ _ _
            obtain ⟨hrow, hfz⟩ := owI_at hsc.1 (j := j) (z := ac[j]) ((over_at (by rw [hpl]; omega)).trans (List.getElem?_eq_getElem hja))
            obtain ⟨av0, av1⟩ := HRA.out.1 ac[j] (List.getElem_mem hja)
            obtain ⟨cv0, cv1⟩ := HRC.out cv (mem_drop hcd)
            have hgv : d.c[j] = cv := (head_of_drop hcd).2
            have HG := Lib.hid (show ∀ h : j < (prdL P ac d.c).length, (prdL P ac d.c)[j] = ac[j] * cv % P from fun h => by rw [prdL_get P ac d.c j hja hjn h, hgv])
            have hgM := (owI_blk hsc.1).2
            have HDL := Lib.hid hdx
            have HAT := Lib.hid (show (over (prdL P ac d.c) ac j)[j]? = some ac[j] from (over_at (by rw [hpl]; omega)).trans (List.getElem?_eq_getElem hja))
            have G0 := Lib.hid (G_0.out.below hsc.2.2.2)
            have SC0 := Lib.hid hsc
            have DX0 := Lib.hid hdx
            generalize hav : ac[j] = av at *
            have HMP := Lib.hid (show ∀ z ∈ [av, cv], 0 ≤ z ∧ z < P by intro z hz; simp at hz; rcases hz with rfl | rfl <;> omega)
            have hm0 : 0 ≤ av * cv % P := Int.emod_nonneg _ (by omega)
            have hm1 : av * cv % P < P := Int.emod_lt_of_pos _ (by omega)
            generalize hmv : av * cv % P = mv at *
            have HMV := Lib.hid (show mulFrom P 1 [av, cv] = mv by rw [mul_two9 av0 av1, hmv])
            have HPL := Lib.hid hpl
            have HJA := Lib.hid hja
            have G0d := Lib.hid (G0.out.below (Below.refl _ wr).drew)
            have SC0d := Lib.hid (SC0.out.below (Below.refl _ wr).drew)
            clear hsc hdx hcd hgv hav hpl hja hMN hbQ hbN hvQ hvb hrow hfz hmv
            go_wp2_with fail
            refine wpK_begin (n := 13) (S := (fun w' => (w'.cell? ⟨w.heap.size, 0, none⟩ = some (.int .i64 P) ∧ w'.cell? ⟨w.heap.size, 1, none⟩ = some (.int .i64 Q) ∧ w'.cell? ⟨w.heap.size, 2, none⟩ = some (.int .i64 G)) ∧ (w'.cell? ⟨b, 0, none⟩ = some (.slice (some ⟨g, 0, none⟩) d0.c.length vc) ∧ w'.cell? ⟨b, 1, none⟩ = some (.slice (some ⟨g2, 0, none⟩) d0.s.length vd)) ∧ w'.cell? ⟨g, j, none⟩ = some (.int .i64 av))) (by kernel_rfl) ?_
            refine wpK_take (i := 0) (v := ?_) rfl (by kernel_rfl) (by kernel_rfl) (by kernel_rfl) (by kernel_rfl) (fun _ _ _ h => h) (Or.inl ⟨by kernel_rfl, ?_⟩) (show _ from ⟨G0d.out, ⟨SC0d.out.2.2.1.1, SC0d.out.2.2.1.2.1⟩, (owI_at SC0d.out.1 HAT.out).1⟩) ?_
            rotate_left 1
            · intro w9 hSw
              (try dsimp only at hSw)
              go_simp
              (try with_reducible rfl)
            (try simp only [Act.put, List.getElem_toArray, List.getElem_cons_succ, List.getElem_cons_zero, List.setIfInBounds_toArray, List.set_cons_zero, List.set_cons_succ])
            refine wpK_take (i := 1) (v := ?_) rfl (by kernel_rfl) (by kernel_rfl) (by kernel_rfl) (by kernel_rfl) (fun _ _ _ h => h) (Or.inl ⟨by kernel_rfl, ?_⟩) (show _ from ⟨G0d.out, ⟨SC0d.out.2.2.1.1, SC0d.out.2.2.1.2.1⟩, (owI_at SC0d.out.1 HAT.out).1⟩) ?_
            rotate_left 1
            · intro w9 hSw
              (try dsimp only at hSw)
              go_simp
              (try with_reducible rfl)
            (try simp only [Act.put, List.getElem_toArray, List.getElem_cons_succ, List.getElem_cons_zero, List.setIfInBounds_toArray, List.set_cons_zero, List.set_cons_succ])
            refine wpK_take (i := 2) (v := ?_) rfl (by kernel_rfl) (by kernel_rfl) (by kernel_rfl) (by kernel_rfl) (fun _ _ _ h => h) (Or.inl ⟨by kernel_rfl, ?_⟩) (show _ from ⟨G0d.out, ⟨SC0d.out.2.2.1.1, SC0d.out.2.2.1.2.1⟩, (owI_at SC0d.out.1 HAT.out).1⟩) ?_
            rotate_left 1
            · intro w9 hSw
              (try dsimp only at hSw)
              go_simp
              (try with_reducible rfl)
            (try simp only [Act.put, List.getElem_toArray, List.getElem_cons_succ, List.getElem_cons_zero, List.setIfInBounds_toArray, List.set_cons_zero, List.set_cons_succ])
            refine wpK_take (i := 3) (v := ?_) rfl (by kernel_rfl) (by kernel_rfl) (by kernel_rfl) (by kernel_rfl) (fun _ _ _ h => h) (Or.inl ⟨by kernel_rfl, ?_⟩) (show _ from ⟨G0d.out, ⟨SC0d.out.2.2.1.1, SC0d.out.2.2.1.2.1⟩, (owI_at SC0d.out.1 HAT.out).1⟩) ?_
            rotate_left 1
            · intro w9 hSw
              (try dsimp only at hSw)
              go_simp
              (try with_reducible rfl)
            (try simp only [Act.put, List.getElem_toArray, List.getElem_cons_succ, List.getElem_cons_zero, List.setIfInBounds_toArray, List.set_cons_zero, List.set_cons_succ])
            refine wpK_take (i := 4) (v := ?_) rfl (by kernel_rfl) (by kernel_rfl) (by kernel_rfl) (by kernel_rfl) (fun _ _ _ h => h) (Or.inl ⟨by kernel_rfl, ?_⟩) (show _ from ⟨G0d.out, ⟨SC0d.out.2.2.1.1, SC0d.out.2.2.1.2.1⟩, (owI_at SC0d.out.1 HAT.out).1⟩) ?_
            rotate_left 1
            · intro w9 hSw
              (try dsimp only at hSw)
              go_simp
              (try with_reducible rfl)
            (try simp only [Act.put, List.getElem_toArray, List.getElem_cons_succ, List.getElem_cons_zero, List.setIfInBounds_toArray, List.set_cons_zero, List.set_cons_succ])
            refine wpK_take (i := 5) (v := ?_) rfl (by kernel_rfl) (by kernel_rfl) (by kernel_rfl) (by kernel_rfl) (fun _ _ _ h => h) (Or.inl ⟨by kernel_rfl, ?_⟩) (show _ from ⟨G0d.out, ⟨SC0d.out.2.2.1.1, SC0d.out.2.2.1.2.1⟩, (owI_at SC0d.out.1 HAT.out).1⟩) ?_
            rotate_left 1
            · intro w9 hSw
              (try dsimp only at hSw)
              go_simp
              (try with_reducible rfl)
            (try simp only [Act.put, List.getElem_toArray, List.getElem_cons_succ, List.getElem_cons_zero, List.setIfInBounds_toArray, List.set_cons_zero, List.set_cons_succ])
            refine wpK_take (i := 6) (v := ?_) rfl (by kernel_rfl) (by kernel_rfl) (by kernel_rfl) (by kernel_rfl) (fun _ _ _ h => h) (Or.inl ⟨by kernel_rfl, ?_⟩) (show _ from ⟨G0d.out, ⟨SC0d.out.2.2.1.1, SC0d.out.2.2.1.2.1⟩, (owI_at SC0d.out.1 HAT.out).1⟩) ?_
            rotate_left 1
            · intro w9 hSw
              (try dsimp only at hSw)
              go_simp
              (try with_reducible rfl)
            (try simp only [Act.put, List.getElem_toArray, List.getElem_cons_succ, List.getElem_cons_zero, List.setIfInBounds_toArray, List.set_cons_zero, List.set_cons_succ])
            refine wpK_take (i := 7) (v := ?_) rfl (by kernel_rfl) (by kernel_rfl) (by kernel_rfl) (by kernel_rfl) (fun _ _ _ h => h) (Or.inl ⟨by kernel_rfl, ?_⟩) (show _ from ⟨G0d.out, ⟨SC0d.out.2.2.1.1, SC0d.out.2.2.1.2.1⟩, (owI_at SC0d.out.1 HAT.out).1⟩) ?_
            rotate_left 1
            · intro w9 hSw
              (try dsimp only at hSw)
              go_simp
              (try with_reducible rfl)
            (try simp only [Act.put, List.getElem_toArray, List.getElem_cons_succ, List.getElem_cons_zero, List.setIfInBounds_toArray, List.set_cons_zero, List.set_cons_succ])
            refine wpK_take (i := 8) (v := ?_) rfl (by kernel_rfl) (by kernel_rfl) (by kernel_rfl) (by kernel_rfl) (fun _ _ _ h => h) (Or.inl ⟨by kernel_rfl, ?_⟩) (show _ from ⟨G0d.out, ⟨SC0d.out.2.2.1.1, SC0d.out.2.2.1.2.1⟩, (owI_at SC0d.out.1 HAT.out).1⟩) ?_
            rotate_left 1
            · intro w9 hSw
              (try dsimp only at hSw)
              go_simp
              (try with_reducible rfl)
            (try simp only [Act.put, List.getElem_toArray, List.getElem_cons_succ, List.getElem_cons_zero, List.setIfInBounds_toArray, List.set_cons_zero, List.set_cons_succ])
            refine wpK_take (i := 9) (v := ?_) rfl (by kernel_rfl) (by kernel_rfl) (by kernel_rfl) (by kernel_rfl) (fun _ _ _ h => h) (Or.inl ⟨by kernel_rfl, ?_⟩) (show _ from ⟨G0d.out, ⟨SC0d.out.2.2.1.1, SC0d.out.2.2.1.2.1⟩, (owI_at SC0d.out.1 HAT.out).1⟩) ?_
            rotate_left 1
            · intro w9 hSw
              (try dsimp only at hSw)
              go_simp
              (try with_reducible rfl)
            (try simp only [Act.put, List.getElem_toArray, List.getElem_cons_succ, List.getElem_cons_zero, List.setIfInBounds_toArray, List.set_cons_zero, List.set_cons_succ])
            refine wpK_one (i := 10) (by kernel_rfl) rfl ?_
            intro K' hK
            go_simp
            have hbl : Below wr.heap.size wr (wr.drew.alloc (.cells #[.int .i64 av, .int .i64 cv] 3)) := bt (Below.refl _ wr).drew (ba _ _)
            have Gl := Lib.hid (G0.out.below hbl)
            have SCl := Lib.hid (SC0.out.below hbl)
            have DXl := Lib.hid (DX0.out.below hbl)
            have IL := Lib.hid (show IsInts (wr.drew.alloc (.cells #[.int .i64 av, .int .i64 cv] 3)) (some ⟨wr.drew.heap.size, 0, none⟩) [av, cv] from ints_lit wr.drew [av, cv] 3)
            clear hbl
            refine hK.out _ _ (fun _ => ⟨Gl.out, ⟨SCl.out.2.2.1.1, SCl.out.2.2.1.2.1⟩, (owI_at SCl.out.1 HAT.out).1⟩) ?_
            clear hK K'
            (try simp only [Act.put, List.getElem_toArray, List.getElem_cons_succ, List.getElem_cons_zero, List.setIfInBounds_toArray, List.set_cons_zero, List.set_cons_succ])
            refine wpK_one (i := 11) (by kernel_rfl) rfl ?_
            intro K' hK
            go_simp
            go_at_call 124
            refine (gMul_any P Q G _ 2 2 [av, cv] rfl (by decide) hP2 hP3 HMP.out _ IL.out).mono ?_
            rw [HMV.out]
            rintro e w3 ⟨rfl, hb3⟩
            have Gm := Lib.hid (Gl.out.below hb3)
            have SCm := Lib.hid (SCl.out.below hb3)
            have DXm := Lib.hid (DXl.out.below hb3)
            clear hb3
            go_wp2_with fail
            refine hK.out _ _ (fun _ => ⟨Gm.out, ⟨SCm.out.2.2.1.1, SCm.out.2.2.1.2.1⟩, (owI_at SCm.out.1 HAT.out).1⟩) ?_
            clear hK K'
            (try simp only [Act.put, List.getElem_toArray, List.getElem_cons_succ, List.getElem_cons_zero, List.setIfInBounds_toArray, List.set_cons_zero, List.set_cons_succ])
            refine wpK_take (i := 12) (v := ?_) rfl (by kernel_rfl) (by kernel_rfl) (by kernel_rfl) (by kernel_rfl) (fun _ _ _ h => h) (Or.inl ⟨by kernel_rfl, ?_⟩) ⟨Gm.out, ⟨SCm.out.2.2.1.1, SCm.out.2.2.1.2.1⟩, (owI_at SCm.out.1 HAT.out).1⟩ ?_
            rotate_left 1
            · intro w9 hSw
              (try dsimp only at hSw)
              go_simp
              (try with_reducible rfl)
            (try simp only [Act.put, List.getElem_toArray, List.getElem_cons_succ, List.getElem_cons_zero, List.setIfInBounds_toArray, List.set_cons_zero, List.set_cons_succ])
            refine wpK_one (i := 13) (by kernel_rfl) rfl ?_
            intro K' hK
            have hfz := (owI_at SCm.out.1 HAT.out).2
            have hcl := (owI_at SCm.out.1 HAT.out).1
            go_simp
            refine hK.out _ _ (fun h => absurd rfl h) ?_
            clear hK K'
            (try simp only [Act.put, List.getElem_toArray, List.getElem_cons_succ, List.getElem_cons_zero, List.setIfInBounds_toArray, List.set_cons_zero, List.set_cons_succ])
            refine wpK_done (by kernel_rfl) ?_ _
            obtain ⟨hMN, hbQ, hbN, hvQ, hvb⟩ := HNUM.out
            have HS9 := Lib.hid (SumC.store SCm.out HG.out (by rw [HPL.out]; exact HJA.out) HPL.out hMN hbQ hvQ)
            have HD9 := Lib.hid (DXm.out.mid (mid_cell w3 g j (.int .i64 mv)) (.inr (by omega)))
            clear hMN hbQ hbN hvQ hvb
            go_wp2
            go_roundw
            case rel => exact ⟨j + 1, by omega, by go_num, HS9.out, HD9.out⟩
            case measure => simp only [intOf]; omega
          · obtain rfl : j = d.c.length := by omega
            have hov : over (prdL P ac d.c) ac d.c.length = prdL P ac d.c := over_all _ _ (by rw [prdL_length]; have := HLEN.out; omega) (by have := HLEN.out; omega)
            rw [hov] at hsc
            have SCi := Lib.hid hsc
            have DXi := Lib.hid hdx
            obtain ⟨u0, u1, _⟩ := hsc.2.2.1
            obtain ⟨e0, e1, _⟩ := hdx
            have hM1 : P0 ≤ wr.heap.size := hsc.2.1.le
            clear hsc hov hMN hbQ hbN hvQ hvb
            generalize wr = wz at *
            go_wp2_with fail
            go_loopw [10, 11, 55] (fun _ _ J wi => ∃ i : Nat, i ≤ d.s.length ∧ J = .int .i64 i ∧ SumC v0 wi b Q0 M0 N0 P0 (.slice (some ⟨g, 0, none⟩) d0.c.length vc) (.slice (some ⟨g2, 0, none⟩) d0.s.length vd) ⟨prdL P ac d.c, over (axpy Q as9 1 d.s) as9 i⟩) (fun _ _ J _ => d.s.length - (intOf J).toNat)
            case atStart => exact ⟨0, Nat.zero_le _, rfl, by rw [over_zero]; exact SCi.out⟩
            case round =>
              obtain ⟨i, hi9, rfl, hsc⟩ := hrel
              obtain ⟨hMN, hbQ, hbN, hvQ, hvb⟩ := HNUM.out
              by_cases hin : i < d.s.length
              · obtain ⟨cb, co, cv, hr1, hcb, hcx, hcd⟩ := (show IsInts wr r1 d.s from inI_ints (HSI.out.below hsc.2.2.2)).at (k := i) hin
                subst hr1
                have hia : i < as9.length := by have := HLEN.out; omega
                have hi0 : i < d0.s.length := by have := HLEN2.out; have := HLEN.out; omega
                have hpl : (axpy Q as9 1 d.s).length = as9.length := axpy_length _ _ _ _
                obtain ⟨hrow, hfz⟩ := owI_at hsc.2.1 (j := i) (z := as9[i]) ((over_at (by rw [hpl]; omega)).trans (List.getElem?_eq_getElem hia))
                obtain ⟨av0, av1⟩ := HRA.out.2 as9[i] (List.getElem_mem hia)
                obtain ⟨cv0, cv1⟩ := HRS.out cv (mem_drop hcd)
                have HG := Lib.hid (axpy1_at (Q := Q) hia hin (head_of_drop hcd).2)
                have HSC := Lib.hid (SumC.store2 hsc HG.out (by rw [hpl]; exact hia) hpl hMN hbN hvQ)
                obtain ⟨gG0, gG1, gG2⟩ := G_0.out.below hsc.2.2.2
                obtain ⟨u0, u1, _⟩ := hsc.2.2.1
                generalize hav : as9[i] = av at *
                have hx1 : IntKind.i64.wrap (av + cv) = av + cv := by rw [IntKind.wrap_i64]; omega
                have hx2 : (av + cv).tmod Q = (av + cv) % Q := Int.tmod_eq_emod_of_nonneg (by omega)
                have hQ0 : Q ≠ 0 := by omega
                have hm0 : 0 ≤ (av + cv) % Q := Int.emod_nonneg _ hQ0
                have hm1 : (av + cv) % Q < Q := Int.emod_lt_of_pos _ (by omega)
                have hx3 : IntKind.i64.wrap ((av + cv) % Q) = (av + cv) % Q := by rw [IntKind.wrap_i64]; omega
                clear hsc hcd hav hpl hia hMN hbQ hbN hvQ hvb
                go_wp2
                go_region
                all_goals go_wp2
                go_roundw
                case rel => exact ⟨i + 1, by omega, by go_num, HSC.out.below (Below.refl _ _).drew⟩
                case measure => simp only [intOf]; omega
              · obtain rfl : i = d.s.length := by omega
                have hov : over (axpy Q as9 1 d.s) as9 d.s.length = axpy Q as9 1 d.s := over_all _ _ (by rw [axpy_length]; have := HLEN.out; omega) (by have := HLEN.out; omega)
                rw [hov] at hsc
                have HSC := Lib.hid hsc
                clear hsc hov hMN hbQ hbN hvQ hvb
                go_wp2
                go_roundw
                case rel => exact ⟨k + 1, by omega, by go_num, by rw [HST.out]; exact HSC.out⟩
                case measure => simp only [intOf]; omega
      · obtain rfl : k = ds.length - 1 := by omega
        have hkk : sdK P Q ds (ds.length - 1) = sdL P Q ds := sdK_all (by omega)
        rw [hkk] at hsb
        have HSB := Lib.hid hsb
        have HZ4 := Lib.hid (Z_0.out.below hsb.2.2.2)
        have HLV := Lib.hid Z_0.out.lt
        clear hkk hsb SC0
        obtain ⟨x0, x1, _⟩ := HSB.out.2.2.1
        obtain ⟨y0, y1, yf⟩ := HZ4.out
        have yf0 := yf 0
        have yf1 := yf 1
        clear yf
        go_wp2
        (try simp only [Exit.inBlock, Exit.then])
        refine bodyPost_ret (v := .agg #[.slice (some ⟨g, 0, none⟩) d0.c.length vc, .slice (some ⟨g2, 0, none⟩) d0.s.length vd]) ?_ rfl ?_
        · rw [results_cell_one rfl]; go_simp
        · have hm5 := mid_two7 wr (w.heap.size + 1) (.slice (some ⟨g, 0, none⟩) d0.c.length vc) (.slice (some ⟨g2, 0, none⟩) d0.s.length vd)
          have hlv := HLV.out
          obtain ⟨hMN, hbQ, hbN, hvQ, hvb⟩ := HNUM.out
          have hq1 := HSB.out.1.2.2.2
          have hq2 := HSB.out.2.1.2.2.2
          have hwl := HB_0.out.size
          have h1 := HSB.out.1.mid hm5 (.inr (by omega))
          have h2 := HSB.out.2.1.mid hm5 (.inr (by omega))
          have hB9 := bt HB_0.out HSB.out.2.2.2
          exact ⟨_, rfl, ⟨_, _, M0, rfl, h1.wide (by omega) (Nat.le_refl _) h1.2.2.1, h2.wide hMN (h2.le) (Nat.le_refl _)⟩, hB9.trans (hm5.toBelow (by omega) hB9.size)⟩

set_option maxRecDepth 100000 in
set_option maxHeartbeats 3200000 in
theorem sSumDealings_any (P Q G : Int) {B : Nat} {v : Value} {ds : List DlD} (hl : ds.length ≤ 1048576) (hr : nDs ds ≤ 1048576) {w : World} (hz : InDs B w v ds) :
    Calls Try.prog 25 #[gv P Q G, v] w (AnsD w (sdV P Q G ds) (sdB P Q G ds)) := by
  obtain ⟨la, lc, rfl⟩ := hz.shape
  have G_0 := Lib.hid ((gr_atS w w.heap.size rfl P Q G 24).below (ba (w.alloc (.cells #[.int .i64 P, .int .i64 Q, .int .i64 G] 24)) (.cells #[.slice none 0 0, .slice none 0 0] 42)))
  have Z_0 := Lib.hid (v2_at (w.alloc (.cells #[.int .i64 P, .int .i64 Q, .int .i64 G] 24)) (w.heap.size + 1) (by simp) (.slice none 0 0) (.slice none 0 0) 42)
  have HB_0 := Lib.hid (show Below w.heap.size w ((w.alloc (.cells #[.int .i64 P, .int .i64 Q, .int .i64 G] 24)).alloc (.cells #[.slice none 0 0, .slice none 0 0] 42)) from bt (ba _ _) (ba _ _))
  have L_0 := Lib.hid (hz.below HB_0.out)
  clear hz
  cases h0 : trB P Q G
  · have K0 := Lib.hid (show trB P Q G = false from h0)
    have E1 := Lib.hid (show sdB P Q G ds = false by rw [sdB_al, h0]; rfl)
    rw [E1.out, sd_off E1.out]
    clear h0
    obtain ⟨gG0, gG1, gG2⟩ := G_0.out
    obtain ⟨zZ0, zZ1, zfZ⟩ := Z_0.out
    have zfZ0 := zfZ 0
    have zfZ1 := zfZ 1
    clear zfZ
    go_enter Try.func25, Try.ntmps25
    go_wp2_with fail
    refine (sGroup_any P Q G _).mono ?_
    rw [K0.out]
    rintro e v1 ⟨rfl, hb⟩
    have HB_1 := Lib.hid (bt HB_0.out hb)
    have G_1 := Lib.hid (G_0.out.below hb)
    have Z_1 := Lib.hid (Z_0.out.below hb)
    have L_1 := Lib.hid (L_0.out.below hb)
    clear hb gG0 gG1 gG2 zZ0 zZ1 zfZ0 zfZ1
    obtain ⟨gG0, gG1, gG2⟩ := G_1.out
    obtain ⟨zZ0, zZ1, zfZ⟩ := Z_1.out
    have zfZ0 := zfZ 0
    have zfZ1 := zfZ 1
    clear zfZ
    go_wp2
    (try simp only [Exit.inBlock, Exit.then])
    refine bodyPost_ret (v := .tuple #[.agg #[.slice none 0 0, .slice none 0 0], .bool false]) ?_ rfl ?_
    · rw [results_cell_tmp rfl]; go_simp
    · have hm5 := mid_two7 v1 (w.heap.size + 1) (.slice none 0 0) (.slice none 0 0)
      exact ⟨_, rfl, owD_nil _ _ (Nat.le_trans HB_1.out.size hm5.size), HB_1.out.trans (hm5.toBelow (by omega) HB_1.out.size)⟩
  have K0 := Lib.hid (show trB P Q G = true from h0)
  have hmo := (trB_of h0).2.1
  cases h1 : alB P Q ds
  · have K1 := Lib.hid (show alB P Q ds = false from h1)
    have E1 := Lib.hid (show sdB P Q G ds = false by rw [sdB_al, h1, Bool.and_false])
    rw [E1.out, sd_off E1.out]
    clear h0 h1
    obtain ⟨gG0, gG1, gG2⟩ := G_0.out
    obtain ⟨zZ0, zZ1, zfZ⟩ := Z_0.out
    have zfZ0 := zfZ 0
    have zfZ1 := zfZ 1
    clear zfZ
    go_enter Try.func25, Try.ntmps25
    go_wp2_with fail
    refine (sGroup_any P Q G _).mono ?_
    rw [K0.out]
    rintro e v1 ⟨rfl, hb⟩
    have HB_1 := Lib.hid (bt HB_0.out hb)
    have G_1 := Lib.hid (G_0.out.below hb)
    have Z_1 := Lib.hid (Z_0.out.below hb)
    have L_1 := Lib.hid (L_0.out.below hb)
    clear hb gG0 gG1 gG2 zZ0 zZ1 zfZ0 zfZ1
    obtain ⟨gG0, gG1, gG2⟩ := G_1.out
    obtain ⟨zZ0, zZ1, zfZ⟩ := Z_1.out
    have zfZ0 := zfZ 0
    have zfZ1 := zfZ 1
    clear zfZ
    go_wp2_with fail
    refine (sAlike_any P Q G hmo hl hr L_1.out).mono ?_
    rw [K1.out]
    rintro e v2 ⟨rfl, hb⟩
    have HB_2 := Lib.hid (bt HB_1.out hb)
    have G_2 := Lib.hid (G_1.out.below hb)
    have Z_2 := Lib.hid (Z_1.out.below hb)
    have L_2 := Lib.hid (L_1.out.below hb)
    clear hb gG0 gG1 gG2 zZ0 zZ1 zfZ0 zfZ1
    obtain ⟨gG0, gG1, gG2⟩ := G_2.out
    obtain ⟨zZ0, zZ1, zfZ⟩ := Z_2.out
    have zfZ0 := zfZ 0
    have zfZ1 := zfZ 1
    clear zfZ
    go_wp2
    (try simp only [Exit.inBlock, Exit.then])
    refine bodyPost_ret (v := .tuple #[.agg #[.slice none 0 0, .slice none 0 0], .bool false]) ?_ rfl ?_
    · rw [results_cell_tmp rfl]; go_simp
    · have hm5 := mid_two7 v2 (w.heap.size + 1) (.slice none 0 0) (.slice none 0 0)
      exact ⟨_, rfl, owD_nil _ _ (Nat.le_trans HB_2.out.size hm5.size), HB_2.out.trans (hm5.toBelow (by omega) HB_2.out.size)⟩
  have K1 := Lib.hid (show alB P Q ds = true from h1)
  have E1 := Lib.hid (show sdB P Q G ds = true by rw [sdB_al, h0, h1]; rfl)
  rw [E1.out, sd_on E1.out]
  clear h0 h1
  obtain ⟨gG0, gG1, gG2⟩ := G_0.out
  obtain ⟨zZ0, zZ1, zfZ⟩ := Z_0.out
  have zfZ0 := zfZ 0
  have zfZ1 := zfZ 1
  clear zfZ
  go_enter Try.func25, Try.ntmps25
  go_wp2_with fail
  refine (sGroup_any P Q G _).mono ?_
  rw [K0.out]
  rintro e v1 ⟨rfl, hb⟩
  have HB_1 := Lib.hid (bt HB_0.out hb)
  have G_1 := Lib.hid (G_0.out.below hb)
  have Z_1 := Lib.hid (Z_0.out.below hb)
  have L_1 := Lib.hid (L_0.out.below hb)
  clear hb gG0 gG1 gG2 zZ0 zZ1 zfZ0 zfZ1
  obtain ⟨gG0, gG1, gG2⟩ := G_1.out
  obtain ⟨zZ0, zZ1, zfZ⟩ := Z_1.out
  have zfZ0 := zfZ 0
  have zfZ1 := zfZ 1
  clear zfZ
  go_wp2_with fail
  refine (sAlike_any P Q G hmo hl hr L_1.out).mono ?_
  rw [K1.out]
  rintro e v2 ⟨rfl, hb⟩
  have HB_2 := Lib.hid (bt HB_1.out hb)
  have G_2 := Lib.hid (G_1.out.below hb)
  have Z_2 := Lib.hid (Z_1.out.below hb)
  have L_2 := Lib.hid (L_1.out.below hb)
  clear hb gG0 gG1 gG2 zZ0 zZ1 zfZ0 zfZ1
  obtain ⟨gG0, gG1, gG2⟩ := G_2.out
  obtain ⟨zZ0, zZ1, zfZ⟩ := Z_2.out
  have zfZ0 := zfZ 0
  have zfZ1 := zfZ 1
  clear zfZ
  go_wp2_with fail
  refine (sSum_any P Q G hl hr L_2.out E1.out).mono ?_
  rintro e w4 ⟨v, rfl, ⟨va, vb, M, rfl, ho1, ho2⟩, hb4⟩
  obtain ⟨a1, a2, rfl⟩ := own_shape ho1.1
  obtain ⟨b1, b2, rfl⟩ := own_shape ho2.1
  have HLV := Lib.hid Z_2.out.lt
  have HZ4 := Lib.hid (Z_2.out.below hb4)
  have HB4 := Lib.hid (bt HB_2.out hb4)
  have HO4 := Lib.hid (And.intro ho1 ho2)
  generalize hr9 : sdL P Q ds = res at *
  clear hb4 ho1 ho2 gG0 gG1 gG2 zZ0 zZ1 zfZ0 zfZ1 hr9
  obtain ⟨y0, y1, yf⟩ := HZ4.out
  have yf0 := yf 0
  have yf1 := yf 1
  clear yf
  go_wp2
  (try simp only [Exit.inBlock, Exit.then])
  refine bodyPost_ret (v := .tuple #[.agg #[.slice a1 res.c.length a2, .slice b1 res.s.length b2], .bool true]) ?_ rfl ?_
  · rw [results_cell_tmp rfl]; go_simp
  · have hm5 := mid_two7 w4 (w.heap.size + 1) (.slice a1 res.c.length a2) (.slice b1 res.s.length b2)
    have hlv := HLV.out
    have hlr := HO4.out.1.2.2.2
    have h1 := HO4.out.1.mid hm5 (.inr (by omega))
    have h2 := HO4.out.2.mid hm5 (.inr (by omega))
    have hwl := HB_2.out.size
    exact ⟨_, rfl, ⟨_, _, M, rfl, h1.wide hwl (Nat.le_refl _) h1.2.2.1, h2.wide (Nat.le_refl _) hm5.size (Nat.le_refl _)⟩, HB4.out.trans (hm5.toBelow (by omega) HB4.out.size)⟩

end Go.Proofs.Ytchlnkdlnfjijaa

