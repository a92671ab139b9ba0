/- ElGamal: the program's small functions: pairs of elements, encryption, the combination of ciphertexts. -/
import Derived.Test.YtafoenoilcgjdaaGrG
import Derived.Deep.RegionHeld3
namespace Go.Proofs.Ytafoenoilcgjdaa
open Go.RowKit


/-- A ciphertext as the walk holds it. -/
abbrev cv (a b : Int) : Value := .agg #[.int .i64 a, .int .i64 b]
/-- A pair lies in block b, which may be written. -/
def C2 (w : World) (b : Nat) (x y : Int) : Prop := w.cell? ⟨b, 0, none⟩ = some (.int .i64 x) ∧ w.cell? ⟨b, 1, none⟩ = some (.int .i64 y) ∧ ∀ i, w.frozen? ⟨b, i, none⟩ = false
theorem c2_new (w : World) (x y : Int) (t : TypeId) : C2 (w.alloc (.cells #[.int .i64 x, .int .i64 y] t)) w.heap.size x y := by
  refine ⟨?_, ?_, fun _ => World.frozen?_alloc_at _ _ _ _ rfl⟩ <;> (rw [World.cell?_alloc_at _ _ _ _ rfl]; rfl)
theorem c2_at (w : World) (b : Nat) (hb : w.heap.size = b) (x y : Int) (t : TypeId) : C2 (w.alloc (.cells #[.int .i64 x, .int .i64 y] t)) b x y := by
  subst hb; exact c2_new w x y t
theorem gr_at (w : World) (b : Nat) (hb : w.heap.size = b) (P Q G : Int) (t : TypeId) : GR (w.alloc (.cells #[.int .i64 P, .int .i64 Q, .int .i64 G] t)) b P Q G := by
  subst hb; exact gr_new w P Q G t
theorem C2.lt {w : World} {b : Nat} {x y : Int} (h : C2 w b x y) : b < w.heap.size := World.block_lt_of_cell? w _ h.1
theorem C2.drew {w : World} {b : Nat} {x y : Int} (h : C2 w b x y) : C2 w.drew b x y := h
theorem C2.below {w w' : World} {b : Nat} {x y : Int} (h : C2 w b x y) (hb : Below w.heap.size w w') : C2 w' b x y := by
  have hl := h.lt
  refine ⟨?_, ?_, fun i => ?_⟩
  · rw [hb.cell (p := ⟨b, 0, none⟩) hl]; exact h.1
  · rw [hb.cell (p := ⟨b, 1, none⟩) hl]; exact h.2.1
  · rw [hb.frozen (p := ⟨b, i, none⟩) hl]; exact h.2.2 i
theorem C2.other {w : World} {b : Nat} {x y : Int} (h : C2 w b x y) (a : Addr) (v : Value) (hne : a.block ≠ b) : C2 (w.setCell a v) b x y := by
  obtain ⟨c0, c1, hf⟩ := h
  refine ⟨?_, ?_, fun i => by rw [World.frozen?_setCell]; exact hf i⟩
  · rw [World.cell?_setCell_other _ _ _ _ (fun e => hne (by rw [e]))]; exact c0
  · rw [World.cell?_setCell_other _ _ _ _ (fun e => hne (by rw [e]))]; exact c1
theorem C2.set {w : World} {b : Nat} {x y : Int} (h : C2 w b x y) (u v : Int) : C2 ((w.setCell ⟨b, 0, none⟩ (.int .i64 u)).setCell ⟨b, 1, none⟩ (.int .i64 v)) b u v := by
  obtain ⟨c0, c1, hf⟩ := h
  refine ⟨?_, ?_, fun i => by rw [World.frozen?_setCell, World.frozen?_setCell]; exact hf i⟩
  · rw [World.cell?_setCell_other _ _ _ _ (by simp)]; exact World.cell?_setCell_same _ _ _ c0
  · exact World.cell?_setCell_same _ _ _ ((World.cell?_setCell_other _ _ _ _ (by simp)).trans c1)
theorem set_below {w W : World} (h : Below w.heap.size w W) (b : Nat) (hb : w.heap.size ≤ b) (u v : Value) : Below w.heap.size w ((W.setCell ⟨b, 0, none⟩ u).setCell ⟨b, 1, none⟩ v) :=
  (h.setCell hb _).setCell hb _

theorem hasCipher_any (P Q G a b : Int) (hm : Mo P Q) (w : World) :
    Calls Try.prog 97 #[gv P Q G, cv a b] w fun e w' => e = .returned (.bool (cipB P Q a b)) ∧ Below w.heap.size w w' := by
  cases h1 : elB P Q a
  · have e1 : cipB P Q a b = false := by simp [cipB, h1]
    rw [e1]
    have H1 := Lib.hid h1
    clear e1 h1
    have G_0 := Lib.hid ((gr_at w (w.heap.size) (by simp) P Q G 27).below (ba (w.alloc (.cells #[.int .i64 P, .int .i64 Q, .int .i64 G] 27)) (.cells #[.int .i64 a, .int .i64 b] 61)))
    have C_0 := Lib.hid (c2_at (w.alloc (.cells #[.int .i64 P, .int .i64 Q, .int .i64 G] 27)) (w.heap.size + 1) (by simp) a b 61)
    have HB_0 := Lib.hid (show Below w.heap.size w ((w.alloc (.cells #[.int .i64 P, .int .i64 Q, .int .i64 G] 27)).alloc (.cells #[.int .i64 a, .int .i64 b] 61)) from bt (ba _ _) (ba _ _))
    go_enter Try.func97, Try.ntmps97
    go_wp2_with fail
    refine (hasElement_any _ _ _ _ hm _).mono ?_
    rw [H1.out]
    rintro e v1 ⟨rfl, hb⟩
    have HB_1 := Lib.hid (bt HB_0.out hb)
    have G_1 := Lib.hid (G_0.out.below hb)
    have C_1 := Lib.hid (C_0.out.below hb)
    clear hb
    obtain ⟨gG0, gG1, gG2⟩ := G_1.out
    obtain ⟨cC0, cC1, cfC⟩ := C_1.out
    go_wp2
    go_ret
    exact ⟨rfl, HB_1.out⟩
  · have e1 : cipB P Q a b = elB P Q b := by simp [cipB, h1]
    rw [e1]
    have H1 := Lib.hid h1
    clear e1 h1
    have G_0 := Lib.hid ((gr_at w (w.heap.size) (by simp) P Q G 27).below (ba (w.alloc (.cells #[.int .i64 P, .int .i64 Q, .int .i64 G] 27)) (.cells #[.int .i64 a, .int .i64 b] 61)))
    have C_0 := Lib.hid (c2_at (w.alloc (.cells #[.int .i64 P, .int .i64 Q, .int .i64 G] 27)) (w.heap.size + 1) (by simp) a b 61)
    have HB_0 := Lib.hid (show Below w.heap.size w ((w.alloc (.cells #[.int .i64 P, .int .i64 Q, .int .i64 G] 27)).alloc (.cells #[.int .i64 a, .int .i64 b] 61)) from bt (ba _ _) (ba _ _))
    go_enter Try.func97, Try.ntmps97
    go_wp2_with fail
    refine (hasElement_any _ _ _ _ hm _).mono ?_
    rw [H1.out]
    rintro e v1 ⟨rfl, hb⟩
    have HB_1 := Lib.hid (bt HB_0.out hb)
    have G_1 := Lib.hid (G_0.out.below hb)
    have C_1 := Lib.hid (C_0.out.below hb)
    clear hb
    obtain ⟨gG0, gG1, gG2⟩ := G_1.out
    obtain ⟨cC0, cC1, cfC⟩ := C_1.out
    go_wp2_with fail
    refine (hasElement_any _ _ _ _ hm _).mono ?_
    rintro e v2 ⟨rfl, hb⟩
    have HB_2 := Lib.hid (bt HB_1.out hb)
    have G_2 := Lib.hid (G_1.out.below hb)
    have C_2 := Lib.hid (C_1.out.below hb)
    clear hb
    clear gG0 gG1 gG2 cC0 cC1 cfC
    obtain ⟨gG0, gG1, gG2⟩ := G_2.out
    obtain ⟨cC0, cC1, cfC⟩ := C_2.out
    go_wp2
    go_ret
    exact ⟨rfl, HB_2.out⟩

theorem gr_drop {w w' : World} {b : Nat} {P Q G : Int} (h : GR w b P Q G) (hb : Below w.drew.heap.size w.drew w') : GR w' b P Q G := GR.below (w := w.drew) h hb
theorem gr_pair {w : World} {b c : Nat} {P Q G : Int} (h : GR w b P Q G) (hne : c ≠ b) (x y : Value) : GR ((w.setCell ⟨c, 0, none⟩ x).setCell ⟨c, 1, none⟩ y) b P Q G := by
  obtain ⟨c0, c1, c2⟩ := h
  refine ⟨?_, ?_, ?_⟩
  · rw [World.cell?_setCell_other _ _ _ _ (fun e => hne (congrArg Addr.block e)), World.cell?_setCell_other _ _ _ _ (fun e => hne (congrArg Addr.block e))]; exact c0
  · rw [World.cell?_setCell_other _ _ _ _ (fun e => hne (congrArg Addr.block e)), World.cell?_setCell_other _ _ _ _ (fun e => hne (congrArg Addr.block e))]; exact c1
  · rw [World.cell?_setCell_other _ _ _ _ (fun e => hne (congrArg Addr.block e)), World.cell?_setCell_other _ _ _ _ (fun e => hne (congrArg Addr.block e))]; exact c2
theorem cell_pair {w : World} {g b i j o : Nat} {v : Value} (h : w.cell? ⟨b, o, none⟩ = some v) (hne : g ≠ b) (x y : Value) : ((w.setCell ⟨g, i, none⟩ x).setCell ⟨g, j, none⟩ y).cell? ⟨b, o, none⟩ = some v := by
  rw [World.cell?_setCell_other _ _ _ _ (fun e => hne (congrArg Addr.block e)), World.cell?_setCell_other _ _ _ _ (fun e => hne (congrArg Addr.block e))]; exact h
theorem c2_drop {w w' : World} {b : Nat} {x y : Int} (h : C2 w b x y) (hb : Below w.drew.heap.size w.drew w') : C2 w' b x y := C2.below (w := w.drew) h hb
theorem bt_drop {w a b : World} (h : Below w.heap.size w a) (k : Below a.drew.heap.size a.drew b) : Below w.heap.size w b := bt (b := b) h.drew k

set_option maxRecDepth 100000 in
set_option maxHeartbeats 3200000 in
theorem encrypt_any (P Q G key m r : Int) (h2 : 2 ≤ P) (h3 : P ≤ 2000000000) (g0 : 0 ≤ G) (g1 : G ≤ 2000000000) (k0 : 0 ≤ key) (k1 : key ≤ 2000000000) (m0 : 0 ≤ m) (m1 : m ≤ 2000000000) (r0 : 0 ≤ r) (r1 : r ≤ 2000000000) (w : World) :
    Calls Try.prog 86 #[gv P Q G, .int .i64 key, .int .i64 m, .int .i64 r] w fun e w' => e = .returned (cv (Num.pow G r P) (m * Num.pow key r P % P)) ∧ Below w.heap.size w w' := by
  obtain ⟨y0, y1⟩ := pow_lt key r P h2
  obtain ⟨p0, p1⟩ := prod_bd (a := m) (z := Num.pow key r P) m0 m1 y0 (by omega)
  have hwr : IntKind.i64.wrap (m * Num.pow key r P) = m * Num.pow key r P := by rw [IntKind.wrap_i64]; omega
  have htm : (m * Num.pow key r P).tmod P = m * Num.pow key r P % P := Int.tmod_eq_emod_of_nonneg p0
  have hne : P ≠ 0 := by omega
  have G_0 := Lib.hid ((gr_at w (w.heap.size) (by simp) P Q G 27).below (ba (w.alloc (.cells #[.int .i64 P, .int .i64 Q, .int .i64 G] 27)) (.cells #[.int .i64 0, .int .i64 0] 61)))
  have R_0 := Lib.hid (c2_at (w.alloc (.cells #[.int .i64 P, .int .i64 Q, .int .i64 G] 27)) (w.heap.size + 1) (by simp) 0 0 61)
  have HB_0 := Lib.hid (show Below w.heap.size w ((w.alloc (.cells #[.int .i64 P, .int .i64 Q, .int .i64 G] 27)).alloc (.cells #[.int .i64 0, .int .i64 0] 61)) from bt (ba _ _) (ba _ _))
  go_enter Try.func86, Try.ntmps86
  go_wp2_with fail
  obtain ⟨c0, c1, c2⟩ := G_0.out
  go_region_held3 (fun w' => w'.cell? ⟨w.heap.size, 0, none⟩ = some (.int .i64 P) ∧ w'.cell? ⟨w.heap.size, 1, none⟩ = some (.int .i64 Q) ∧ w'.cell? ⟨w.heap.size, 2, none⟩ = some (.int .i64 G)) (first | with_reducible exact ⟨x0, x1, x2⟩ | with_reducible exact ⟨c0, c1, c2⟩ | exact gr_pair HGp.out (by omega) _ _ | exact ⟨x0, x1, x2⟩ | exact ⟨c0, c1, c2⟩) ((first
    | (go_at_call 101; refine (power_any P Q G _ r (by omega) (by omega) r0 (by omega) h2 h3 _).mono ?_; rintro e vp ⟨rfl, hp⟩; have HBp := Lib.hid (show Below w.heap.size w vp from by first | exact bt HBp.out hp | exact bt_drop HB_0.out hp); have HGp := Lib.hid (show GR vp w.heap.size P Q G from by first | exact HGp.out.below hp | exact gr_drop G_0.out hp); have HRp := Lib.hid (show C2 vp (w.heap.size + 1) 0 0 from by first | exact HRp.out.below hp | exact c2_drop R_0.out hp); clear hp; obtain ⟨x0, x1, x2⟩ := HGp.out; obtain ⟨d0, d1, df⟩ := HRp.out; have df0 := df 0; have df1 := df 1; clear df)
    | fail))
  all_goals (
    go_wp2
    (try simp only [Exit.inBlock, Exit.then])
    refine bodyPost_ret (v := cv (Num.pow G r P) (m * Num.pow key r P % P)) ?_ rfl ⟨rfl, ?_⟩
    · rw [results_cell_one rfl]; go_simp
    · first | exact set_below HBp.out _ (by omega) _ _ | exact set_below HBp.out.drew _ (by omega) _ _)

set_option maxHeartbeats 3200000 in
theorem cjoin_any (P Q G a b c d : Int) (h2 : 2 ≤ P) (h3 : P ≤ 2000000000) (ha : 0 ≤ a ∧ a < P) (hb : 0 ≤ b ∧ b < P) (hc : 0 ≤ c ∧ c < P) (hd : 0 ≤ d ∧ d < P) (B : Nat) (w : World) (hB : GR w B P Q G) :
    Calls Try.prog 113 #[cv a b, cv c d, .pointer (some ⟨B, 0, none⟩)] w fun e w' => e = .returned (cv (a * c % P) (b * d % P)) ∧ Below w.heap.size w w' := by
  obtain ⟨p0, p1⟩ := prod_bd (a := a) (z := c) (by omega) (by omega) (by omega) (by omega)
  obtain ⟨q0, q1⟩ := prod_bd (a := b) (z := d) (by omega) (by omega) (by omega) (by omega)
  have hwr : IntKind.i64.wrap (a * c) = a * c := by rw [IntKind.wrap_i64]; omega
  have hwr2 : IntKind.i64.wrap (b * d) = b * d := by rw [IntKind.wrap_i64]; omega
  have htm : (a * c).tmod P = a * c % P := Int.tmod_eq_emod_of_nonneg p0
  have htm2 : (b * d).tmod P = b * d % P := Int.tmod_eq_emod_of_nonneg q0
  have hne : P ≠ 0 := by omega
  have C_0 := Lib.hid (((c2_at w (w.heap.size) (by simp) a b 61).below (ba (w.alloc (.cells #[.int .i64 a, .int .i64 b] 61)) (.cells #[.int .i64 c, .int .i64 d] 61))).below (ba ((w.alloc (.cells #[.int .i64 a, .int .i64 b] 61)).alloc (.cells #[.int .i64 c, .int .i64 d] 61)) (.cells #[.int .i64 0, .int .i64 0] 61)))
  have D_0 := Lib.hid ((c2_at (w.alloc (.cells #[.int .i64 a, .int .i64 b] 61)) (w.heap.size + 1) (by simp) c d 61).below (ba ((w.alloc (.cells #[.int .i64 a, .int .i64 b] 61)).alloc (.cells #[.int .i64 c, .int .i64 d] 61)) (.cells #[.int .i64 0, .int .i64 0] 61)))
  have R_0 := Lib.hid (c2_at ((w.alloc (.cells #[.int .i64 a, .int .i64 b] 61)).alloc (.cells #[.int .i64 c, .int .i64 d] 61)) (w.heap.size + 1 + 1) (by simp) 0 0 61)
  have HB_0 := Lib.hid (show Below w.heap.size w (((w.alloc (.cells #[.int .i64 a, .int .i64 b] 61)).alloc (.cells #[.int .i64 c, .int .i64 d] 61)).alloc (.cells #[.int .i64 0, .int .i64 0] 61)) from bt (bt (ba _ _) (ba _ _)) (ba _ _))
  have HG := Lib.hid (hB.below HB_0.out)
  clear hB
  go_enter Try.func113, Try.ntmps113
  obtain ⟨k0, k1, k2⟩ := HG.out
  obtain ⟨cC0, cC1, cfC⟩ := C_0.out
  obtain ⟨cD0, cD1, cfD⟩ := D_0.out
  obtain ⟨rR0, rR1, rfR⟩ := R_0.out
  have rfR0 := rfR 0
  have rfR1 := rfR 1
  go_wp2_with fail
  go_region
  all_goals (
    go_wp2
    (try simp only [Exit.inBlock, Exit.then])
    refine bodyPost_ret (v := cv (a * c % P) (b * d % P)) ?_ rfl ⟨rfl, ?_⟩
    · rw [results_cell_one rfl]; go_simp
    · first | exact bt (bt (ba _ _) (ba _ _)) (ba _ _) | exact (bt (bt (ba _ _) (ba _ _)) (ba _ _)).drew)

end Go.Proofs.Ytafoenoilcgjdaa

