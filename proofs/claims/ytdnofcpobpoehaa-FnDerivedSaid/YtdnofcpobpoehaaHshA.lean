/- The program's hash states: an element, a list, a label. -/
import Derived.Test.YtdnofcpobpoehaaBas
import Derived.Test.YtdnofcpobpoehaaG1
namespace Go.Proofs.Ytdnofcpobpoehaa
open Go.RowKit

/-- A hash state as the walk holds it. -/
abbrev hv (s t : Int) : Value := .agg #[.int .i64 s, .int .i64 t]
/-- The two remainders' bounds. -/
def HB2 (s t : Int) : Prop := (0 ≤ s ∧ s < 2147483647) ∧ 0 ≤ t ∧ t < 2147483647
theorem hb_ab (c d s t x y : Int) : HB2 (hab c s x) (hab d t y) := ⟨hab_bd _ _ _, hab_bd _ _ _⟩
theorem hb_w (c d s t x y : Int) : HB2 (hw c s x) (hw d t y) := ⟨hw_bd _ _ _, hw_bd _ _ _⟩
theorem hb_fold (c d s t : Int) (xs ys : List Int) (h : HB2 s t) : HB2 (hfold c s xs) (hfold d t ys) := ⟨hfold_bd _ _ _ h.1, hfold_bd _ _ _ h.2⟩

/-- A state's two numbers lie in block b, which may be written. -/
def HS (w : World) (b : Nat) (s t : Int) : Prop := w.cell? ⟨b, 0, none⟩ = some (.int .i64 s) ∧ w.cell? ⟨b, 1, none⟩ = some (.int .i64 t) ∧ ∀ i, w.frozen? ⟨b, i, none⟩ = false
theorem hs_new (w : World) (s t : Int) (ty : TypeId) : HS (w.alloc (.cells #[.int .i64 s, .int .i64 t] ty)) w.heap.size s t := by
  refine ⟨?_, ?_, fun _ => World.frozen?_alloc_at _ _ _ _ rfl⟩ <;> (rw [World.cell?_alloc_at _ _ _ _ rfl]; rfl)
theorem HS.lt {w : World} {b : Nat} {s t : Int} (h : HS w b s t) : b < w.heap.size := World.block_lt_of_cell? w _ h.1
theorem HS.below {w w' : World} {b : Nat} {s t : Int} (h : HS w b s t) (hb : Below w.heap.size w w') : HS w' b s t := by
  have hl := h.lt
  refine ⟨?_, ?_, fun i => ?_⟩
  · rw [hb.cell (p := ⟨b, 0, none⟩) hl]; exact h.1
  · rw [hb.cell (p := ⟨b, 1, none⟩) hl]; exact h.2.1
  · rw [hb.frozen (p := ⟨b, i, none⟩) hl]; exact h.2.2 i
theorem HS.set {w : World} {b : Nat} {s t : Int} (h : HS w b s t) (x y : Int) : HS ((w.setCell ⟨b, 0, none⟩ (.int .i64 x)).setCell ⟨b, 1, none⟩ (.int .i64 y)) b x y := by
  obtain ⟨c0, c1, hf⟩ := h
  refine ⟨?_, ?_, fun i => by rw [World.frozen?_setCell, World.frozen?_setCell]; exact hf i⟩
  · rw [World.cell?_setCell_other _ _ _ _ (by simp)]; exact World.cell?_setCell_same _ _ _ c0
  · have h1 : (w.setCell ⟨b, 0, none⟩ (.int .i64 x)).cell? ⟨b, 1, none⟩ = some (.int .i64 t) := by rw [World.cell?_setCell_other _ _ _ _ (by simp)]; exact c1
    exact World.cell?_setCell_same _ _ _ h1
theorem HS.other {w : World} {b : Nat} {s t : Int} (h : HS w b s t) (a : Addr) (v : Value) (hne : a.block ≠ b) : HS (w.setCell a v) b s t := by
  obtain ⟨c0, c1, hf⟩ := h
  refine ⟨?_, ?_, fun i => by rw [World.frozen?_setCell]; exact hf i⟩
  · rw [World.cell?_setCell_other _ _ _ _ (fun e => hne (by rw [e]))]; exact c0
  · rw [World.cell?_setCell_other _ _ _ _ (fun e => hne (by rw [e]))]; exact c1

/-- A round's bounds: an element's two parts. -/
theorem parts {x : Int} (h0 : 0 ≤ x) (h1 : x ≤ 4611686018427387903) : (0 ≤ x % 2147483648 ∧ x % 2147483648 < 2147483648) ∧ 0 ≤ x / 2147483648 ∧ x / 2147483648 < 2147483648 := by omega

set_option maxHeartbeats 800000 in
theorem absorbWord_any (s t k : Int) (hb : HB2 s t) (k0 : 0 ≤ k) (k1 : k < 2147483648) (w : World) :
    Calls Try.prog 167 #[hv s t, .int .i64 k] w fun e w' => e = .returned (hv (hw 48271 s k) (hw 69621 t k)) ∧ Below w.heap.size w w' := by
  obtain ⟨⟨s0, s1⟩, t0, t1⟩ := hb
  unfold hw
  go_enter Try.func167, Try.ntmps167
  go_wp2
  (try simp only [Exit.inBlock, Exit.then])
  refine bodyPost_ret (v := hv ((48271 * s + k + 1) % 2147483647) ((69621 * t + k + 1) % 2147483647)) ?_ rfl ⟨rfl, ?_⟩
  · rw [results_cell_one rfl]; go_simp
  · exact bt (ba _ _) (ba _ _)

set_option maxRecDepth 100000 in
set_option maxHeartbeats 1600000 in
theorem absorb_any (s t : Int) (hb : HB2 s t) (ad : Option Addr) (n cap : Nat) (zs : List Int) (hn : zs.length = n) (hl : n ≤ 1152921504606846976) (hd : ∀ z ∈ zs, 0 ≤ z ∧ z ≤ 4611686018427387903) (w : World) (hz : IsInts w ad zs) :
    Calls Try.prog 142 #[hv s t, .slice ad n cap] w fun e w' => e = .returned (hv (hfold 48271 s zs) (hfold 69621 t zs)) ∧ Below w.heap.size w w' := by
  have HN := Lib.hid hn
  have HD := Lib.hid hd
  have HB := Lib.hid hb
  clear hn hd hb
  have HS0 := Lib.hid ((hs_new w s t 164).below (ba _ (.cells #[.int .i64 0, .int .i64 0] 164)))
  have HR0 := Lib.hid (hs_new (w.alloc (.cells #[.int .i64 s, .int .i64 t] 164)) 0 0 164)
  have HW0 := Lib.hid (bt (ba w (.cells #[.int .i64 s, .int .i64 t] 164)) (ba _ (.cells #[.int .i64 0, .int .i64 0] 164)))
  have hsz : (w.alloc (.cells #[.int .i64 s, .int .i64 t] 164)).heap.size = w.heap.size + 1 := by simp
  rw [hsz] at HR0
  clear hsz
  go_enter Try.func142, Try.ntmps142
  go_wp2
  go_loopw [6, 9] (fun _ K wr => ∃ (k : Nat) (x y : Int), k ≤ n ∧ K = .int .i64 k ∧ HB2 x y ∧ HS wr w.heap.size x y ∧ HS wr (w.heap.size + 1) 0 0 ∧ Below w.heap.size w wr ∧ hfold 48271 s zs = hfold 48271 x (zs.drop k) ∧ hfold 69621 t zs = hfold 69621 y (zs.drop k)) (fun _ K _ => n - (intOf K).toNat)
  case atStart => exact ⟨0, s, t, Nat.zero_le _, rfl, HB.out, HS0.out, HR0.out, HW0.out, rfl, rfl⟩
  case round =>
    obtain ⟨k, x, y, hk, rfl, hxy, hs, hr, hbel, e1, e2⟩ := hrel
    by_cases hkn : k < n
    · obtain ⟨b, off, z, rfl, hbl, hc, hdr⟩ := (hz.below hbel (Nat.le_refl _)).at (k := k) (by have := HN.out; omega)
      obtain ⟨z0, z1⟩ := HD.out z (mem_drop hdr)
      have HE := Lib.hid (And.intro (hfold_step hdr e1) (hfold_step hdr e2))
      obtain ⟨⟨m0, m1⟩, q0, q1⟩ := parts z0 z1
      have HXY := Lib.hid hxy
      have HSr := Lib.hid hs
      have HRr := Lib.hid hr
      have HWr := Lib.hid hbel
      obtain ⟨c0, c1, cf⟩ := hs
      clear e1 e2 hdr hxy hr hbel cf
      go_wp2_with fail
      refine (absorbWord_any _ _ _ HXY.out m0 m1 _).mono ?_
      rintro e w1 ⟨rfl, hb1⟩
      have HX1 := Lib.hid (hb_w 48271 69621 x y (z % 2147483648) (z % 2147483648))
      have HS1 := Lib.hid (HSr.out.below hb1)
      have HR1 := Lib.hid (HRr.out.below hb1)
      have HW1 := Lib.hid (HWr.out.trans (hb1.mono HWr.out.size))
      clear hb1 c0 c1
      go_wp2_with fail
      refine (absorbWord_any _ _ _ HX1.out q0 q1 _).mono ?_
      rintro e w2 ⟨rfl, hb2⟩
      have HS2 := Lib.hid (HS1.out.below hb2)
      have HR2 := Lib.hid (HR1.out.below hb2)
      have HW2 := Lib.hid (HW1.out.trans (hb2.mono HW1.out.size))
      obtain ⟨d0, d1, df⟩ := HS2.out
      have df0 := df 0
      have df1 := df 1
      clear hb2 df
      go_wp2
      go_roundw
      case rel => exact ⟨k + 1, _, _, by omega, by go_num, hb_ab _ _ _ _ _ _, HS2.out.set _ _, (HR2.out.other _ _ (by simp)).other _ _ (by simp), (HW2.out.setCell (Nat.le_refl _) _).setCell (Nat.le_refl _) _, HE.out.1, HE.out.2⟩
      case measure => simp only [intOf]; omega
    · have HE := Lib.hid (And.intro e1 e2)
      have HWr := Lib.hid hbel
      obtain ⟨c0, c1, cf⟩ := hs
      obtain ⟨d0, d1, df⟩ := hr
      have df0 := df 0
      have df1 := df 1
      clear e1 e2 hbel cf df hxy
      go_wp2
      (try simp only [Exit.inBlock, Exit.then])
      refine bodyPost_ret (v := hv x y) ?_ rfl ⟨?_, ?_⟩
      · rw [results_cell_one rfl]; go_simp
      · have h1 := HE.out.1
        have h2 := HE.out.2
        rw [List.drop_of_length_le (by have := HN.out; omega)] at h1 h2
        rw [h1, h2]; rfl
      · exact (HWr.out.setCell (by simp) _).setCell (by simp) _

set_option maxHeartbeats 800000 in
theorem absorbWordB_any (s t k : Int) (hb : HB2 s t) (k0 : 0 ≤ k) (k1 : k < 2147483648) (w : World) :
    Calls Try.prog 177 #[hv s t, .int .i64 k] w fun e w' => e = .returned (hv (hw 48271 s k) (hw 69621 t k)) ∧ Below w.heap.size w w' := by
  obtain ⟨⟨s0, s1⟩, t0, t1⟩ := hb
  unfold hw
  go_enter Try.func177, Try.ntmps177
  go_wp2
  (try simp only [Exit.inBlock, Exit.then])
  refine bodyPost_ret (v := hv ((48271 * s + k + 1) % 2147483647) ((69621 * t + k + 1) % 2147483647)) ?_ rfl ⟨rfl, ?_⟩
  · rw [results_cell_one rfl]; go_simp
  · exact bt (ba _ _) (ba _ _)

set_option maxRecDepth 100000 in
set_option maxHeartbeats 1600000 in
theorem absorbB_any (s t : Int) (hb : HB2 s t) (ad : Option Addr) (n cap : Nat) (zs : List Int) (hn : zs.length = n) (hl : n ≤ 1152921504606846976) (hd : ∀ z ∈ zs, 0 ≤ z ∧ z ≤ 4611686018427387903) (w : World) (hz : IsBys w ad zs) :
    Calls Try.prog 175 #[hv s t, .slice ad n cap] w fun e w' => e = .returned (hv (hfold 48271 s zs) (hfold 69621 t zs)) ∧ Below w.heap.size w w' := by
  have HN := Lib.hid hn
  have HD := Lib.hid hd
  have HB := Lib.hid hb
  clear hn hd hb
  have HS0 := Lib.hid ((hs_new w s t 183).below (ba _ (.cells #[.int .i64 0, .int .i64 0] 183)))
  have HR0 := Lib.hid (hs_new (w.alloc (.cells #[.int .i64 s, .int .i64 t] 183)) 0 0 183)
  have HW0 := Lib.hid (bt (ba w (.cells #[.int .i64 s, .int .i64 t] 183)) (ba _ (.cells #[.int .i64 0, .int .i64 0] 183)))
  have hsz : (w.alloc (.cells #[.int .i64 s, .int .i64 t] 183)).heap.size = w.heap.size + 1 := by simp
  rw [hsz] at HR0
  clear hsz
  go_enter Try.func175, Try.ntmps175
  go_wp2
  go_loopw [6, 9] (fun _ K wr => ∃ (k : Nat) (x y : Int), k ≤ n ∧ K = .int .i64 k ∧ HB2 x y ∧ HS wr w.heap.size x y ∧ HS wr (w.heap.size + 1) 0 0 ∧ Below w.heap.size w wr ∧ hfold 48271 s zs = hfold 48271 x (zs.drop k) ∧ hfold 69621 t zs = hfold 69621 y (zs.drop k)) (fun _ K _ => n - (intOf K).toNat)
  case atStart => exact ⟨0, s, t, Nat.zero_le _, rfl, HB.out, HS0.out, HR0.out, HW0.out, rfl, rfl⟩
  case round =>
    obtain ⟨k, x, y, hk, rfl, hxy, hs, hr, hbel, e1, e2⟩ := hrel
    by_cases hkn : k < n
    · obtain ⟨b, off, z, rfl, hbl, hc, hdr⟩ := (hz.below hbel (Nat.le_refl _)).at (k := k) (by have := HN.out; omega)
      obtain ⟨z0, z1⟩ := HD.out z (mem_drop hdr)
      have HE := Lib.hid (And.intro (hfold_step hdr e1) (hfold_step hdr e2))
      obtain ⟨⟨m0, m1⟩, q0, q1⟩ := parts z0 z1
      have HXY := Lib.hid hxy
      have HSr := Lib.hid hs
      have HRr := Lib.hid hr
      have HWr := Lib.hid hbel
      obtain ⟨c0, c1, cf⟩ := hs
      clear e1 e2 hdr hxy hr hbel cf
      go_wp2_with fail
      refine (absorbWordB_any _ _ _ HXY.out m0 m1 _).mono ?_
      rintro e w1 ⟨rfl, hb1⟩
      have HX1 := Lib.hid (hb_w 48271 69621 x y (z % 2147483648) (z % 2147483648))
      have HS1 := Lib.hid (HSr.out.below hb1)
      have HR1 := Lib.hid (HRr.out.below hb1)
      have HW1 := Lib.hid (HWr.out.trans (hb1.mono HWr.out.size))
      clear hb1 c0 c1
      go_wp2_with fail
      refine (absorbWordB_any _ _ _ HX1.out q0 q1 _).mono ?_
      rintro e w2 ⟨rfl, hb2⟩
      have HS2 := Lib.hid (HS1.out.below hb2)
      have HR2 := Lib.hid (HR1.out.below hb2)
      have HW2 := Lib.hid (HW1.out.trans (hb2.mono HW1.out.size))
      obtain ⟨d0, d1, df⟩ := HS2.out
      have df0 := df 0
      have df1 := df 1
      clear hb2 df
      go_wp2
      go_roundw
      case rel => exact ⟨k + 1, _, _, by omega, by go_num, hb_ab _ _ _ _ _ _, HS2.out.set _ _, (HR2.out.other _ _ (by simp)).other _ _ (by simp), (HW2.out.setCell (Nat.le_refl _) _).setCell (Nat.le_refl _) _, HE.out.1, HE.out.2⟩
      case measure => simp only [intOf]; omega
    · have HE := Lib.hid (And.intro e1 e2)
      have HWr := Lib.hid hbel
      obtain ⟨c0, c1, cf⟩ := hs
      obtain ⟨d0, d1, df⟩ := hr
      have df0 := df 0
      have df1 := df 1
      clear e1 e2 hbel cf df hxy
      go_wp2
      (try simp only [Exit.inBlock, Exit.then])
      refine bodyPost_ret (v := hv x y) ?_ rfl ⟨?_, ?_⟩
      · rw [results_cell_one rfl]; go_simp
      · have h1 := HE.out.1
        have h2 := HE.out.2
        rw [List.drop_of_length_le (by have := HN.out; omega)] at h1 h2
        rw [h1, h2]; rfl
      · exact (HWr.out.setCell (by simp) _).setCell (by simp) _

theorem hdigest_any (s t : Int) (hb : HB2 s t) (w : World) :
    Calls Try.prog 143 #[hv s t] w fun e w' => e = .returned (.int .i64 (2147483648 * s + t)) ∧ Below w.heap.size w w' := by
  obtain ⟨⟨s0, s1⟩, t0, t1⟩ := hb
  go_enter Try.func143, Try.ntmps143
  go_wp2
  go_ret
  exact ⟨rfl, ba _ _⟩

set_option maxHeartbeats 800000 in
theorem startHash_any (n : Int) (n0 : 0 ≤ n) (n1 : n ≤ 4611686018427387903) (w : World) :
    Calls Try.prog 174 #[.int .i64 n] w fun e w' => e = .returned (hv (hab 48271 1 n) (hab 69621 2 n)) ∧ Below w.heap.size w w' := by
  have HR0 := Lib.hid (hs_new w 0 0 164)
  go_enter Try.func174, Try.ntmps174
  go_wp2_with fail
  refine (absorb_any 1 2 (by unfold HB2; decide) _ 1 1 [n] rfl (by decide) (by simp; omega) _ (ints_spot (w.alloc (.cells #[.int .i64 0, .int .i64 0] 164)) _ (by simp) [n] 3)).mono ?_
  rintro e w1 ⟨rfl, hb1⟩
  have hal := ba (w.alloc (.cells #[.int .i64 0, .int .i64 0] 164)) (.cells #[.int .i64 n] 3)
  have HR1 := Lib.hid ((HR0.out.below hal).below hb1)
  have HW1 := Lib.hid (bt (bt (ba w _) hal) hb1)
  obtain ⟨d0, d1, df⟩ := HR1.out
  have df0 := df 0
  have df1 := df 1
  clear hb1 hal df
  go_wp2
  (try simp only [Exit.inBlock, Exit.then])
  refine bodyPost_ret (v := hv (hab 48271 1 n) (hab 69621 2 n)) ?_ rfl ⟨rfl, ?_⟩
  · rw [results_cell_one rfl]; go_simp; exact ⟨rfl, rfl⟩
  · exact (HW1.out.setCell (Nat.le_refl _) _).setCell (Nat.le_refl _) _

end Go.Proofs.Ytdnofcpobpoehaa

/- HashInts of the program and of the reference. -/
namespace Go.Proofs.Ytdnofcpobpoehaa
open Go.RowKit

theorem l3Digest_any (d : Int) (w : World) :
    Calls Try.prog 146 #[.int .i64 d] w fun e w' => e = .returned (.bool (digB d)) ∧ w = w' := by
  go_enter Try.func146, Try.ntmps146
  go_wp2_with fail
  refine (l1In_any _ _ _ _).mono ?_
  rintro e w' ⟨rfl, rfl⟩
  go_wp2
  go_ret
  exact ⟨rfl, rfl⟩

/-! ### HashInts of the program -/
/-! ### HashInts of the reference -/
def hwf (c s : Int) (ks : List Int) : Int := ks.foldl (hw c) s
theorem hwf_step {c s t : Int} {zs rest : List Int} {z : Int} {k : Nat} (h : zs.drop k = z :: rest) (hb : t = hwf c s (zs.drop k)) : t = hwf c (hw c s z) rest := by
  rw [hb, h]; rfl
def two (x : Int) : List Int := [x % 2147483648, x / 2147483648]
theorem hwf_two (c s x : Int) : hwf c s (two x) = hab c s x := rfl

set_option maxRecDepth 100000 in
set_option maxHeartbeats 1600000 in
theorem sAbsorb_any (g : Nat) (s t x : Int) (hb : HB2 s t) (x0 : 0 ≤ x) (x1 : x ≤ 4611686018427387903) (w : World) (hs : HS w g s t) :
    Calls Try.prog 176 #[.pointer (some ⟨g, 0, none⟩), .int .i64 x] w fun e w' => e = .returned (.tuple #[]) ∧ HS w' g (hab 48271 s x) (hab 69621 t x) ∧ w.grownBy w' (some g) := by
  have hgl := hs.lt
  have hne : w.heap.size ≠ g := by omega
  obtain ⟨p0, p1⟩ := parts x0 x1
  have hal := ba w (.cells #[.int .i64 (x % 2147483648), .int .i64 (x / 2147483648)] 3)
  have HS0 := Lib.hid (hs.below hal)
  have HG0 := Lib.hid (grown_of_below hal (some g))
  have HI0 := Lib.hid (show IsInts (w.alloc (.cells #[.int .i64 (x % 2147483648), .int .i64 (x / 2147483648)] 3)) (some ⟨w.heap.size, 0, none⟩) (two x) from ints_spot w _ rfl (two x) 3)
  have HB := Lib.hid hb
  have HK := Lib.hid (show ∀ z ∈ two x, 0 ≤ z ∧ z < 2147483648 from by
    intro z hz
    simp only [two, List.mem_cons, List.not_mem_nil, or_false] at hz
    rcases hz with rfl | rfl
    · exact p0
    · exact p1)
  have HE := Lib.hid (And.intro (hwf_two 48271 s x) (hwf_two 69621 t x))
  clear hs hal hb
  rw [← HE.out.1, ← HE.out.2]
  have HL := Lib.hid (show (two x).length = 2 from rfl)
  go_enter Try.func176, Try.ntmps176
  go_wp2
  go_loopw [5, 12] (fun _ K wr => ∃ (k : Nat) (a b : Int), k ≤ 2 ∧ K = .int .i64 k ∧ HB2 a b ∧ HS wr g a b ∧ w.grownBy wr (some g) ∧ IsInts wr (some ⟨w.heap.size, 0, none⟩) (two x) ∧ hwf 48271 s (two x) = hwf 48271 a ((two x).drop k) ∧ hwf 69621 t (two x) = hwf 69621 b ((two x).drop k)) (fun _ K _ => 2 - (intOf K).toNat)
  case atStart => exact ⟨0, s, t, Nat.zero_le _, rfl, HB.out, HS0.out, HG0.out, HI0.out, rfl, rfl⟩
  case round =>
    clear p0 p1
    obtain ⟨k, a, b, hk, rfl, hab', hs, hg, hi, e1, e2⟩ := hrel
    by_cases hk2 : k < 2
    · have hk2i : (k : Int) < 2 := by omega
      obtain ⟨bb, off, z, hba, hbl, hc, hdr⟩ := hi.at (k := k) (by have := HL.out; omega)
      obtain ⟨rfl, rfl⟩ : w.heap.size = bb ∧ 0 = off := by simpa using hba
      rw [Nat.zero_add] at hc
      obtain ⟨z0, z1⟩ := HK.out z (mem_drop hdr)
      have HW := Lib.hid (And.intro (hwf_step hdr e1) (hwf_step hdr e2))
      obtain ⟨⟨a0, a1⟩, b0, b1⟩ := hab'
      have HG := Lib.hid hg
      have HI := Lib.hid hi
      have HSr := Lib.hid hs
      obtain ⟨c0, c1, cf⟩ := hs
      have cf0 := cf 0
      have cf1 := cf 1
      clear e1 e2 hdr hg hi hba cf
      go_wp2
      go_roundw
      case rel =>
        refine ⟨k + 1, _, _, by omega, by go_num, hb_w 48271 69621 a b z z, HSr.out.set _ _, ?_, ?_, HW.out.1, HW.out.2⟩
        · exact grown_trans (grown_trans HG.out (grown_cell _ ⟨g, 0, none⟩ _)) (grown_cell _ ⟨g, 1, none⟩ _)
        · exact (HI.out.grown (grown_cell _ ⟨g, 0, none⟩ _) (by rintro _ ⟨⟩; simpa using hne)).grown (grown_cell _ ⟨g, 1, none⟩ _) (by rintro _ ⟨⟩; simpa using hne)
      case measure => simp only [intOf]; omega
    · have HW := Lib.hid (And.intro e1 e2)
      have HG := Lib.hid hg
      have HSr := Lib.hid hs
      clear e1 e2 hg hi hs hab'
      go_wp2
      go_end0
      have h1 := HW.out.1
      have h2 := HW.out.2
      rw [List.drop_of_length_le (by have := HL.out; omega)] at h1 h2
      refine ⟨rfl, ?_, HG.out⟩
      rw [h1, h2]
      exact HSr.out

set_option maxRecDepth 100000 in
set_option maxHeartbeats 1600000 in
theorem shInts_any (ad : Option Addr) (n cap : Nat) (zs : List Int) (hn : zs.length = n) (hl : n ≤ 1152921504606846976) (hd : ∀ z ∈ zs, 0 ≤ z ∧ z ≤ 4611686018427387903) (w : World) (hz : IsInts w ad zs) :
    Calls Try.prog 168 #[.slice ad n cap] w fun e w' => e = .returned (.int .i64 (hlist zs)) ∧ Below w.heap.size w w' := by
  have hn0 : 0 ≤ (n : Int) := by omega
  have e3 : hlist zs = 2147483648 * hfold 48271 (hab 48271 1 n) zs + hfold 69621 (hab 69621 2 n) zs := by rw [← hn]; rfl
  rw [e3]
  have HN := Lib.hid hn
  have HD := Lib.hid hd
  have HS0 := Lib.hid (hs_new w 1 2 187)
  have HW0 := Lib.hid (ba w (.cells #[.int .i64 1, .int .i64 2] 187))
  clear e3 hn hd
  go_enter Try.func168, Try.ntmps168
  go_wp2_with fail
  refine (sAbsorb_any w.heap.size 1 2 n (by unfold HB2; decide) hn0 (by omega) _ HS0.out).mono ?_
  rintro e w1 ⟨rfl, hs1, hg1⟩
  have HS1 := Lib.hid hs1
  have HW1 := Lib.hid (below_own HW0.out hg1)
  clear hs1 hg1
  go_wp2
  go_loopw [5, 14] (fun _ K wr => ∃ (k : Nat) (a b : Int), k ≤ n ∧ K = .int .i64 k ∧ HB2 a b ∧ HS wr w.heap.size a b ∧ Below w.heap.size w wr ∧ hfold 48271 (hab 48271 1 n) zs = hfold 48271 a (zs.drop k) ∧ hfold 69621 (hab 69621 2 n) zs = hfold 69621 b (zs.drop k)) (fun _ K _ => n - (intOf K).toNat)
  case atStart => exact ⟨0, _, _, Nat.zero_le _, rfl, hb_ab _ _ _ _ _ _, HS1.out, HW1.out, rfl, rfl⟩
  case round =>
    obtain ⟨k, a, b, hk, rfl, hab', hs, hbel, e1, e2⟩ := hrel
    by_cases hkn : k < n
    · obtain ⟨bb, off, z, rfl, hbl, hc, hdr⟩ := (hz.below hbel (Nat.le_refl _)).at (k := k) (by have := HN.out; omega)
      obtain ⟨z0, z1⟩ := HD.out z (mem_drop hdr)
      have HE := Lib.hid (And.intro (hfold_step hdr e1) (hfold_step hdr e2))
      have HXY := Lib.hid hab'
      have HSr := Lib.hid hs
      have HWr := Lib.hid hbel
      clear e1 e2 hdr hab' hbel hs
      go_wp2_with fail
      refine (sAbsorb_any w.heap.size a b z HXY.out z0 z1 _ HSr.out).mono ?_
      rintro e w2 ⟨rfl, hs2, hg2⟩
      have HS2 := Lib.hid hs2
      have HW2 := Lib.hid (below_own HWr.out hg2)
      clear hs2 hg2 hc
      go_wp2
      go_roundw
      case rel => exact ⟨k + 1, _, _, by omega, by go_num, hb_ab _ _ _ _ _ _, HS2.out, HW2.out, HE.out.1, HE.out.2⟩
      case measure => simp only [intOf]; omega
    · have HE := Lib.hid (And.intro e1 e2)
      have HWr := Lib.hid hbel
      obtain ⟨⟨a0, a1⟩, b0, b1⟩ := hab'
      obtain ⟨c0, c1, _⟩ := hs
      clear e1 e2 hbel
      go_wp2
      go_quiet (fail)
      go_wp2
      go_ret
      refine ⟨?_, below_drewN HWr.out _⟩
      have h1 := HE.out.1
      have h2 := HE.out.2
      rw [List.drop_of_length_le (by have := HN.out; omega)] at h1 h2
      rw [h1, h2]
      show Ending.returned (.int .i64 (a * 2147483648 + b)) = Ending.returned (.int .i64 (2147483648 * a + b))
      rw [Int.mul_comm]

end Go.Proofs.Ytdnofcpobpoehaa

