/- ElGamal: the reference's encryption, decryption, products. -/
import Derived.Test.YtafoenoilcgjdaaElI
namespace Go.Proofs.Ytafoenoilcgjdaa
open Go.RowKit


theorem lit2 (V : World) (b : Nat) (hb : V.heap.size = b) (x y : Int) (t : TypeId) : IsInts (V.alloc (.cells #[.int .i64 x, .int .i64 y] t)) (some ⟨b, 0, none⟩) [x, y] := ints_spot7 V b hb [x, y] t
theorem lit2d (V : World) (b : Nat) (hb : V.heap.size = b) (x y : Int) (t : TypeId) : IsInts (V.alloc (.cells #[.int .i64 x, .int .i64 y] t)).drew (some ⟨b, 0, none⟩) [x, y] := ints_spot7 V b hb [x, y] t
theorem lit2b (V : World) (b : Nat) (hb : V.heap.size = b) (x y : Int) (t : TypeId) (o : Obj) : IsInts ((V.alloc (.cells #[.int .i64 x, .int .i64 y] t)).alloc o) (some ⟨b, 0, none⟩) [x, y] := (ints_spot7 V b hb [x, y] t).below (ba _ _) (Nat.le_refl _)
theorem lit2bd (V : World) (b : Nat) (hb : V.heap.size = b) (x y : Int) (t : TypeId) (o : Obj) : IsInts ((V.alloc (.cells #[.int .i64 x, .int .i64 y] t)).alloc o).drew (some ⟨b, 0, none⟩) [x, y] := (ints_spot7 V b hb [x, y] t).below (ba _ _).drew (Nat.le_refl _)
theorem lit_below {V v' : World} {x y : Int} {t : TypeId} (h : Below (V.alloc (.cells #[.int .i64 x, .int .i64 y] t)).heap.size (V.alloc (.cells #[.int .i64 x, .int .i64 y] t)) v') : IsInts v' (some ⟨V.heap.size, 0, none⟩) [x, y] := (ints_spot7 V V.heap.size rfl [x, y] t).below h (Nat.le_refl _)

theorem gMul2_any (P Q G : Int) {x y : Int} {b : Nat} (h2 : 2 ≤ P) (h3 : P ≤ 2000000000) (w : World) (hz : IsInts w (some ⟨b, 0, none⟩) [x, y]) (hx : 0 ≤ x ∧ x < P) (hy : 0 ≤ y ∧ y < P) :
    Calls Try.prog 57 #[gv P Q G, .slice (some ⟨b, 0, none⟩) 2 2] w fun e w' => e = .returned (.int .i64 (x * y % P)) ∧ Below w.heap.size w w' := by
  refine (gMul_any P Q G _ 2 2 [x, y] rfl (by decide) h2 h3 ?_ _ hz).mono ?_
  · intro z hz'
    simp only [List.mem_cons, List.not_mem_nil, or_false] at hz'
    rcases hz' with rfl | rfl
    · exact hx
    · exact hy
  · rw [mulFrom_two hx.1 hx.2]
    exact fun _ _ h => h


set_option maxRecDepth 100000 in
set_option maxHeartbeats 3200000 in
theorem eEnc_any (P Q G key m r : Int) (hP : 2 ≤ P ∧ P ≤ 2000000000) (hQ2 : 2 ≤ Q) (hQr : Q ≤ 2000000000) (hG : 0 ≤ G ∧ G < P) (hk : 0 ≤ key ∧ key < P) (hm : 0 ≤ m ∧ m < P) (hr : 0 ≤ r ∧ r < Q) (w : World) :
    Calls Try.prog 111 #[gv P Q G, .int .i64 key, .int .i64 m, .int .i64 r] w fun e w' => e = .returned (cv (Num.pow G r P) (m * Num.pow key r P % P)) ∧ Below w.heap.size w w' := by
  obtain ⟨y0, y1⟩ := pow_lt key r P hP.1
  have G_0 := Lib.hid ((gr_at w (w.heap.size) (by simp) P Q G 27).below (ba (w.alloc (.cells #[.int .i64 P, .int .i64 Q, .int .i64 G] 27)) (.cells #[.int .i64 0, .int .i64 0] 61)))
  have R_0 := Lib.hid (c2_at (w.alloc (.cells #[.int .i64 P, .int .i64 Q, .int .i64 G] 27)) (w.heap.size + 1) (by simp) 0 0 61)
  have HB_0 := Lib.hid (show Below w.heap.size w ((w.alloc (.cells #[.int .i64 P, .int .i64 Q, .int .i64 G] 27)).alloc (.cells #[.int .i64 0, .int .i64 0] 61)) from bt (ba _ _) (ba _ _))
  go_enter Try.func111, Try.ntmps111
  go_wp2_with fail
  obtain ⟨c0, c1, c2⟩ := G_0.out
  go_region_held3 (fun w' => w'.cell? ⟨w.heap.size, 0, none⟩ = some (.int .i64 P) ∧ w'.cell? ⟨w.heap.size, 1, none⟩ = some (.int .i64 Q) ∧ w'.cell? ⟨w.heap.size, 2, none⟩ = some (.int .i64 G)) (first | with_reducible exact ⟨x0, x1, x2⟩ | with_reducible exact ⟨HGp.out.1, HGp.out.2.1, HGp.out.2.2⟩ | exact ⟨(HGp.out.below (ba _ _)).1, (HGp.out.below (ba _ _)).2.1, (HGp.out.below (ba _ _)).2.2⟩ | exact ⟨(gr_pair HGp.out (by omega) _ _).1, (gr_pair HGp.out (by omega) _ _).2.1, (gr_pair HGp.out (by omega) _ _).2.2⟩ | exact ⟨c0, c1, c2⟩) ((first
    | (go_at_call 57; refine (gMul2_any P Q G hP.1 hP.2 _ (by first | with_reducible exact HLp.out | with_reducible exact lit2 _ _ rfl _ _ _ | exact lit2 _ _ (by simp) _ _ _) ⟨by omega, by omega⟩ ⟨by omega, by omega⟩).mono ?_; rintro e vp ⟨rfl, hp⟩; have HBp := Lib.hid (show Below w.heap.size w vp from by first | exact bt HBp.out hp | exact bt (bt HBp.out (ba _ _)) hp | exact bt_drop HB_0.out hp); have HGp := Lib.hid (show GR vp w.heap.size P Q G from by first | exact HGp.out.below hp | exact (HGp.out.below (ba _ _)).below hp | exact gr_drop G_0.out hp); have HRp := Lib.hid (show C2 vp (w.heap.size + 1) 0 0 from by first | exact HRp.out.below hp | exact (HRp.out.below (ba _ _)).below hp | exact c2_drop R_0.out hp); (first | (have HLp := Lib.hid (lit_below hp)) | skip); clear hp; obtain ⟨x0, x1, x2⟩ := HGp.out; obtain ⟨d0, d1, df⟩ := HRp.out; have df0 := df 0; have df1 := df 1; clear df)
    | (go_at_call 79; refine (gExp_any P Q G _ r (by omega) (by omega) hr.1 hr.2 hP.1 hP.2 hQ2 hQr _).mono ?_; rintro e vp ⟨rfl, hp⟩; have HBp := Lib.hid (show Below w.heap.size w vp from by first | exact bt HBp.out hp | exact bt (bt HBp.out (ba _ _)) hp | exact bt_drop HB_0.out hp); have HGp := Lib.hid (show GR vp w.heap.size P Q G from by first | exact HGp.out.below hp | exact (HGp.out.below (ba _ _)).below hp | exact gr_drop G_0.out hp); have HRp := Lib.hid (show C2 vp (w.heap.size + 1) 0 0 from by first | exact HRp.out.below hp | exact (HRp.out.below (ba _ _)).below hp | exact c2_drop R_0.out hp); (first | (have HLp := Lib.hid (lit_below hp)) | skip); clear hp; obtain ⟨x0, x1, x2⟩ := HGp.out; obtain ⟨d0, d1, df⟩ := HRp.out; have df0 := df 0; have df1 := df 1; clear df)
    | fail))
  all_goals (
    go_wp2
    (try simp only [Exit.inBlock, Exit.then])
    refine bodyPost_ret (v := cv (Num.pow G r P) (m * Num.pow key r P % P)) ?_ rfl ⟨rfl, ?_⟩
    · rw [results_cell_one rfl]; go_simp
    · first | exact set_below HBp.out (w.heap.size + 1) (by omega) _ _ | exact set_below HBp.out.drew (w.heap.size + 1) (by omega) _ _)

end Go.Proofs.Ytafoenoilcgjdaa

