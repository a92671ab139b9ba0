/- What the laws of layer 6 draw: any exponents, ciphertexts; DrawDecryptElement, DrawEncryptElement. -/
import Derived.Test.YtmihnohnfdjcaaaElA
import Derived.Test.YtmihnohnfdjcaaaDrG9
import Derived.Test.YtmihnohnfdjcaaaElG
import Derived.Test.YtmihnohnfdjcaaaElL
namespace Go.Proofs.Ytmihnohnfdjcaaa
open Go.RowKit


theorem C2.grown {w w' : World} {b g : Nat} {x y : Int} (h : C2 w b x y) (hg : w.grownBy w' (some g)) (hne : b ≠ g) : C2 w' b x y := by
  have hl := h.lt
  obtain ⟨c0, c1, hf⟩ := h
  have hn : some b ≠ some g := by simp [hne]
  exact ⟨hg.cell (a := ⟨b, 0, none⟩) c0 hn, hg.cell (a := ⟨b, 1, none⟩) c1 hn, fun i => by rw [frozen_grown hg hl hne]; exact hf i⟩
def AnyExPost (w : World) (g k : Nat) (e : Ending) (w' : World) : Prop :=
  ∃ x : Int, e = .returned (.int .i64 x) ∧ (-3 ≤ x ∧ x ≤ 2000000000) ∧ Cur w' g k ∧ w.grownBy w' (some g)

set_option maxHeartbeats 1000000 in
theorem anyExpo_any (g k : Nat) (hk : k ≤ 900000000) (P Q G : Int) (q0 : -1 ≤ Q) (q1 : Q ≤ 2000000000) (w : World) (hc : Cur w g k) :
    Calls Try.prog 64 #[.pointer (some ⟨g, 0, none⟩), gv P Q G] w (AnyExPost w g (k + 6)) := by
  have hgl := hc.lt
  have hal := ba w (.cells #[.int .i64 P, .int .i64 Q, .int .i64 G] 24)
  have HC := Lib.hid (hc.below hal)
  have HG := Lib.hid (grown_below hal (some g))
  have HR := Lib.hid (gr_new w P Q G 24)
  have hne : w.heap.size ≠ g := by omega
  clear hc hal
  have hw3 : IntKind.i64.wrap (Q - 1) = Q - 1 := by rw [IntKind.wrap_i64]; omega
  obtain ⟨b0, b1, b2⟩ := HR.out
  go_enter Try.func64, Try.ntmps64
  go_wp2_with fail
  refine (one_any g k 24 (by omega) (by omega) _ HC.out).mono ?_
  rintro e w1 ⟨b, rfl, hc1, hg1⟩
  have HC1 := Lib.hid hc1
  have HG1 := Lib.hid (grown_trans HG.out hg1)
  have HR1 := Lib.hid (HR.out.grown hg1 hne)
  clear hc1 hg1 b0 b1 b2
  obtain ⟨c0, c1, c2⟩ := HR1.out
  cases b
  · go_wp2_with fail
    refine (expo_any g _ (by omega) P Q G q0 q1 _ HC1.out).mono ?_
    rintro e w2 ⟨x, rfl, hx, hc2, hg2⟩
    have HC2 := Lib.hid hc2
    have HG2 := Lib.hid (grown_trans HG1.out hg2)
    clear hc2 hg2
    go_wp2
    go_ret
    exact ⟨x, rfl, ⟨by omega, by omega⟩, HC2.out.mono (by omega), HG2.out⟩
  · go_wp2_with fail
    have hal2 := ba w1 (.cells #[.int .i64 Q, .int .i64 (-1), .int .i64 (Q - 1)] 3)
    refine (among_any g _ _ _ _ [Q, -1, Q - 1] (by omega) rfl (by simp) (by simp) (by rintro a ⟨⟩; have := HC1.out.lt; simp; omega) _ (ints_lit w1 [Q, -1, Q - 1] 3) (HC1.out.below hal2)).mono ?_
    rintro e w3 ⟨q, rfl, hm, hc4, hg4⟩
    have hq : -3 ≤ q ∧ q ≤ 2000000000 := by
      simp at hm
      omega
    have HC4 := Lib.hid hc4
    have HG4 := Lib.hid (grown_trans HG1.out (grown_trans (grown_below hal2 (some g)) hg4))
    clear hc4 hg4 hal2 hm
    go_wp2
    go_ret
    exact ⟨q, rfl, hq, HC4.out.mono (by omega), HG4.out⟩

def AnyCiPost (w : World) (g k : Nat) (e : Ending) (w' : World) : Prop :=
  ∃ a b : Int, e = .returned (cv a b) ∧ ((-8 ≤ a ∧ a ≤ 2000000000) ∧ (-8 ≤ b ∧ b ≤ 2000000000)) ∧ Cur w' g k ∧ w.grownBy w' (some g)


set_option maxRecDepth 100000 in
set_option maxHeartbeats 4000000 in
theorem anyCipher_any (g k : Nat) (hk : k ≤ 800000000) (P Q G : Int) (p0 : -7 ≤ P) (p1 : P ≤ 2000000000) (q0 : -1 ≤ Q) (q1 : Q ≤ 2000000000) (g0 : -1 ≤ G) (g1 : G ≤ 2000000001) (w : World) (hc : Cur w g k) :
    Calls Try.prog 65 #[.pointer (some ⟨g, 0, none⟩), gv P Q G] w (AnyCiPost w g (k + 8 + 8)) := by
  have hgl := hc.lt
  have hal1 := ba w (.cells #[.int .i64 P, .int .i64 Q, .int .i64 G] 24)
  have hal2 := ba (w.alloc (.cells #[.int .i64 P, .int .i64 Q, .int .i64 G] 24)) (.cells #[.int .i64 0, .int .i64 0] 26)
  have HC := Lib.hid ((hc.below hal1).below hal2)
  have HG := Lib.hid (grown_below (bt hal1 hal2) (some g))
  have HR := Lib.hid ((gr_new w P Q G 24).below hal2)
  have HX := Lib.hid (c2_at (w.alloc (.cells #[.int .i64 P, .int .i64 Q, .int .i64 G] 24)) (w.heap.size + 1) (by simp) 0 0 26)
  have hne : w.heap.size ≠ g := by omega
  have hne1 : w.heap.size + 1 ≠ g := by omega
  clear hc hal1 hal2
  obtain ⟨b0, b1, b2⟩ := HR.out
  go_enter Try.func65, Try.ntmps65
  go_wp2_with fail
  go_region_held3 (fun w' => w'.cell? ⟨w.heap.size, 0, none⟩ = some (.int .i64 P) ∧ w'.cell? ⟨w.heap.size, 1, none⟩ = some (.int .i64 Q) ∧ w'.cell? ⟨w.heap.size, 2, none⟩ = some (.int .i64 G)) (first | with_reducible exact ⟨y0, y1, y2⟩ | with_reducible exact ⟨x0, x1, x2⟩ | exact ⟨b0, b1, b2⟩ | exact ⟨cell_pair y0 (by omega) _ _, cell_pair y1 (by omega) _ _, cell_pair y2 (by omega) _ _⟩) ((first
    | (have HLx := HCp; go_at_call 73; refine (anyElement_any g (k + 8) (by omega) P Q G p0 p1 q0 q1 g0 g1 _ HCp.out).mono ?_; rintro e vq ⟨b, rfl, hbr, hcq, hgq⟩; have HCq := Lib.hid hcq; have HGq := Lib.hid (grown_trans HGp.out hgq); have HRq := Lib.hid (HRp.out.grown hgq hne); have HXq := Lib.hid (HXp.out.grown hgq hne1); have HBq := Lib.hid hbr; obtain ⟨y0, y1, y2⟩ := HRq.out; obtain ⟨d0, d1, df⟩ := HXq.out; have df0 := df 0; have df1 := df 1; clear df hcq hgq hbr)
    | (go_at_call 73; refine (anyElement_any g k (by omega) P Q G p0 p1 q0 q1 g0 g1 _ HC.out.drew).mono ?_; rintro e vp ⟨a, rfl, har, hcp, hgp⟩; have hgp' := grown_trans (grown_drew _ _) hgp; have HCp := Lib.hid hcp; have HGp := Lib.hid (grown_trans HG.out hgp'); have HRp := Lib.hid (HR.out.grown hgp' hne); have HXp := Lib.hid (HX.out.grown hgp' hne1); have HAp := Lib.hid har; obtain ⟨x0, x1, x2⟩ := HRp.out; clear hcp hgp hgp' har)
    | fail))
  all_goals (
    have har := HAp.out
    have hbr := HBq.out
    go_wp2
    (try simp only [Exit.inBlock, Exit.then])
    refine bodyPost_ret (v := cv a b) ?_ rfl ⟨a, b, rfl, ⟨⟨by omega, by omega⟩, ⟨by omega, by omega⟩⟩, ?_, ?_⟩
    · rw [results_cell_one rfl]; go_simp
    · exact ((HCq.out.other _ _ (by simp; omega)).other _ _ (by simp; omega)).mono (by omega)
    · exact grown_set (grown_set HGq.out _ _ (by simp)) _ _ (by simp))


set_option maxRecDepth 100000 in
set_option maxHeartbeats 4000000 in
theorem cipher_any (g k : Nat) (hk : k ≤ 800000000) (P Q G : Int) (p0 : -7 ≤ P) (p1 : P ≤ 2000000000) (q0 : -1 ≤ Q) (q1 : Q ≤ 2000000000) (g0 : -1 ≤ G) (g1 : G ≤ 2000000001) (w : World) (hc : Cur w g k) :
    Calls Try.prog 112 #[.pointer (some ⟨g, 0, none⟩), gv P Q G] w (AnyCiPost w g (k + 4 + 4)) := by
  have hgl := hc.lt
  have hal1 := ba w (.cells #[.int .i64 P, .int .i64 Q, .int .i64 G] 24)
  have hal2 := ba (w.alloc (.cells #[.int .i64 P, .int .i64 Q, .int .i64 G] 24)) (.cells #[.int .i64 0, .int .i64 0] 26)
  have HC := Lib.hid ((hc.below hal1).below hal2)
  have HG := Lib.hid (grown_below (bt hal1 hal2) (some g))
  have HR := Lib.hid ((gr_new w P Q G 24).below hal2)
  have HX := Lib.hid (c2_at (w.alloc (.cells #[.int .i64 P, .int .i64 Q, .int .i64 G] 24)) (w.heap.size + 1) (by simp) 0 0 26)
  have hne : w.heap.size ≠ g := by omega
  have hne1 : w.heap.size + 1 ≠ g := by omega
  clear hc hal1 hal2
  obtain ⟨b0, b1, b2⟩ := HR.out
  go_enter Try.func112, Try.ntmps112
  go_wp2_with fail
  go_region_held3 (fun w' => w'.cell? ⟨w.heap.size, 0, none⟩ = some (.int .i64 P) ∧ w'.cell? ⟨w.heap.size, 1, none⟩ = some (.int .i64 Q) ∧ w'.cell? ⟨w.heap.size, 2, none⟩ = some (.int .i64 G)) (first | with_reducible exact ⟨y0, y1, y2⟩ | with_reducible exact ⟨x0, x1, x2⟩ | exact ⟨b0, b1, b2⟩ | exact ⟨cell_pair y0 (by omega) _ _, cell_pair y1 (by omega) _ _, cell_pair y2 (by omega) _ _⟩) ((first
    | (have HLx := HCp; go_at_call 109; refine (element_any g (k + 4) (by omega) P Q G p0 p1 q0 q1 g0 g1 _ HCp.out).mono ?_; rintro e vq ⟨b, rfl, hbr, hcq, hgq⟩; have HCq := Lib.hid hcq; have HGq := Lib.hid (grown_trans HGp.out hgq); have HRq := Lib.hid (HRp.out.grown hgq hne); have HXq := Lib.hid (HXp.out.grown hgq hne1); have HBq := Lib.hid hbr; obtain ⟨y0, y1, y2⟩ := HRq.out; obtain ⟨d0, d1, df⟩ := HXq.out; have df0 := df 0; have df1 := df 1; clear df hcq hgq hbr)
    | (go_at_call 109; refine (element_any g k (by omega) P Q G p0 p1 q0 q1 g0 g1 _ HC.out.drew).mono ?_; rintro e vp ⟨a, rfl, har, hcp, hgp⟩; have hgp' := grown_trans (grown_drew _ _) hgp; have HCp := Lib.hid hcp; have HGp := Lib.hid (grown_trans HG.out hgp'); have HRp := Lib.hid (HR.out.grown hgp' hne); have HXp := Lib.hid (HX.out.grown hgp' hne1); have HAp := Lib.hid har; obtain ⟨x0, x1, x2⟩ := HRp.out; clear hcp hgp hgp' har)
    | fail))
  all_goals (
    have har := HAp.out
    have hbr := HBq.out
    go_wp2
    (try simp only [Exit.inBlock, Exit.then])
    refine bodyPost_ret (v := cv a b) ?_ rfl ⟨a, b, rfl, ⟨⟨by omega, by omega⟩, ⟨by omega, by omega⟩⟩, ?_, ?_⟩
    · rw [results_cell_one rfl]; go_simp
    · exact ((HCq.out.other _ _ (by simp; omega)).other _ _ (by simp; omega)).mono (by omega)
    · exact grown_set (grown_set HGq.out _ _ (by simp)) _ _ (by simp))


theorem results_ctc {fn : Func} {p u q : Tmp} {ty ty2 : TypeId} (h : fn.results = #[.cell p ty, .tmp u, .cell q ty2]) (tmps : Array Value) (P : Program) (w : World) :
    (results fn tmps).run P w =
      ((asAddr (tmps.getD p undef)).run P w).andThen fun a w₁ => ((loadVar ty a).run P w₁).andThen fun x w₂ => ((asAddr (tmps.getD q undef)).run P w₂).andThen fun b w₃ => ((loadVar ty2 b).run P w₃).andThen fun y w₄ => .ok (.tuple #[x, tmps.getD u undef, y]) w₄ := by
  simp only [results, h]
  simp [Sem.run_bind, Result.andThen]
theorem cell_trip {w : World} {g b o : Nat} {v : Value} (h : w.cell? ⟨b, o, none⟩ = some v) (hne : g ≠ b) (x y z : Value) : (((w.setCell ⟨g, 0, none⟩ x).setCell ⟨g, 1, none⟩ y).setCell ⟨g, 2, none⟩ z).cell? ⟨b, o, none⟩ = some v := by
  rw [World.cell?_setCell_other _ _ _ _ (fun e => hne (congrArg Addr.block e)), World.cell?_setCell_other _ _ _ _ (fun e => hne (congrArg Addr.block e)), World.cell?_setCell_other _ _ _ _ (fun e => hne (congrArg Addr.block e))]; exact h
theorem gr_trip {w : World} {b c : Nat} {P Q G : Int} (h : GR w b P Q G) (hne : c ≠ b) (x y z : Value) : GR (((w.setCell ⟨c, 0, none⟩ x).setCell ⟨c, 1, none⟩ y).setCell ⟨c, 2, none⟩ z) b P Q G := gr_after h hne x y z
def DrawDE (w : World) (e : Ending) (w' : World) : Prop := ∃ P Q G s a b : Int, e = .returned (.tuple #[gv P Q G, .int .i64 s, cv a b]) ∧ DB P Q G ∧ Below w.heap.size w w'

set_option maxRecDepth 100000 in
set_option maxHeartbeats 6400000 in
theorem drawDecryptElement_any (ad : Option Addr) (n cap : Nat) (w : World) (hb : IsB w ad n) :
    Calls Try.prog 18 #[.slice ad n cap] w (DrawDE w) := by
  have hal := ba w (.cells #[.int .i64 0, .int .i64 0, .int .i64 0] 24)
  have hal1 := ba (w.alloc (.cells #[.int .i64 0, .int .i64 0, .int .i64 0] 24)) (.cells #[.int .i64 0, .int .i64 0] 26)
  have HC := Lib.hid (cur_at ((w.alloc (.cells #[.int .i64 0, .int .i64 0, .int .i64 0] 24)).alloc (.cells #[.int .i64 0, .int .i64 0] 26)) (w.heap.size + 1 + 1) (by simp) ad n cap ((hb.below hal).below hal1) 83)
  have hal2 := ba ((w.alloc (.cells #[.int .i64 0, .int .i64 0, .int .i64 0] 24)).alloc (.cells #[.int .i64 0, .int .i64 0] 26)) (.cells #[.slice ad n cap, .int .i64 0, .int .u64 0] 83)
  have HB := Lib.hid (bt (bt hal hal1) hal2)
  have HO := Lib.hid (((own3_new w 0 0 0 24).below hal1).below hal2)
  have HX := Lib.hid ((c2_at (w.alloc (.cells #[.int .i64 0, .int .i64 0, .int .i64 0] 24)) (w.heap.size + 1) (by simp) 0 0 26).below hal2)
  clear hb hal hal1 hal2
  go_enter Try.func18, Try.ntmps18
  go_wp2_with fail
  refine (anyGroup_any (w.heap.size + 1 + 1) 0 (Nat.zero_le _) _ HC.out).mono ?_
  rintro e w1 ⟨P, Q, G, rfl, hd, hc1, hg1⟩
  obtain ⟨⟨p0, p1⟩, ⟨q0, q1⟩, g0, g1⟩ := hd
  have hal3 := ba w1 (.cells #[.int .i64 P, .int .i64 Q, .int .i64 G] 24)
  have hs1 : w.heap.size + 1 + 1 < w1.heap.size := hc1.lt
  have hne : w1.heap.size ≠ w.heap.size + 1 + 1 := by omega
  have hne0 : w1.heap.size ≠ w.heap.size := by omega
  have hneX : w.heap.size + 1 ≠ w1.heap.size := by omega
  have hn1 : w.heap.size ≠ w.heap.size + 1 + 1 := by omega
  have hn2 : w.heap.size + 1 ≠ w.heap.size + 1 + 1 := by omega
  have hle : w.heap.size ≤ w.heap.size + 1 + 1 := by omega
  have HC1 := Lib.hid (hc1.below hal3)
  have HB1 := Lib.hid (bt (below_at HB.out hg1 hle) hal3)
  have HO1 := Lib.hid ((HO.out.grown hg1 hn1).below hal3)
  have HX1 := Lib.hid ((HX.out.grown hg1 hn2).below hal3)
  have HV1 := Lib.hid (gr_new w1 P Q G 24)
  obtain ⟨v0, v1, v2⟩ := HV1.out
  clear hg1 hc1 hal3
  go_wp2_with fail
  go_region_held3 (fun w' => w'.cell? ⟨w1.heap.size, 0, none⟩ = some (.int .i64 P) ∧ w'.cell? ⟨w1.heap.size, 1, none⟩ = some (.int .i64 Q) ∧ w'.cell? ⟨w1.heap.size, 2, none⟩ = some (.int .i64 G)) (first | with_reducible exact ⟨z0, z1, z2⟩ | with_reducible exact ⟨x0, x1, x2⟩ | with_reducible exact ⟨cell_trip z0 (Ne.symm hne0) _ _ _, cell_trip z1 (Ne.symm hne0) _ _ _, cell_trip z2 (Ne.symm hne0) _ _ _⟩ | with_reducible exact ⟨cell_pair z0 hneX _ _, cell_pair z1 hneX _ _, cell_pair z2 hneX _ _⟩ | with_reducible exact ⟨cell_pair (cell_trip z0 (Ne.symm hne0) _ _ _) hneX _ _, cell_pair (cell_trip z1 (Ne.symm hne0) _ _ _) hneX _ _, cell_pair (cell_trip z2 (Ne.symm hne0) _ _ _) hneX _ _⟩ | with_reducible exact ⟨cell_trip (cell_pair z0 hneX _ _) (Ne.symm hne0) _ _ _, cell_trip (cell_pair z1 hneX _ _) (Ne.symm hne0) _ _ _, cell_trip (cell_pair z2 hneX _ _) (Ne.symm hne0) _ _ _⟩ | exact ⟨v0, v1, v2⟩) ((first
    | (go_at_call 64; refine (anyExpo_any (w.heap.size + 1 + 1) 12 (by decide) P Q G q0 q1 _ HC1.out.drew).mono ?_; rintro e wp ⟨s, rfl, _, hcp, hgp⟩; have hk := grown_trans (grown_drew _ _) hgp; have HCp := Lib.hid hcp; have HBp := Lib.hid (below_at HB1.out hk hle); have HVp := Lib.hid (HV1.out.grown hk hne); have HOp := Lib.hid (HO1.out.grown hk hn1); have HXp := Lib.hid (HX1.out.grown hk hn2); obtain ⟨x0, x1, x2⟩ := HVp.out; clear hcp hgp hk)
    | (go_at_call 65; refine (anyCipher_any (w.heap.size + 1 + 1) 18 (by decide) P Q G p0 p1 q0 q1 g0 g1 _ HCp.out).mono ?_; rintro e wz ⟨a, b, rfl, _, hcz, hgz⟩; have HBz := Lib.hid (below_at HBp.out hgz hle); have HVz := Lib.hid (HVp.out.grown hgz hne); have HOz := Lib.hid (HOp.out.grown hgz hn1); have HXz := Lib.hid (HXp.out.grown hgz hn2); obtain ⟨z0, z1, z2⟩ := HVz.out; obtain ⟨⟨d0, d1, d2⟩, df⟩ := HOz.out; have df0 := df 0; have df1 := df 1; have df2 := df 2; obtain ⟨e0, e1, ef⟩ := HXz.out; have ef0 := ef 0; have ef1 := ef 1; clear df ef hcz hgz)
    | fail))
  all_goals (
    go_wp2
    (try simp only [Exit.inBlock, Exit.then])
    refine bodyPost_ret (v := .tuple #[gv P Q G, .int .i64 s, cv a b]) ?_ rfl ⟨P, Q, G, s, a, b, rfl, ⟨⟨p0, p1⟩, ⟨q0, q1⟩, g0, g1⟩, ?_⟩
    · rw [results_ctc rfl]; go_simp
    · first | exact set_below (((HBz.out.setCell (Nat.le_refl _) _).setCell (Nat.le_refl _) _).setCell (Nat.le_refl _) _) (w.heap.size + 1) (by omega) _ _ | exact (((set_below HBz.out (w.heap.size + 1) (by omega) _ _).setCell (Nat.le_refl _) _).setCell (Nat.le_refl _) _).setCell (Nat.le_refl _) _)


def DrawEE (w : World) (e : Ending) (w' : World) : Prop := ∃ P Q G x y z : Int, e = .returned (.tuple #[gv P Q G, .int .i64 x, .int .i64 y, .int .i64 z]) ∧ DB P Q G ∧ Below w.heap.size w w'

set_option maxRecDepth 100000 in
set_option maxHeartbeats 6400000 in
theorem drawEncryptElement_any (ad : Option Addr) (n cap : Nat) (w : World) (hb : IsB w ad n) :
    Calls Try.prog 21 #[.slice ad n cap] w (DrawEE w) := by
  have hal := ba w (.cells #[.int .i64 0, .int .i64 0, .int .i64 0] 24)
  have HC := Lib.hid (cur_at (w.alloc (.cells #[.int .i64 0, .int .i64 0, .int .i64 0] 24)) (w.heap.size + 1) (by simp) ad n cap (hb.below hal) 83)
  have hal2 := ba (w.alloc (.cells #[.int .i64 0, .int .i64 0, .int .i64 0] 24)) (.cells #[.slice ad n cap, .int .i64 0, .int .u64 0] 83)
  have HB := Lib.hid (bt hal hal2)
  have HO := Lib.hid ((own3_new w 0 0 0 24).below hal2)
  clear hb hal hal2
  go_enter Try.func21, Try.ntmps21
  go_wp2_with fail
  refine (anyGroup_any (w.heap.size + 1) 0 (Nat.zero_le _) _ HC.out).mono ?_
  rintro e w1 ⟨P, Q, G, rfl, hd, hc1, hg1⟩
  obtain ⟨⟨p0, p1⟩, ⟨q0, q1⟩, g0, g1⟩ := hd
  have hal3 := ba w1 (.cells #[.int .i64 P, .int .i64 Q, .int .i64 G] 24)
  have hs1 : w.heap.size + 1 < w1.heap.size := hc1.lt
  have hne : w1.heap.size ≠ w.heap.size + 1 := by omega
  have hne0 : w1.heap.size ≠ w.heap.size := by omega
  have hn1 : w.heap.size ≠ w.heap.size + 1 := by omega
  have hle : w.heap.size ≤ w.heap.size + 1 := by omega
  have HC1 := Lib.hid (hc1.below hal3)
  have HB1 := Lib.hid (bt (below_at HB.out hg1 hle) hal3)
  have HO1 := Lib.hid ((HO.out.grown hg1 hn1).below hal3)
  have HV1 := Lib.hid (gr_new w1 P Q G 24)
  obtain ⟨v0, v1, v2⟩ := HV1.out
  clear hg1 hc1 hal3
  go_wp2_with fail
  go_region_held3 (fun w' => w'.cell? ⟨w1.heap.size, 0, none⟩ = some (.int .i64 P) ∧ w'.cell? ⟨w1.heap.size, 1, none⟩ = some (.int .i64 Q) ∧ w'.cell? ⟨w1.heap.size, 2, none⟩ = some (.int .i64 G)) (first | with_reducible exact ⟨z0, z1, z2⟩ | with_reducible exact ⟨y0, y1, y2⟩ | with_reducible exact ⟨x0, x1, x2⟩ | exact ⟨v0, v1, v2⟩ | exact gr_trip HVz.out (Ne.symm hne0) _ _ _) ((first
    | (have HLx := HCp; go_at_call 73; refine (anyElement_any (w.heap.size + 1) 20 (by decide) P Q G p0 p1 q0 q1 g0 g1 _ HCp.out).mono ?_; rintro e wq ⟨y, rfl, _, hcp, hk⟩; have HCq := Lib.hid hcp; have HBq := Lib.hid (below_at HBp.out hk hle); have HVq := Lib.hid (HVp.out.grown hk hne); have HOq := Lib.hid (HOp.out.grown hk hn1); obtain ⟨y0, y1, y2⟩ := HVq.out; clear hcp hk)
    | (go_at_call 73; refine (anyElement_any (w.heap.size + 1) 12 (by decide) P Q G p0 p1 q0 q1 g0 g1 _ HC1.out.drew).mono ?_; rintro e wp ⟨x, rfl, _, hcp, hgp⟩; have hk := grown_trans (grown_drew _ _) hgp; have HCp := Lib.hid hcp; have HBp := Lib.hid (below_at HB1.out hk hle); have HVp := Lib.hid (HV1.out.grown hk hne); have HOp := Lib.hid (HO1.out.grown hk hn1); obtain ⟨x0, x1, x2⟩ := HVp.out; clear hcp hgp hk)
    | (go_at_call 64; refine (anyExpo_any (w.heap.size + 1) 28 (by decide) P Q G q0 q1 _ HCq.out).mono ?_; rintro e wz ⟨z, rfl, _, hcz, hk⟩; have HBz := Lib.hid (below_at HBq.out hk hle); have HVz := Lib.hid (HVq.out.grown hk hne); have HOz := Lib.hid (HOq.out.grown hk hn1); obtain ⟨z0, z1, z2⟩ := HVz.out; obtain ⟨⟨d0, d1, d2⟩, df⟩ := HOz.out; have df0 := df 0; have df1 := df 1; have df2 := df 2; clear df hcz hk)
    | fail))
  all_goals (
    go_wp2
    (try simp only [Exit.inBlock, Exit.then])
    refine bodyPost_ret (v := .tuple #[gv P Q G, .int .i64 x, .int .i64 y, .int .i64 z]) ?_ rfl ⟨P, Q, G, x, y, z, rfl, ⟨⟨p0, p1⟩, ⟨q0, q1⟩, g0, g1⟩, ?_⟩
    · rw [results_cell_tmp3 rfl]; go_simp
    · exact ((HBz.out.setCell (Nat.le_refl _) _).setCell (Nat.le_refl _) _).setCell (Nat.le_refl _) _)


end Go.Proofs.Ytmihnohnfdjcaaa

/- For the laws of layer 6: qMod; a variable laid while a region is under way; why decryption inverts encryption, for what the law FnEncryption draws. -/
namespace Go.Proofs.Ytmihnohnfdjcaaa
open Go.RowKit

theorem qMod_any (a m : Int) (a0 : 0 ≤ a) (a1 : a ≤ 100000000) (m0 : 1 ≤ m) (m1 : m ≤ 2000000000) (w : World) :
    Calls Try.prog 27 #[.int .i64 a, .int .i64 m] w fun e w' => e = .returned (.int .i64 (a % m)) ∧ w = w' := by
  have hm : m ≠ 0 := by omega
  have h1 : a.tmod m = a % m := Int.tmod_eq_emod_of_nonneg a0
  have hr : 0 ≤ a % m ∧ a % m < m := ⟨Int.emod_nonneg _ hm, Int.emod_lt_of_pos _ (by omega)⟩
  have h2 : IntKind.i64.wrap (a % m + m) = a % m + m := by rw [IntKind.wrap_i64]; omega
  have h3 : (a % m + m).tmod m = a % m := by rw [Int.tmod_eq_emod_of_nonneg (by omega), Int.add_emod_right, Int.emod_emod_of_dvd _ (Int.dvd_refl _)]
  have h4 : IntKind.i64.wrap (a.tmod m) = a % m := by rw [h1, IntKind.wrap_i64]; omega
  have h5 : IntKind.i64.wrap (a % m) = a % m := by rw [IntKind.wrap_i64]; omega
  clear hr a0 a1 m0 m1
  go_enter Try.func27, Try.ntmps27
  go_wp2
  go_ret
  simp [*]

/-- A variable that is laid while a region is under way, not written yet: it lies above n. -/
def VarY (w : World) (b n : Nat) : Prop := C2 w b 0 0 ∧ n < b
theorem VarY.below {w w' : World} {b n : Nat} (h : VarY w b n) (hb : Below w.heap.size w w') : VarY w' b n := ⟨h.1.below hb, h.2⟩
theorem vary_new {w w' : World} {n : Nat} {x y : Int} {t : TypeId} (h : C2 w n x y) (hb : Below (w.alloc (.cells #[.int .i64 0, .int .i64 0] t)).heap.size (w.alloc (.cells #[.int .i64 0, .int .i64 0] t)) w') : VarY w' w.heap.size n := ⟨(c2_new w 0 0 t).below hb, h.lt⟩
theorem vary_drop {w w' : World} {n : Nat} {x y : Int} {t : TypeId} (h : C2 w n x y) (hb : Below (w.alloc (.cells #[.int .i64 0, .int .i64 0] t)).drew.heap.size (w.alloc (.cells #[.int .i64 0, .int .i64 0] t)).drew w') : VarY w' w.heap.size n := ⟨C2.below (w := (w.alloc (.cells #[.int .i64 0, .int .i64 0] t)).drew) (c2_new w 0 0 t) hb, h.lt⟩
theorem c2_two {w : World} {b c : Nat} {x y : Int} (h : C2 w b x y) (hne : c ≠ b) (u v : Value) : C2 ((w.setCell ⟨c, 0, none⟩ u).setCell ⟨c, 1, none⟩ v) b x y := (h.other _ _ hne).other _ _ hne

theorem dec_parts {P Q G s a b : Int} (h : decB P Q G s a b = true) : goodB P Q G = true ∧ (elB P Q a = true ∧ elB P Q b = true) ∧ 0 ≤ s ∧ s < Q := by
  simp only [decB, vcB, cipB, Bool.and_eq_true] at h
  exact ⟨h.1.1, h.1.2, exB_true.1 h.2⟩
theorem dec_make {P Q G s a b : Int} (hg : goodB P Q G = true) (ha : elB P Q a = true) (hb : elB P Q b = true) (h0 : 0 ≤ s) (h1 : s < Q) : decB P Q G s a b = true := by
  simp only [decB, vcB, cipB, Bool.and_eq_true]
  exact ⟨⟨hg, ha, hb⟩, exB_true.2 ⟨h0, h1⟩⟩
theorem dec_q {P Q G s a b : Int} (h : decB P Q G s a b = true) : 2 ≤ Q ∧ Q ≤ 2000000000 := by
  have := goodB_true.1 (dec_parts h).1
  omega
theorem dec_key {P Q G s a b : Int} (h : decB P Q G s a b = true) : keyB P Q G s = true ∧ keyV P Q G s = Num.pow G s P := by
  obtain ⟨hg, _, h0, h1⟩ := dec_parts h
  have hk : keyB P Q G s = true := by simp only [keyB, Bool.and_eq_true]; exact ⟨hg, exB_true.2 ⟨h0, h1⟩⟩
  exact ⟨hk, key_val hk⟩
/-- Encryption gives a ciphertext. -/
theorem enc_cip {P Q G key m r : Int} (h : encB P Q G key m r = true) : vcB P Q G (encA P Q G key m r) (encM P Q G key m r) = true := by
  obtain ⟨e1, e2⟩ := enc_on h
  obtain ⟨⟨⟨hg, hk⟩, hm⟩, hr⟩ := encB_true.1 h
  have hr := exB_true.1 hr
  rw [e1, e2]
  simp only [vcB, cipB, Bool.and_eq_true]
  exact ⟨hg, el_pow hg (good_el hg) hr.1, el_mul hg hm (el_pow hg hk hr.1)⟩
/-- A re-encrypted pair is decrypted to the same message. -/
theorem re_same {P Q G s a b r : Int} (h : decB P Q G s a b = true) (h0 : 0 ≤ r) (h1 : r < Q) :
    reB P Q G (keyV P Q G s) a b r = true ∧ decB P Q G s (rrA P Q G (keyV P Q G s) a b r) (rrM P Q G (keyV P Q G s) a b r) = true ∧ decV P Q G s (rrA P Q G (keyV P Q G s) a b r) (rrM P Q G (keyV P Q G s) a b r) = decV P Q G s a b := by
  obtain ⟨hg, ⟨ha, hb⟩, s0, s1⟩ := dec_parts h
  have hk := el_pow hg (good_el hg) s0
  rw [(dec_key h).2]
  have hr : reB P Q G (Num.pow G s P) a b r = true := by
    simp only [reB, cipB, Bool.and_eq_true]
    exact ⟨encB_true.2 ⟨⟨⟨hg, hk⟩, one_el hg⟩, exB_true.2 ⟨h0, h1⟩⟩, ha, hb⟩
  obtain ⟨e1, e2⟩ := rr_on hr
  rw [e1, e2]
  have hel := re_el hg hk ha hb h0
  have hd : decB P Q G s (reA P G a r) (reM P (Num.pow G s P) b r) = true := dec_make hg hel.1 hel.2 s0 s1
  refine ⟨hr, hd, ?_⟩
  rw [dec_on hd, dec_on h]
  exact dec_re hg ha hb s0 h0
/-- What was decrypted, encrypted anew, is decrypted to itself. -/
theorem enc_same {P Q G s a b r : Int} (h : decB P Q G s a b = true) (h0 : 0 ≤ r) (h1 : r < Q) :
    encB P Q G (keyV P Q G s) (decV P Q G s a b) r = true ∧ decB P Q G s (encA P Q G (keyV P Q G s) (decV P Q G s a b) r) (encM P Q G (keyV P Q G s) (decV P Q G s a b) r) = true ∧ decV P Q G s (encA P Q G (keyV P Q G s) (decV P Q G s a b) r) (encM P Q G (keyV P Q G s) (decV P Q G s a b) r) = decV P Q G s a b := by
  obtain ⟨hg, ⟨ha, hb⟩, s0, s1⟩ := dec_parts h
  have hk := el_pow hg (good_el hg) s0
  have hm : elB P Q (decV P Q G s a b) = true := by rw [dec_on h]; exact dec_el hg ha hb s0
  rw [(dec_key h).2]
  generalize decV P Q G s a b = m at hm
  have he : encB P Q G (Num.pow G s P) m r = true := encB_true.2 ⟨⟨⟨hg, hk⟩, hm⟩, exB_true.2 ⟨h0, h1⟩⟩
  obtain ⟨e1, e2⟩ := enc_on he
  rw [e1, e2]
  have hd : decB P Q G s (Num.pow G r P) (m * Num.pow (Num.pow G s P) r P % P) = true := dec_make hg (el_pow hg (good_el hg) h0) (el_mul hg hm (el_pow hg hk h0)) s0 s1
  refine ⟨he, hd, ?_⟩
  rw [dec_on hd]
  exact dec_enc hg hm s0 h0

/-- All that the law FnEncryption meets, where the drawn pair is decrypted. -/
theorem enc_all {P Q G s a b r r' : Int} (h : decB P Q G s a b = true) (h0 : 0 ≤ r) (h1 : r < Q) (h0' : 0 ≤ r') (h1' : r' < Q) :
    ∃ k m ra rm ea em : Int, (keyB P Q G s = true ∧ keyV P Q G s = k) ∧ decV P Q G s a b = m ∧
      (reB P Q G k a b r = true ∧ rrA P Q G k a b r = ra ∧ rrM P Q G k a b r = rm) ∧ (decB P Q G s ra rm = true ∧ decV P Q G s ra rm = m) ∧
      (encB P Q G k m r' = true ∧ encA P Q G k m r' = ea ∧ encM P Q G k m r' = em) ∧ (decB P Q G s ea em = true ∧ decV P Q G s ea em = m) :=
  ⟨_, _, _, _, _, _, ⟨(dec_key h).1, rfl⟩, rfl, ⟨(re_same h h0 h1).1, rfl, rfl⟩, (re_same h h0 h1).2, ⟨(enc_same h h0' h1').1, rfl, rfl⟩, (enc_same h h0' h1').2⟩

end Go.Proofs.Ytmihnohnfdjcaaa
