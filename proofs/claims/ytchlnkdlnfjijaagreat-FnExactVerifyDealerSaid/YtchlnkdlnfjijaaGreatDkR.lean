/- Chapter 12: VerifyDealer of both. -/
import Derived.Test.YtchlnkdlnfjijaaGreatShA
import Derived.Test.YtchlnkdlnfjijaaGreatSigW
import Derived.Deep.RegionHeld3
namespace Go.Proofs.YtchlnkdlnfjijaaGreat
open Go.RowKit
set_option linter.unusedVariables false
set_option linter.unusedSimpArgs false

def dealerT : ByteArray := ⟨#[100, 101, 97, 108, 101, 114]⟩
def vdB (P Q G : Int) (d : DlD) : Bool := ivB P Q G d.c d.s && vrB P Q G dealerT (St.lin [[G]] [d.c.headD 0])
def vdV (P Q G : Int) (d : DlD) (p : PrD) : Bool := ivB P Q G d.c d.s && vrV P Q G dealerT (St.lin [[G]] [d.c.headD 0]) p
def C0 (w : World) (a : Addr) (z : Int) : Prop := w.cell? a = some (.int .i64 z)
theorem C0.below {w w' : World} {a : Addr} {z : Int} (h : C0 w a z) (hb : Below w.heap.size w w') : C0 w' a z := (hb.cell (World.block_lt_of_cell? w _ h)).trans h
theorem iv_pos {P Q G : Int} {cs ss : List Int} (h : ivB P Q G cs ss = true) : 0 < cs.length := by
  unfold ivB at h
  rw [Bool.and_eq_true] at h
  have := (cmsB_true.1 (dlB_true.1 h.2).1).1
  omega

set_option maxRecDepth 100000 in
set_option maxHeartbeats 3200000 in
theorem verifyDealer_any (P Q G : Int) {B B2 : Nat} {v u : Value} {d : DlD} {p : PrD} (hl : d.n ≤ 1048576) (hpn : p.n ≤ 1048576) {w : World} (hd : InD B w v d) (hp : InP B2 w u p) :
    Calls Tryz.prog 9 #[gv P Q G, v, u] w fun e w' => e = .returned (.tuple #[.bool (vdV P Q G d p), .bool (vdB P Q G d)]) ∧ Below w.heap.size w w' := by
  obtain ⟨ca, cc, sa, sc, rfl, h1, h2⟩ := hd.shape
  obtain ⟨pa, pa1, pb, pb1, pc, pc1, rfl, _, _, _⟩ := hp.parts
  have hln : d.c.length ≤ 1000000000000 ∧ d.s.length ≤ 1000000000000 := by unfold DlD.n at hl; omega
  obtain ⟨hl1, hl2⟩ := hln
  have hv := b3_new ((w.alloc (.cells #[.int .i64 P, .int .i64 Q, .int .i64 G] 24)).alloc (.cells #[.slice ca d.c.length cc, .slice sa d.s.length sc] 34)) (.slice pa p.c.length pa1) (.slice pb p.h.length pb1) (.slice pc p.r.length pc1) 36
  rw [show ((w.alloc (.cells #[.int .i64 P, .int .i64 Q, .int .i64 G] 24)).alloc (.cells #[.slice ca d.c.length cc, .slice sa d.s.length sc] 34)).heap.size = w.heap.size + 2 by simp] at hv
  have G_0 := Lib.hid (((gr_atS w w.heap.size rfl P Q G 24).below (ba (w.alloc (.cells #[.int .i64 P, .int .i64 Q, .int .i64 G] 24)) (.cells #[.slice ca d.c.length cc, .slice sa d.s.length sc] 34))).below (ba ((w.alloc (.cells #[.int .i64 P, .int .i64 Q, .int .i64 G] 24)).alloc (.cells #[.slice ca d.c.length cc, .slice sa d.s.length sc] 34)) (.cells #[.slice pa p.c.length pa1, .slice pb p.h.length pb1, .slice pc p.r.length pc1] 36)))
  have D_0 := Lib.hid ((v2_at (w.alloc (.cells #[.int .i64 P, .int .i64 Q, .int .i64 G] 24)) (w.heap.size + 1) (by simp) (.slice ca d.c.length cc) (.slice sa d.s.length sc) 34).below (ba ((w.alloc (.cells #[.int .i64 P, .int .i64 Q, .int .i64 G] 24)).alloc (.cells #[.slice ca d.c.length cc, .slice sa d.s.length sc] 34)) (.cells #[.slice pa p.c.length pa1, .slice pb p.h.length pb1, .slice pc p.r.length pc1] 36)))
  have Z_0 := Lib.hid hv
  have HB_0 := Lib.hid (show Below w.heap.size w (((w.alloc (.cells #[.int .i64 P, .int .i64 Q, .int .i64 G] 24)).alloc (.cells #[.slice ca d.c.length cc, .slice sa d.s.length sc] 34)).alloc (.cells #[.slice pa p.c.length pa1, .slice pb p.h.length pb1, .slice pc p.r.length pc1] 36)) from bt (bt (ba _ _) (ba _ _)) (ba _ _))
  have C_0 := Lib.hid (h1.below HB_0.out)
  have S_0 := Lib.hid (h2.below HB_0.out)
  have P_0 := Lib.hid (hp.below HB_0.out)
  clear hd hp h1 h2 hv
  cases h0 : ivB P Q G d.c d.s
  · have K0 := Lib.hid (show ivB P Q G d.c d.s = false from h0)
    have E0 := Lib.hid (show ivB P Q G d.c d.s = false by exact h0)
    have E1 := Lib.hid (show vdB P Q G d = false by simp [vdB, E0.out])
    have E2 := Lib.hid (show vdV P Q G d p = false by simp [vdV, E0.out])
    rw [E1.out, E2.out]
    clear h0
    obtain ⟨gG0, gG1, gG2⟩ := G_0.out
    obtain ⟨dD0, dD1, _⟩ := D_0.out
    obtain ⟨zZ0, zZ1, zZ2, _⟩ := Z_0.out
    go_enter Tryz.func9, Tryz.ntmps9
    go_wp2_with fail
    refine (isValidDealing_any P Q G ca sa cc sc d.c d.s hl1 hl2 (inI_ints C_0.out) (inI_ints S_0.out)).mono ?_
    rw [K0.out]
    rintro e v1 ⟨rfl, hb⟩
    have HB_1 := Lib.hid (bt HB_0.out hb)
    have G_1 := Lib.hid (G_0.out.below hb)
    have D_1 := Lib.hid (D_0.out.below hb)
    have Z_1 := Lib.hid (Z_0.out.below hb)
    have C_1 := Lib.hid (C_0.out.below hb)
    have S_1 := Lib.hid (S_0.out.below hb)
    have P_1 := Lib.hid (P_0.out.below hb)
    clear hb gG0 gG1 gG2 dD0 dD1 zZ0 zZ1 zZ2
    obtain ⟨gG0, gG1, gG2⟩ := G_1.out
    obtain ⟨dD0, dD1, _⟩ := D_1.out
    obtain ⟨zZ0, zZ1, zZ2, _⟩ := Z_1.out
    go_wp2
    go_ret2
    exact ⟨rfl, HB_1.out⟩
  have K0 := Lib.hid (show ivB P Q G d.c d.s = true from h0)
  have E0 := Lib.hid (show ivB P Q G d.c d.s = true by exact h0)
  clear h0
  have hpos := iv_pos E0.out
  obtain ⟨gG0, gG1, gG2⟩ := G_0.out
  obtain ⟨dD0, dD1, _⟩ := D_0.out
  obtain ⟨zZ0, zZ1, zZ2, _⟩ := Z_0.out
  go_enter Tryz.func9, Tryz.ntmps9
  go_wp2_with fail
  refine (isValidDealing_any P Q G ca sa cc sc d.c d.s hl1 hl2 (inI_ints C_0.out) (inI_ints S_0.out)).mono ?_
  rw [K0.out]
  rintro e v1 ⟨rfl, hb⟩
  have HB_1 := Lib.hid (bt HB_0.out hb)
  have G_1 := Lib.hid (G_0.out.below hb)
  have D_1 := Lib.hid (D_0.out.below hb)
  have Z_1 := Lib.hid (Z_0.out.below hb)
  have C_1 := Lib.hid (C_0.out.below hb)
  have S_1 := Lib.hid (S_0.out.below hb)
  have P_1 := Lib.hid (P_0.out.below hb)
  clear hb gG0 gG1 gG2 dD0 dD1 zZ0 zZ1 zZ2
  obtain ⟨gG0, gG1, gG2⟩ := G_1.out
  obtain ⟨dD0, dD1, _⟩ := D_1.out
  obtain ⟨zZ0, zZ1, zZ2, _⟩ := Z_1.out
  obtain ⟨xb, xo, x, rfl, hxb, hxx, hxd⟩ := (show IsInts v1 ca d.c from inI_ints C_1.out).at (k := 0) hpos
  have hx0 : d.c.headD 0 = x := by rw [show d.c = x :: d.c.drop 1 from hxd]; rfl
  have X_1 := Lib.hid (show C0 v1 ⟨xb, xo, none⟩ x from by simpa [C0] using hxx)
  obtain ⟨b1, hp⟩ : ∃ b, vrV P Q G dealerT (St.lin [[G]] [x]) p = b := ⟨_, rfl⟩
  obtain ⟨b2, hk0⟩ : ∃ b, vrB P Q G dealerT (St.lin [[G]] [x]) = b := ⟨_, rfl⟩
  have HP := Lib.hid hp
  have HO := Lib.hid hk0
  have E1 := Lib.hid (show vdB P Q G d = b2 by simp only [vdB, E0.out, hx0, hk0, Bool.true_and])
  have E2 := Lib.hid (show vdV P Q G d p = b1 by simp only [vdV, E0.out, hx0, hp, Bool.true_and])
  clear hp hk0 hxd hx0
  go_wp2_with fail
  refine wp_region_held_drew (S := (fun w' => (w'.cell? ⟨w.heap.size, 0, none⟩ = some (.int .i64 P) ∧ w'.cell? ⟨w.heap.size, 1, none⟩ = some (.int .i64 Q) ∧ w'.cell? ⟨w.heap.size, 2, none⟩ = some (.int .i64 G)) ∧ (w'.cell? ⟨w.heap.size + 1, 0, none⟩ = some (.slice (some ⟨xb, xo, none⟩) d.c.length cc) ∧ w'.cell? ⟨w.heap.size + 1, 1, none⟩ = some (.slice sa d.s.length sc)) ∧ (w'.cell? ⟨w.heap.size + 2, 0, none⟩ = some (.slice pa p.c.length pa1) ∧ w'.cell? ⟨w.heap.size + 2, 1, none⟩ = some (.slice pb p.h.length pb1) ∧ w'.cell? ⟨w.heap.size + 2, 2, none⟩ = some (.slice pc p.r.length pc1)) ∧ w'.cell? ⟨xb, xo, none⟩ = some (.int .i64 x))) (by kernel_rfl) (by first | exact ⟨G_1.out, ⟨D_1.out.1, D_1.out.2.1⟩, ⟨Z_1.out.1, Z_1.out.2.1, Z_1.out.2.2.1⟩, X_1.out⟩ | (dsimp only; exact ⟨G_1.out, ⟨D_1.out.1, D_1.out.2.1⟩, ⟨Z_1.out.1, Z_1.out.2.1, Z_1.out.2.2.1⟩, X_1.out⟩)) (fun hHeld => ?_)
  refine wpAnyH_take (i := 0) (v := ?_) rfl (by kernel_rfl) (by kernel_rfl) (by kernel_rfl) (fun _ _ _ h => h) (Or.inl ⟨by kernel_rfl, ?_⟩) (by assumption) ?_
  rotate_left 1
  · intro w hSw
    try dsimp only at hSw
    go_simp
    try with_reducible rfl
  try simp only [Act.put, List.getElem_toArray, List.getElem_cons_succ, List.getElem_cons_zero, List.setIfInBounds_toArray, List.set_cons_zero, List.set_cons_succ]
  refine wpAnyH_take (i := 1) (v := ?_) rfl (by kernel_rfl) (by kernel_rfl) (by kernel_rfl) (fun _ _ _ h => h) (Or.inl ⟨by kernel_rfl, ?_⟩) (by assumption) ?_
  rotate_left 1
  · intro w hSw
    try dsimp only at hSw
    go_simp
    try with_reducible rfl
  try simp only [Act.put, List.getElem_toArray, List.getElem_cons_succ, List.getElem_cons_zero, List.setIfInBounds_toArray, List.set_cons_zero, List.set_cons_succ]
  refine wpAnyH_take (i := 2) (v := ?_) rfl (by kernel_rfl) (by kernel_rfl) (by kernel_rfl) (fun _ _ _ h => h) (Or.inl ⟨by kernel_rfl, ?_⟩) (by assumption) ?_
  rotate_left 1
  · intro w hSw
    try dsimp only at hSw
    go_simp
    try with_reducible rfl
  try simp only [Act.put, List.getElem_toArray, List.getElem_cons_succ, List.getElem_cons_zero, List.setIfInBounds_toArray, List.set_cons_zero, List.set_cons_succ]
  refine wpAnyH_take (i := 3) (v := ?_) rfl (by kernel_rfl) (by kernel_rfl) (by kernel_rfl) (fun _ _ _ h => h) (Or.inl ⟨by kernel_rfl, ?_⟩) (by assumption) ?_
  rotate_left 1
  · intro w hSw
    try dsimp only at hSw
    go_simp
    try with_reducible rfl
  try simp only [Act.put, List.getElem_toArray, List.getElem_cons_succ, List.getElem_cons_zero, List.setIfInBounds_toArray, List.set_cons_zero, List.set_cons_succ]
  refine wpAnyH_take (i := 4) (v := ?_) rfl (by kernel_rfl) (by kernel_rfl) (by kernel_rfl) (fun _ _ _ h => h) (Or.inl ⟨by kernel_rfl, ?_⟩) (by assumption) ?_
  rotate_left 1
  · intro w hSw
    try dsimp only at hSw
    go_simp
    try with_reducible rfl
  try simp only [Act.put, List.getElem_toArray, List.getElem_cons_succ, List.getElem_cons_zero, List.setIfInBounds_toArray, List.set_cons_zero, List.set_cons_succ]
  refine wpAnyH_take (i := 5) (v := ?_) rfl (by kernel_rfl) (by kernel_rfl) (by kernel_rfl) (fun _ _ _ h => h) (Or.inl ⟨by kernel_rfl, ?_⟩) (by assumption) ?_
  rotate_left 1
  · intro w hSw
    try dsimp only at hSw
    go_simp
    try with_reducible rfl
  try simp only [Act.put, List.getElem_toArray, List.getElem_cons_succ, List.getElem_cons_zero, List.setIfInBounds_toArray, List.set_cons_zero, List.set_cons_succ]
  refine wpAnyH_take (i := 6) (v := ?_) rfl (by kernel_rfl) (by kernel_rfl) (by kernel_rfl) (fun _ _ _ h => h) (Or.inl ⟨by kernel_rfl, ?_⟩) (by assumption) ?_
  rotate_left 1
  · intro w hSw
    try dsimp only at hSw
    go_simp
    try with_reducible rfl
  try simp only [Act.put, List.getElem_toArray, List.getElem_cons_succ, List.getElem_cons_zero, List.setIfInBounds_toArray, List.set_cons_zero, List.set_cons_succ]
  refine wpAnyH_take (i := 7) (v := ?_) rfl (by kernel_rfl) (by kernel_rfl) (by kernel_rfl) (fun _ _ _ h => h) (Or.inl ⟨by kernel_rfl, ?_⟩) (by assumption) ?_
  rotate_left 1
  · intro w hSw
    try dsimp only at hSw
    go_simp
    try with_reducible rfl
  try simp only [Act.put, List.getElem_toArray, List.getElem_cons_succ, List.getElem_cons_zero, List.setIfInBounds_toArray, List.set_cons_zero, List.set_cons_succ]
  refine wpAnyH_ready (rs := [8]) (by kernel_rfl) (by simp) ?_
  refine AllReadyH.cons rfl (fun K hK => ?_) AllReadyH.nil
  go_simp
  have hbd : Below v1.heap.size v1 v1.drew := (Below.refl _ v1).drew
  have P_d := Lib.hid (P_1.out.below hbd)
  go_at_call 45
  refine (verifyKnowledge_any P Q G G x dealerT (by decide) hpn P_d.out).mono ?_
  rw [HP.out, HO.out]
  rintro e' wf ⟨rfl, hbf0⟩
  have hbf := bt hbd hbf0
  have G_s := Lib.hid (G_1.out.below hbf)
  have D_s := Lib.hid (D_1.out.below hbf)
  have Z_s := Lib.hid (Z_1.out.below hbf)
  have X_s := Lib.hid (X_1.out.below hbf)
  have HB_s := Lib.hid (bt HB_1.out hbf)
  clear hbf hbd hbf0 P_d
  refine hK.out _ _ (by first | exact ⟨G_s.out, ⟨D_s.out.1, D_s.out.2.1⟩, ⟨Z_s.out.1, Z_s.out.2.1, Z_s.out.2.2.1⟩, X_s.out⟩ | (dsimp only; exact ⟨G_s.out, ⟨D_s.out.1, D_s.out.2.1⟩, ⟨Z_s.out.1, Z_s.out.2.1, Z_s.out.2.2.1⟩, X_s.out⟩)) (fun hHeld => ?_)
  clear hK K
  try simp only [Act.put, List.getElem_toArray, List.getElem_cons_succ, List.getElem_cons_zero, List.setIfInBounds_toArray, List.set_cons_zero, List.set_cons_succ]
  refine wpAnyH_take (i := 9) (v := ?_) rfl (by kernel_rfl) (by kernel_rfl) (by kernel_rfl) (fun _ _ _ h => h) (Or.inl ⟨by kernel_rfl, ?_⟩) (by assumption) ?_
  rotate_left 1
  · intro w hSw
    try dsimp only at hSw
    go_simp
    try with_reducible rfl
  try simp only [Act.put, List.getElem_toArray, List.getElem_cons_succ, List.getElem_cons_zero, List.setIfInBounds_toArray, List.set_cons_zero, List.set_cons_succ]
  refine wpAnyH_take (i := 10) (v := ?_) rfl (by kernel_rfl) (by kernel_rfl) (by kernel_rfl) (fun _ _ _ h => h) (Or.inl ⟨by kernel_rfl, ?_⟩) (by assumption) ?_
  rotate_left 1
  · intro w hSw
    try dsimp only at hSw
    go_simp
    try with_reducible rfl
  try simp only [Act.put, List.getElem_toArray, List.getElem_cons_succ, List.getElem_cons_zero, List.setIfInBounds_toArray, List.set_cons_zero, List.set_cons_succ]
  refine wpAnyH_take (i := 11) (v := ?_) rfl (by kernel_rfl) (by kernel_rfl) (by kernel_rfl) (fun _ _ _ h => h) (Or.inl ⟨by kernel_rfl, ?_⟩) (by assumption) ?_
  rotate_left 1
  · intro w hSw
    try dsimp only at hSw
    go_simp
    try with_reducible rfl
  try simp only [Act.put, List.getElem_toArray, List.getElem_cons_succ, List.getElem_cons_zero, List.setIfInBounds_toArray, List.set_cons_zero, List.set_cons_succ]
  refine wpAnyH_take (i := 12) (v := ?_) rfl (by kernel_rfl) (by kernel_rfl) (by kernel_rfl) (fun _ _ _ h => h) (Or.inl ⟨by kernel_rfl, ?_⟩) (by assumption) ?_
  rotate_left 1
  · intro w hSw
    try dsimp only at hSw
    go_simp
    try with_reducible rfl
  try simp only [Act.put, List.getElem_toArray, List.getElem_cons_succ, List.getElem_cons_zero, List.setIfInBounds_toArray, List.set_cons_zero, List.set_cons_succ]
  refine wpAnyH_done (by kernel_rfl) ?_ _
  clear hHeld
  go_wp2
  go_ret2
  exact ⟨by rw [E1.out, E2.out]; rfl, HB_s.out⟩

set_option maxRecDepth 100000 in
set_option maxHeartbeats 3200000 in
theorem sVerifyDealer_any (P Q G : Int) {B B2 : Nat} {v u : Value} {d : DlD} {p : PrD} (hl : d.n ≤ 1048576) (hpn : p.n ≤ 1048576) {w : World} (hd : InD B w v d) (hp : InP B2 w u p) :
    Calls Tryz.prog 10 #[gv P Q G, v, u] w fun e w' => e = .returned (.tuple #[.bool (vdV P Q G d p), .bool (vdB P Q G d)]) ∧ Below w.heap.size w w' := by
  obtain ⟨ca, cc, sa, sc, rfl, h1, h2⟩ := hd.shape
  obtain ⟨pa, pa1, pb, pb1, pc, pc1, rfl, _, _, _⟩ := hp.parts
  have hln : d.c.length ≤ 1000000000000 ∧ d.s.length ≤ 1000000000000 := by unfold DlD.n at hl; omega
  obtain ⟨hl1, hl2⟩ := hln
  have hv := b3_new ((w.alloc (.cells #[.int .i64 P, .int .i64 Q, .int .i64 G] 24)).alloc (.cells #[.slice ca d.c.length cc, .slice sa d.s.length sc] 34)) (.slice pa p.c.length pa1) (.slice pb p.h.length pb1) (.slice pc p.r.length pc1) 36
  rw [show ((w.alloc (.cells #[.int .i64 P, .int .i64 Q, .int .i64 G] 24)).alloc (.cells #[.slice ca d.c.length cc, .slice sa d.s.length sc] 34)).heap.size = w.heap.size + 2 by simp] at hv
  have G_0 := Lib.hid (((gr_atS w w.heap.size rfl P Q G 24).below (ba (w.alloc (.cells #[.int .i64 P, .int .i64 Q, .int .i64 G] 24)) (.cells #[.slice ca d.c.length cc, .slice sa d.s.length sc] 34))).below (ba ((w.alloc (.cells #[.int .i64 P, .int .i64 Q, .int .i64 G] 24)).alloc (.cells #[.slice ca d.c.length cc, .slice sa d.s.length sc] 34)) (.cells #[.slice pa p.c.length pa1, .slice pb p.h.length pb1, .slice pc p.r.length pc1] 36)))
  have D_0 := Lib.hid ((v2_at (w.alloc (.cells #[.int .i64 P, .int .i64 Q, .int .i64 G] 24)) (w.heap.size + 1) (by simp) (.slice ca d.c.length cc) (.slice sa d.s.length sc) 34).below (ba ((w.alloc (.cells #[.int .i64 P, .int .i64 Q, .int .i64 G] 24)).alloc (.cells #[.slice ca d.c.length cc, .slice sa d.s.length sc] 34)) (.cells #[.slice pa p.c.length pa1, .slice pb p.h.length pb1, .slice pc p.r.length pc1] 36)))
  have Z_0 := Lib.hid hv
  have HB_0 := Lib.hid (show Below w.heap.size w (((w.alloc (.cells #[.int .i64 P, .int .i64 Q, .int .i64 G] 24)).alloc (.cells #[.slice ca d.c.length cc, .slice sa d.s.length sc] 34)).alloc (.cells #[.slice pa p.c.length pa1, .slice pb p.h.length pb1, .slice pc p.r.length pc1] 36)) from bt (bt (ba _ _) (ba _ _)) (ba _ _))
  have C_0 := Lib.hid (h1.below HB_0.out)
  have S_0 := Lib.hid (h2.below HB_0.out)
  have P_0 := Lib.hid (hp.below HB_0.out)
  clear hd hp h1 h2 hv
  cases h0 : trB P Q G
  · have K0 := Lib.hid (show trB P Q G = false from h0)
    have E0 := Lib.hid (show ivB P Q G d.c d.s = false by unfold ivB; rw [h0]; rfl)
    have E1 := Lib.hid (show vdB P Q G d = false by simp [vdB, E0.out])
    have E2 := Lib.hid (show vdV P Q G d p = false by simp [vdV, E0.out])
    rw [E1.out, E2.out]
    clear h0
    obtain ⟨gG0, gG1, gG2⟩ := G_0.out
    obtain ⟨dD0, dD1, _⟩ := D_0.out
    obtain ⟨zZ0, zZ1, zZ2, _⟩ := Z_0.out
    go_enter Tryz.func10, Tryz.ntmps10
    go_wp2_with fail
    refine (sGroup_any P Q G _).mono ?_
    rw [K0.out]
    rintro e v1 ⟨rfl, hb⟩
    have HB_1 := Lib.hid (bt HB_0.out hb)
    have G_1 := Lib.hid (G_0.out.below hb)
    have D_1 := Lib.hid (D_0.out.below hb)
    have Z_1 := Lib.hid (Z_0.out.below hb)
    have C_1 := Lib.hid (C_0.out.below hb)
    have S_1 := Lib.hid (S_0.out.below hb)
    have P_1 := Lib.hid (P_0.out.below hb)
    clear hb gG0 gG1 gG2 dD0 dD1 zZ0 zZ1 zZ2
    obtain ⟨gG0, gG1, gG2⟩ := G_1.out
    obtain ⟨dD0, dD1, _⟩ := D_1.out
    obtain ⟨zZ0, zZ1, zZ2, _⟩ := Z_1.out
    go_wp2
    go_ret2
    exact ⟨rfl, HB_1.out⟩
  have K0 := Lib.hid (show trB P Q G = true from h0)
  have hmo := (trB_of h0).2.1
  cases h1 : dlB P Q d.c d.s
  · have K1 := Lib.hid (show dlB P Q d.c d.s = false from h1)
    have E0 := Lib.hid (show ivB P Q G d.c d.s = false by unfold ivB; rw [h1, Bool.and_false])
    have E1 := Lib.hid (show vdB P Q G d = false by simp [vdB, E0.out])
    have E2 := Lib.hid (show vdV P Q G d p = false by simp [vdV, E0.out])
    rw [E1.out, E2.out]
    clear h0 h1
    obtain ⟨gG0, gG1, gG2⟩ := G_0.out
    obtain ⟨dD0, dD1, _⟩ := D_0.out
    obtain ⟨zZ0, zZ1, zZ2, _⟩ := Z_0.out
    go_enter Tryz.func10, Tryz.ntmps10
    go_wp2_with fail
    refine (sGroup_any P Q G _).mono ?_
    rw [K0.out]
    rintro e v1 ⟨rfl, hb⟩
    have HB_1 := Lib.hid (bt HB_0.out hb)
    have G_1 := Lib.hid (G_0.out.below hb)
    have D_1 := Lib.hid (D_0.out.below hb)
    have Z_1 := Lib.hid (Z_0.out.below hb)
    have C_1 := Lib.hid (C_0.out.below hb)
    have S_1 := Lib.hid (S_0.out.below hb)
    have P_1 := Lib.hid (P_0.out.below hb)
    clear hb gG0 gG1 gG2 dD0 dD1 zZ0 zZ1 zZ2
    obtain ⟨gG0, gG1, gG2⟩ := G_1.out
    obtain ⟨dD0, dD1, _⟩ := D_1.out
    obtain ⟨zZ0, zZ1, zZ2, _⟩ := Z_1.out
    go_wp2_with fail
    refine (sDealing_any P Q G hmo ca sa cc sc d.c d.s hl1 hl2 (inI_ints C_1.out) (inI_ints S_1.out)).mono ?_
    rw [K1.out]
    rintro e v2 ⟨rfl, hb⟩
    have HB_2 := Lib.hid (bt HB_1.out hb)
    have G_2 := Lib.hid (G_1.out.below hb)
    have D_2 := Lib.hid (D_1.out.below hb)
    have Z_2 := Lib.hid (Z_1.out.below hb)
    have C_2 := Lib.hid (C_1.out.below hb)
    have S_2 := Lib.hid (S_1.out.below hb)
    have P_2 := Lib.hid (P_1.out.below hb)
    clear hb gG0 gG1 gG2 dD0 dD1 zZ0 zZ1 zZ2
    obtain ⟨gG0, gG1, gG2⟩ := G_2.out
    obtain ⟨dD0, dD1, _⟩ := D_2.out
    obtain ⟨zZ0, zZ1, zZ2, _⟩ := Z_2.out
    go_wp2
    go_ret2
    exact ⟨rfl, HB_2.out⟩
  have K1 := Lib.hid (show dlB P Q d.c d.s = true from h1)
  have E0 := Lib.hid (show ivB P Q G d.c d.s = true by unfold ivB; rw [h0, h1]; rfl)
  clear h0 h1
  have hpos := iv_pos E0.out
  obtain ⟨gG0, gG1, gG2⟩ := G_0.out
  obtain ⟨dD0, dD1, _⟩ := D_0.out
  obtain ⟨zZ0, zZ1, zZ2, _⟩ := Z_0.out
  go_enter Tryz.func10, Tryz.ntmps10
  go_wp2_with fail
  refine (sGroup_any P Q G _).mono ?_
  rw [K0.out]
  rintro e v1 ⟨rfl, hb⟩
  have HB_1 := Lib.hid (bt HB_0.out hb)
  have G_1 := Lib.hid (G_0.out.below hb)
  have D_1 := Lib.hid (D_0.out.below hb)
  have Z_1 := Lib.hid (Z_0.out.below hb)
  have C_1 := Lib.hid (C_0.out.below hb)
  have S_1 := Lib.hid (S_0.out.below hb)
  have P_1 := Lib.hid (P_0.out.below hb)
  clear hb gG0 gG1 gG2 dD0 dD1 zZ0 zZ1 zZ2
  obtain ⟨gG0, gG1, gG2⟩ := G_1.out
  obtain ⟨dD0, dD1, _⟩ := D_1.out
  obtain ⟨zZ0, zZ1, zZ2, _⟩ := Z_1.out
  go_wp2_with fail
  refine (sDealing_any P Q G hmo ca sa cc sc d.c d.s hl1 hl2 (inI_ints C_1.out) (inI_ints S_1.out)).mono ?_
  rw [K1.out]
  rintro e v2 ⟨rfl, hb⟩
  have HB_2 := Lib.hid (bt HB_1.out hb)
  have G_2 := Lib.hid (G_1.out.below hb)
  have D_2 := Lib.hid (D_1.out.below hb)
  have Z_2 := Lib.hid (Z_1.out.below hb)
  have C_2 := Lib.hid (C_1.out.below hb)
  have S_2 := Lib.hid (S_1.out.below hb)
  have P_2 := Lib.hid (P_1.out.below hb)
  clear hb gG0 gG1 gG2 dD0 dD1 zZ0 zZ1 zZ2
  obtain ⟨gG0, gG1, gG2⟩ := G_2.out
  obtain ⟨dD0, dD1, _⟩ := D_2.out
  obtain ⟨zZ0, zZ1, zZ2, _⟩ := Z_2.out
  obtain ⟨xb, xo, x, rfl, hxb, hxx, hxd⟩ := (show IsInts v2 ca d.c from inI_ints C_2.out).at (k := 0) hpos
  have hx0 : d.c.headD 0 = x := by rw [show d.c = x :: d.c.drop 1 from hxd]; rfl
  have X_2 := Lib.hid (show C0 v2 ⟨xb, xo, none⟩ x from by simpa [C0] using hxx)
  obtain ⟨b1, hp⟩ : ∃ b, vrV P Q G dealerT (St.lin [[G]] [x]) p = b := ⟨_, rfl⟩
  obtain ⟨b2, hk0⟩ : ∃ b, vrB P Q G dealerT (St.lin [[G]] [x]) = b := ⟨_, rfl⟩
  have HP := Lib.hid hp
  have HO := Lib.hid hk0
  have E1 := Lib.hid (show vdB P Q G d = b2 by simp only [vdB, E0.out, hx0, hk0, Bool.true_and])
  have E2 := Lib.hid (show vdV P Q G d p = b1 by simp only [vdV, E0.out, hx0, hp, Bool.true_and])
  clear hp hk0 hxd hx0
  go_wp2_with fail
  refine wp_region_held_drew (S := (fun w' => (w'.cell? ⟨w.heap.size, 0, none⟩ = some (.int .i64 P) ∧ w'.cell? ⟨w.heap.size, 1, none⟩ = some (.int .i64 Q) ∧ w'.cell? ⟨w.heap.size, 2, none⟩ = some (.int .i64 G)) ∧ (w'.cell? ⟨w.heap.size + 1, 0, none⟩ = some (.slice (some ⟨xb, xo, none⟩) d.c.length cc) ∧ w'.cell? ⟨w.heap.size + 1, 1, none⟩ = some (.slice sa d.s.length sc)) ∧ (w'.cell? ⟨w.heap.size + 2, 0, none⟩ = some (.slice pa p.c.length pa1) ∧ w'.cell? ⟨w.heap.size + 2, 1, none⟩ = some (.slice pb p.h.length pb1) ∧ w'.cell? ⟨w.heap.size + 2, 2, none⟩ = some (.slice pc p.r.length pc1)) ∧ w'.cell? ⟨xb, xo, none⟩ = some (.int .i64 x))) (by kernel_rfl) (by first | exact ⟨G_2.out, ⟨D_2.out.1, D_2.out.2.1⟩, ⟨Z_2.out.1, Z_2.out.2.1, Z_2.out.2.2.1⟩, X_2.out⟩ | (dsimp only; exact ⟨G_2.out, ⟨D_2.out.1, D_2.out.2.1⟩, ⟨Z_2.out.1, Z_2.out.2.1, Z_2.out.2.2.1⟩, X_2.out⟩)) (fun hHeld => ?_)
  refine wpAnyH_take (i := 0) (v := ?_) rfl (by kernel_rfl) (by kernel_rfl) (by kernel_rfl) (fun _ _ _ h => h) (Or.inl ⟨by kernel_rfl, ?_⟩) (by assumption) ?_
  rotate_left 1
  · intro w hSw
    try dsimp only at hSw
    go_simp
    try with_reducible rfl
  try simp only [Act.put, List.getElem_toArray, List.getElem_cons_succ, List.getElem_cons_zero, List.setIfInBounds_toArray, List.set_cons_zero, List.set_cons_succ]
  refine wpAnyH_take (i := 1) (v := ?_) rfl (by kernel_rfl) (by kernel_rfl) (by kernel_rfl) (fun _ _ _ h => h) (Or.inl ⟨by kernel_rfl, ?_⟩) (by assumption) ?_
  rotate_left 1
  · intro w hSw
    try dsimp only at hSw
    go_simp
    try with_reducible rfl
  try simp only [Act.put, List.getElem_toArray, List.getElem_cons_succ, List.getElem_cons_zero, List.setIfInBounds_toArray, List.set_cons_zero, List.set_cons_succ]
  refine wpAnyH_take (i := 2) (v := ?_) rfl (by kernel_rfl) (by kernel_rfl) (by kernel_rfl) (fun _ _ _ h => h) (Or.inl ⟨by kernel_rfl, ?_⟩) (by assumption) ?_
  rotate_left 1
  · intro w hSw
    try dsimp only at hSw
    go_simp
    try with_reducible rfl
  try simp only [Act.put, List.getElem_toArray, List.getElem_cons_succ, List.getElem_cons_zero, List.setIfInBounds_toArray, List.set_cons_zero, List.set_cons_succ]
  refine wpAnyH_take (i := 3) (v := ?_) rfl (by kernel_rfl) (by kernel_rfl) (by kernel_rfl) (fun _ _ _ h => h) (Or.inl ⟨by kernel_rfl, ?_⟩) (by assumption) ?_
  rotate_left 1
  · intro w hSw
    try dsimp only at hSw
    go_simp
    try with_reducible rfl
  try simp only [Act.put, List.getElem_toArray, List.getElem_cons_succ, List.getElem_cons_zero, List.setIfInBounds_toArray, List.set_cons_zero, List.set_cons_succ]
  refine wpAnyH_take (i := 4) (v := ?_) rfl (by kernel_rfl) (by kernel_rfl) (by kernel_rfl) (fun _ _ _ h => h) (Or.inl ⟨by kernel_rfl, ?_⟩) (by assumption) ?_
  rotate_left 1
  · intro w hSw
    try dsimp only at hSw
    go_simp
    try with_reducible rfl
  try simp only [Act.put, List.getElem_toArray, List.getElem_cons_succ, List.getElem_cons_zero, List.setIfInBounds_toArray, List.set_cons_zero, List.set_cons_succ]
  refine wpAnyH_take (i := 5) (v := ?_) rfl (by kernel_rfl) (by kernel_rfl) (by kernel_rfl) (fun _ _ _ h => h) (Or.inl ⟨by kernel_rfl, ?_⟩) (by assumption) ?_
  rotate_left 1
  · intro w hSw
    try dsimp only at hSw
    go_simp
    try with_reducible rfl
  try simp only [Act.put, List.getElem_toArray, List.getElem_cons_succ, List.getElem_cons_zero, List.setIfInBounds_toArray, List.set_cons_zero, List.set_cons_succ]
  refine wpAnyH_take (i := 6) (v := ?_) rfl (by kernel_rfl) (by kernel_rfl) (by kernel_rfl) (fun _ _ _ h => h) (Or.inl ⟨by kernel_rfl, ?_⟩) (by assumption) ?_
  rotate_left 1
  · intro w hSw
    try dsimp only at hSw
    go_simp
    try with_reducible rfl
  try simp only [Act.put, List.getElem_toArray, List.getElem_cons_succ, List.getElem_cons_zero, List.setIfInBounds_toArray, List.set_cons_zero, List.set_cons_succ]
  refine wpAnyH_take (i := 7) (v := ?_) rfl (by kernel_rfl) (by kernel_rfl) (by kernel_rfl) (fun _ _ _ h => h) (Or.inl ⟨by kernel_rfl, ?_⟩) (by assumption) ?_
  rotate_left 1
  · intro w hSw
    try dsimp only at hSw
    go_simp
    try with_reducible rfl
  try simp only [Act.put, List.getElem_toArray, List.getElem_cons_succ, List.getElem_cons_zero, List.setIfInBounds_toArray, List.set_cons_zero, List.set_cons_succ]
  refine wpAnyH_ready (rs := [8]) (by kernel_rfl) (by simp) ?_
  refine AllReadyH.cons rfl (fun K hK => ?_) AllReadyH.nil
  go_simp
  have hbd : Below v2.heap.size v2 v2.drew := (Below.refl _ v2).drew
  have P_d := Lib.hid (P_2.out.below hbd)
  go_at_call 47
  refine (sVerifyKnowledge_any P Q G G x dealerT (by decide) hpn P_d.out).mono ?_
  rw [HP.out, HO.out]
  rintro e' wf ⟨rfl, hbf0⟩
  have hbf := bt hbd hbf0
  have G_s := Lib.hid (G_2.out.below hbf)
  have D_s := Lib.hid (D_2.out.below hbf)
  have Z_s := Lib.hid (Z_2.out.below hbf)
  have X_s := Lib.hid (X_2.out.below hbf)
  have HB_s := Lib.hid (bt HB_2.out hbf)
  clear hbf hbd hbf0 P_d
  refine hK.out _ _ (by first | exact ⟨G_s.out, ⟨D_s.out.1, D_s.out.2.1⟩, ⟨Z_s.out.1, Z_s.out.2.1, Z_s.out.2.2.1⟩, X_s.out⟩ | (dsimp only; exact ⟨G_s.out, ⟨D_s.out.1, D_s.out.2.1⟩, ⟨Z_s.out.1, Z_s.out.2.1, Z_s.out.2.2.1⟩, X_s.out⟩)) (fun hHeld => ?_)
  clear hK K
  try simp only [Act.put, List.getElem_toArray, List.getElem_cons_succ, List.getElem_cons_zero, List.setIfInBounds_toArray, List.set_cons_zero, List.set_cons_succ]
  refine wpAnyH_take (i := 9) (v := ?_) rfl (by kernel_rfl) (by kernel_rfl) (by kernel_rfl) (fun _ _ _ h => h) (Or.inl ⟨by kernel_rfl, ?_⟩) (by assumption) ?_
  rotate_left 1
  · intro w hSw
    try dsimp only at hSw
    go_simp
    try with_reducible rfl
  try simp only [Act.put, List.getElem_toArray, List.getElem_cons_succ, List.getElem_cons_zero, List.setIfInBounds_toArray, List.set_cons_zero, List.set_cons_succ]
  refine wpAnyH_take (i := 10) (v := ?_) rfl (by kernel_rfl) (by kernel_rfl) (by kernel_rfl) (fun _ _ _ h => h) (Or.inl ⟨by kernel_rfl, ?_⟩) (by assumption) ?_
  rotate_left 1
  · intro w hSw
    try dsimp only at hSw
    go_simp
    try with_reducible rfl
  try simp only [Act.put, List.getElem_toArray, List.getElem_cons_succ, List.getElem_cons_zero, List.setIfInBounds_toArray, List.set_cons_zero, List.set_cons_succ]
  refine wpAnyH_take (i := 11) (v := ?_) rfl (by kernel_rfl) (by kernel_rfl) (by kernel_rfl) (fun _ _ _ h => h) (Or.inl ⟨by kernel_rfl, ?_⟩) (by assumption) ?_
  rotate_left 1
  · intro w hSw
    try dsimp only at hSw
    go_simp
    try with_reducible rfl
  try simp only [Act.put, List.getElem_toArray, List.getElem_cons_succ, List.getElem_cons_zero, List.setIfInBounds_toArray, List.set_cons_zero, List.set_cons_succ]
  refine wpAnyH_take (i := 12) (v := ?_) rfl (by kernel_rfl) (by kernel_rfl) (by kernel_rfl) (fun _ _ _ h => h) (Or.inl ⟨by kernel_rfl, ?_⟩) (by assumption) ?_
  rotate_left 1
  · intro w hSw
    try dsimp only at hSw
    go_simp
    try with_reducible rfl
  try simp only [Act.put, List.getElem_toArray, List.getElem_cons_succ, List.getElem_cons_zero, List.setIfInBounds_toArray, List.set_cons_zero, List.set_cons_succ]
  refine wpAnyH_done (by kernel_rfl) ?_ _
  clear hHeld
  go_wp2
  go_ret2
  exact ⟨by rw [E1.out, E2.out]; rfl, HB_s.out⟩

end Go.Proofs.YtchlnkdlnfjijaaGreat

