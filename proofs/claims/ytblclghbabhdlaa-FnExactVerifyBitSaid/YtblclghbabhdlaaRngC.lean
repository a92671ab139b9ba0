/- Chapter 10, the reference: the verdict on a bit, on a sum. -/
import Derived.Test.YtblclghbabhdlaaRngB
namespace Go.Proofs.Ytblclghbabhdlaa
open Go.RowKit
set_option linter.unusedVariables false
set_option linter.unusedSimpArgs false


theorem fo_nat {P Q : Int} {p : PrD} {a b c : Nat} : foB P Q p (a : Int) (b : Int) (c : Int) = foV P Q p a b c := by
  have e : ∀ m n : Nat, decide ((m : Int) = (n : Int)) = decide (m = n) := fun m n => by
    by_cases h : m = n
    · subst h; simp
    · rw [decide_eq_false h, decide_eq_false (by omega)]
  unfold foB foV
  rw [e, e, e]
/-- One equation of a bit's verdict. -/
def okK (P Q G H c : Int) (xs es zs : List Int) (k : Nat) : Bool := Num.pow H (zs.getD k 0) P == xs.getD k 0 * Num.pow (rcV P Q G c k) (es.getD k 0) P % P
/-- What is left of a bit's verdict. -/
def rbR (P Q G H c : Int) (xs es zs : List Int) (s : Bool) : Nat → Bool
  | 0 => okK P Q G H c xs es zs 0 && (okK P Q G H c xs es zs 1 && s)
  | 1 => okK P Q G H c xs es zs 1 && s
  | _ => s
theorem rbR_step {P Q G H c : Int} {xs es zs : List Int} {s : Bool} {k : Nat} (hk : k < 2) : rbR P Q G H c xs es zs s k = (okK P Q G H c xs es zs k && rbR P Q G H c xs es zs s (k + 1)) := by
  match k, hk with
  | 0, _ => rfl
  | 1, _ => rfl
theorem rb_start {P Q G H c x0 x1 e0 e1 z0 z1 : Int} : rbOk P Q G H c ⟨[x0, x1], [e0, e1], [z0, z1]⟩ = rbR P Q G H c [x0, x1] [e0, e1] [z0, z1] (decide ((e0 + e1) % Q = chX P Q G bitL [H, c, x0, x1])) 0 := rfl
theorem CC.at {w : World} {b o : Nat} {x y : Int} (h : CC w b o x y) {k : Nat} (hk : k < 2) : w.cell? ⟨b, o + k, none⟩ = some (.int .i64 ([x, y].getD k 0)) := by
  match k, hk with
  | 0, _ => exact h.1
  | 1, _ => exact h.2
theorem two_all {p : Int → Prop} {x y : Int} (hx : p x) (hy : p y) {k : Nat} (hk : k < 2) : p ([x, y].getD k 0) := by
  match k, hk with
  | 0, _ => exact hx
  | 1, _ => exact hy

set_option maxRecDepth 100000 in
set_option maxHeartbeats 6400000 in
theorem rIsBit_any (P Q G H c : Int) (hg : goodB P Q G = true) (hH : elB P Q H = true) (hc : elB P Q c = true) {B C : Nat} {y v : Value} {hs : List Int} {p : PrD} (hpn : p.n ≤ 1048576) {w : World} (hy : InI B w y hs) (hP : InP C w v p) :
    Calls Try.prog 49 #[gv P Q G, .agg #[.int .i64 H, y], .int .i64 c, v] w fun e w' => e = .returned (.bool (rbV P Q G H c p)) ∧ Below w.heap.size w w' := by
  obtain ⟨ya, yc, rfl⟩ := hy.shape
  obtain ⟨a1, c1, a2, c2, a3, c3, rfl, _, _, _⟩ := hP.parts
  have G_9 := Lib.hid ((gr_at w (w.heap.size) (by simp) P Q G 32).below (ba (w.alloc (.cells #[.int .i64 P, .int .i64 Q, .int .i64 G] 32)) (.cells #[.int .i64 H, .slice ya hs.length yc] 34)))
  have V_9 := Lib.hid (d2_at (w.alloc (.cells #[.int .i64 P, .int .i64 Q, .int .i64 G] 32)) (w.heap.size + 1) (by simp) (.int .i64 H) (.slice ya hs.length yc) 34)
  have HB_9 := Lib.hid (show Below w.heap.size w ((w.alloc (.cells #[.int .i64 P, .int .i64 Q, .int .i64 G] 32)).alloc (.cells #[.int .i64 H, .slice ya hs.length yc] 34)) from bt (ba _ _) (ba _ _))
  have hv := b3_new ((w.alloc (.cells #[.int .i64 P, .int .i64 Q, .int .i64 G] 32)).alloc (.cells #[.int .i64 H, .slice ya hs.length yc] 34)) (.slice a1 p.c.length c1) (.slice a2 p.h.length c2) (.slice a3 p.r.length c3) 29
  rw [show ((w.alloc (.cells #[.int .i64 P, .int .i64 Q, .int .i64 G] 32)).alloc (.cells #[.int .i64 H, .slice ya hs.length yc] 34)).heap.size = w.heap.size + 2 by simp] at hv
  have X_0 := Lib.hid hv
  have G_0 := Lib.hid (G_9.out.below (ba _ (.cells #[.slice a1 p.c.length c1, .slice a2 p.h.length c2, .slice a3 p.r.length c3] 29)))
  have V_0 := Lib.hid (V_9.out.below (ba _ (.cells #[.slice a1 p.c.length c1, .slice a2 p.h.length c2, .slice a3 p.r.length c3] 29)))
  have HB_0 := Lib.hid (bt HB_9.out (ba _ (.cells #[.slice a1 p.c.length c1, .slice a2 p.h.length c2, .slice a3 p.r.length c3] 29)))
  have Y_0 := Lib.hid (hy.below HB_0.out)
  have PP_0 := Lib.hid (hP.below HB_0.out)
  clear hv hP hy G_9 V_9 HB_9
  have HG := Lib.hid hg
  have hfn : foB P Q p 2 2 2 = foV P Q p 2 2 2 := fo_nat (a := 2) (b := 2) (c := 2)
  cases h0 : foV P Q p 2 2 2
  · have E1 := Lib.hid (show rbV P Q G H c p = false by unfold rbV; rw [h0]; rfl)
    rw [E1.out]
    have K0 := Lib.hid (show foB P Q p 2 2 2 = false by rw [hfn]; exact h0)
    clear h0 hg hfn
    obtain ⟨g0, g1, g2⟩ := G_0.out
    obtain ⟨x0, x1, x2, _⟩ := X_0.out
    go_enter Try.func49, Try.ntmps49
    go_wp2_with fail
    refine (l9Form_any P Q G 2 2 2 HG.out hpn PP_0.out).mono ?_
    rw [K0.out]
    rintro e v1 ⟨rfl, hb⟩
    have HB_1 := Lib.hid (bt HB_0.out hb)
    clear hb
    go_wp2
    go_ret
    exact ⟨rfl, HB_1.out⟩
  have K0 := Lib.hid (show foB P Q p 2 2 2 = true by rw [hfn]; exact h0)
  obtain ⟨f1, f2, f3, f4, f5, f6⟩ := foV_true.1 h0
  have EV := Lib.hid (show rbV P Q G H c p = rbOk P Q G H c p by unfold rbV; rw [h0]; rfl)
  rw [EV.out]
  obtain ⟨pc, ph, pr⟩ := p
  simp only at f1 f2 f3 f4 f5 f6 PP_0 X_0 HB_0 G_0 V_0 Y_0 K0 hpn ⊢
  obtain ⟨x0, x1, rfl⟩ := two_list f1
  obtain ⟨e0, e1, rfl⟩ := two_list f2
  obtain ⟨z0, z1, rfl⟩ := two_list f3
  rw [rb_start]
  have hmo := good_mo hg
  have hgr := good_rng hg
  simp only [allEl, List.all_cons, List.all_nil, Bool.and_true, Bool.and_eq_true] at f4
  obtain ⟨he0, he1⟩ := in_pair f5
  obtain ⟨hz0, hz1⟩ := in_pair f6
  obtain ⟨xb, xo, rfl, hcx⟩ := (inP_c PP_0.out).twoC
  obtain ⟨eb, eo, rfl, hce⟩ := (inP_h PP_0.out).twoC
  obtain ⟨rb, ro, rfl, hcc⟩ := (inP_r PP_0.out).twoC
  have CX_0 := Lib.hid hcx
  have CE_0 := Lib.hid hce
  have CR_0 := Lib.hid hcc
  have HH := Lib.hid hH
  have HC := Lib.hid hc
  have HX0 := Lib.hid f4.1
  have HX1 := Lib.hid f4.2
  have HEE := Lib.hid (And.intro he0 he1)
  have HZZ := Lib.hid (And.intro hz0 hz1)
  have HHr := Lib.hid (el_sm hg hH)
  have HPQ := Lib.hid (And.intro hmo.1 hgr.2.1)
  obtain ⟨ch, hch⟩ : ∃ ch, chX P Q G bitL [H, c, x0, x1] = ch := ⟨_, rfl⟩
  rw [hch]
  have HCH := Lib.hid hch
  clear hg hH hc h0 f1 f2 f3 f4 f5 f6 hcx hce hcc he0 he1 hz0 hz1 hmo hgr hch hfn EV
  obtain ⟨W, hW9⟩ : ∃ W, (((w.alloc (.cells #[.int .i64 P, .int .i64 Q, .int .i64 G] 32)).alloc (.cells #[.int .i64 H, .slice ya hs.length yc] 34)).alloc (.cells #[.slice (some ⟨xb, xo, none⟩) [x0, x1].length c1, .slice (some ⟨eb, eo, none⟩) [e0, e1].length c2, .slice (some ⟨rb, ro, none⟩) [z0, z1].length c3] 29)) = W := ⟨_, rfl⟩
  rw [hW9] at X_0 PP_0 HB_0 G_0 V_0 Y_0 CX_0 CE_0 CR_0
  have hW : (((w.alloc (.cells #[.int .i64 P, .int .i64 Q, .int .i64 G] 32)).alloc (.cells #[.int .i64 H, .slice ya hs.length yc] 34)).alloc (.cells #[.slice (some ⟨xb, xo, none⟩) 2 c1, .slice (some ⟨eb, eo, none⟩) 2 c2, .slice (some ⟨rb, ro, none⟩) 2 c3] 29)) = W := hW9
  clear hW9
  have X_0 := Lib.hid (show B3 W (w.heap.size + 2) (.slice (some ⟨xb, xo, none⟩) 2 c1) (.slice (some ⟨eb, eo, none⟩) 2 c2) (.slice (some ⟨rb, ro, none⟩) 2 c3) from X_0.out)
  obtain ⟨g0, g1, g2⟩ := G_0.out
  obtain ⟨b0, b1, b2, _⟩ := X_0.out
  go_enter Try.func49, Try.ntmps49
  go_wp2_with fail
  refine (l9Form_any P Q G 2 2 2 HG.out hpn PP_0.out).mono ?_
  rw [K0.out]
  rintro e' v1 ⟨rfl, hb⟩
  have HB_1 := Lib.hid (bt HB_0.out hb)
  have G_1 := Lib.hid (G_0.out.below hb)
  have V_1 := Lib.hid (V_0.out.below hb)
  have X_1 := Lib.hid (X_0.out.below hb)
  have Y_1 := Lib.hid (Y_0.out.below hb)
  have CX_1 := Lib.hid (CX_0.out.below hb)
  have CE_1 := Lib.hid (CE_0.out.below hb)
  have CR_1 := Lib.hid (CR_0.out.below hb)
  clear hb g0 g1 g2 b0 b1 b2 hW
  go_wp2_with fail
  go_loopw [9] (fun K wr => ∃ k : Nat, k ≤ 2 ∧ K = .int .i64 k ∧ rbR P Q G H c [x0, x1] [e0, e1] [z0, z1] (decide ((e0 + e1) % Q = ch)) 0 = rbR P Q G H c [x0, x1] [e0, e1] [z0, z1] (decide ((e0 + e1) % Q = ch)) k ∧ Below w.heap.size w wr ∧ GR wr w.heap.size P Q G ∧ D2 wr (w.heap.size + 1) (.int .i64 H) (.slice ya hs.length yc) ∧ B3 wr (w.heap.size + 2) (.slice (some ⟨xb, xo, none⟩) 2 c1) (.slice (some ⟨eb, eo, none⟩) 2 c2) (.slice (some ⟨rb, ro, none⟩) 2 c3) ∧ InI B wr (.slice ya hs.length yc) hs ∧ CC wr xb xo x0 x1 ∧ CC wr eb eo e0 e1 ∧ CC wr rb ro z0 z1) (fun K _ => 2 - (intOf K).toNat)
  case atStart => exact ⟨0, by omega, rfl, rfl, HB_1.out, G_1.out, V_1.out, X_1.out, Y_1.out, CX_1.out, CE_1.out, CR_1.out⟩
  case round =>
    obtain ⟨k, hk, rfl, he, hr1, hr2, hr3, hr4, hr5, hr6, hr7, hr8⟩ := hrel
    have HB_r := Lib.hid hr1
    have G_r := Lib.hid hr2
    have V_r := Lib.hid hr3
    have X_r := Lib.hid hr4
    have Y_r := Lib.hid hr5
    have CX_r := Lib.hid hr6
    have CE_r := Lib.hid hr7
    have CR_r := Lib.hid hr8
    clear hr1 hr2 hr3 hr4 hr5 hr6 hr7 hr8
    by_cases hk2 : k < 2
    · have hki : (k : Int) < 2 := by omega
      have hkx := CX_r.out.at hk2
      have hke := CE_r.out.at hk2
      have hkr := CR_r.out.at hk2
      rw [rbR_step hk2] at he
      have hxk : elB P Q ([x0, x1].getD k 0) = true := two_all (p := fun x => elB P Q x = true) HX0.out HX1.out hk2
      have hek : 0 ≤ [e0, e1].getD k 0 ∧ [e0, e1].getD k 0 < Q := two_all (p := fun x => 0 ≤ x ∧ x < Q) HEE.out.1 HEE.out.2 hk2
      have hzk : 0 ≤ [z0, z1].getD k 0 ∧ [z0, z1].getD k 0 < Q := two_all (p := fun x => 0 ≤ x ∧ x < Q) HZZ.out.1 HZZ.out.2 hk2
      unfold okK at he
      generalize [x0, x1].getD k 0 = xk at *
      generalize [e0, e1].getD k 0 = ek at *
      generalize [z0, z1].getD k 0 = zk at *
      have hrk := rc_el HG.out HC.out k
      have hrr := el_sm HG.out hrk
      have hxr := el_rng hxk
      have hpw := pow_lt (rcV P Q G c k) ek P HPQ.out.1.1
      have EM0 := mul_two (b := Num.pow (rcV P Q G c k) ek P) hxr.1 hxr.2
      have HPP := Lib.hid (show ∀ z ∈ [xk, Num.pow (rcV P Q G c k) ek P], 0 ≤ z ∧ z < P from fun z hz => by
        simp only [List.mem_cons, List.not_mem_nil, or_false] at hz
        rcases hz with rfl | rfl
        · exact hxr
        · exact hpw)
      have HRr := Lib.hid hrr
      have HEr := Lib.hid hek
      have HZr := Lib.hid hzk
      obtain ⟨mv, hmv⟩ : ∃ m, xk * Num.pow (rcV P Q G c k) ek P % P = m := ⟨_, rfl⟩
      rw [hmv] at EM0 he
      obtain ⟨pw, hpe⟩ : ∃ m, Num.pow (rcV P Q G c k) ek P = m := ⟨_, rfl⟩
      rw [hpe] at EM0 HPP
      obtain ⟨rk, hre⟩ : ∃ m, rcV P Q G c k = m := ⟨_, rfl⟩
      rw [hre] at hpe HRr
      obtain ⟨pz, hpz⟩ : ∃ m, Num.pow H zk P = m := ⟨_, rfl⟩
      rw [hpz] at he
      have HPZ := Lib.hid hpz
      have HRK := Lib.hid hre
      have HPW := Lib.hid hpe
      have EM := Lib.hid EM0
      clear hpz hre hpe EM0 hmv hpw hxr hrr hrk hxk hek hzk
      cases hcmp : (pz == mv)
      · rw [hcmp, Bool.false_and] at he
        have HS := Lib.hid he
        have HN := Lib.hid (show (pz != mv) = true by rw [bne, hcmp]; rfl)
        clear he hcmp
        go_wp2_with fail
        refine wp_region_held_drew (S := (fun w' => ((w'.cell? ⟨w.heap.size, 0, none⟩ = some (.int .i64 P) ∧ w'.cell? ⟨w.heap.size, 1, none⟩ = some (.int .i64 Q) ∧ w'.cell? ⟨w.heap.size, 2, none⟩ = some (.int .i64 G)) ∧ (w'.cell? ⟨w.heap.size + 1, 0, none⟩ = some (.int .i64 H) ∧ w'.cell? ⟨w.heap.size + 1, 1, none⟩ = some (.slice ya hs.length yc))) ∧ (w'.cell? ⟨w.heap.size + 2, 0, none⟩ = some (.slice (some ⟨xb, xo, none⟩) 2 c1) ∧ w'.cell? ⟨w.heap.size + 2, 1, none⟩ = some (.slice (some ⟨eb, eo, none⟩) 2 c2) ∧ w'.cell? ⟨w.heap.size + 2, 2, none⟩ = some (.slice (some ⟨rb, ro, none⟩) 2 c3)) ∧ w'.cell? ⟨xb, xo + k, none⟩ = some (.int .i64 xk) ∧ w'.cell? ⟨eb, eo + k, none⟩ = some (.int .i64 ek) ∧ w'.cell? ⟨rb, ro + k, none⟩ = some (.int .i64 zk))) (by kernel_rfl) (show _ from ⟨⟨⟨G_r.out.1, G_r.out.2.1, G_r.out.2.2⟩, ⟨V_r.out.1, V_r.out.2⟩⟩, ⟨X_r.out.1, X_r.out.2.1, X_r.out.2.2.1⟩, hkx, hke, hkr⟩) (fun hHeld => ?_)
        refine wpAnyH_take (i := 0) (v := ?_) rfl (by kernel_rfl) (by kernel_rfl) (by kernel_rfl) (fun _ _ _ h => h) (Or.inl ⟨by kernel_rfl, ?_⟩) (by assumption) ?_
        rotate_left 1
        · intro w9 hSw
          try dsimp only at hSw
          go_simp
          try with_reducible rfl
        try simp only [Act.put, List.getElem_toArray, List.getElem_cons_succ, List.getElem_cons_zero, List.setIfInBounds_toArray, List.set_cons_zero, List.set_cons_succ]
        refine wpAnyH_take (i := 1) (v := ?_) rfl (by kernel_rfl) (by kernel_rfl) (by kernel_rfl) (fun _ _ _ h => h) (Or.inl ⟨by kernel_rfl, ?_⟩) (by assumption) ?_
        rotate_left 1
        · intro w9 hSw
          try dsimp only at hSw
          go_simp
          try with_reducible rfl
        try simp only [Act.put, List.getElem_toArray, List.getElem_cons_succ, List.getElem_cons_zero, List.setIfInBounds_toArray, List.set_cons_zero, List.set_cons_succ]
        refine wpAnyH_take (i := 2) (v := ?_) rfl (by kernel_rfl) (by kernel_rfl) (by kernel_rfl) (fun _ _ _ h => h) (Or.inl ⟨by kernel_rfl, ?_⟩) (by assumption) ?_
        rotate_left 1
        · intro w9 hSw
          try dsimp only at hSw
          go_simp
          try with_reducible rfl
        try simp only [Act.put, List.getElem_toArray, List.getElem_cons_succ, List.getElem_cons_zero, List.setIfInBounds_toArray, List.set_cons_zero, List.set_cons_succ]
        refine wpAnyH_take (i := 3) (v := ?_) rfl (by kernel_rfl) (by kernel_rfl) (by kernel_rfl) (fun _ _ _ h => h) (Or.inl ⟨by kernel_rfl, ?_⟩) (by assumption) ?_
        rotate_left 1
        · intro w9 hSw
          try dsimp only at hSw
          go_simp
          try with_reducible rfl
        try simp only [Act.put, List.getElem_toArray, List.getElem_cons_succ, List.getElem_cons_zero, List.setIfInBounds_toArray, List.set_cons_zero, List.set_cons_succ]
        refine wpAnyH_take (i := 4) (v := ?_) rfl (by kernel_rfl) (by kernel_rfl) (by kernel_rfl) (fun _ _ _ h => h) (Or.inl ⟨by kernel_rfl, ?_⟩) (by assumption) ?_
        rotate_left 1
        · intro w9 hSw
          try dsimp only at hSw
          go_simp
          try with_reducible rfl
        try simp only [Act.put, List.getElem_toArray, List.getElem_cons_succ, List.getElem_cons_zero, List.setIfInBounds_toArray, List.set_cons_zero, List.set_cons_succ]
        refine wpAnyH_take (i := 5) (v := ?_) rfl (by kernel_rfl) (by kernel_rfl) (by kernel_rfl) (fun _ _ _ h => h) (Or.inl ⟨by kernel_rfl, ?_⟩) (by assumption) ?_
        rotate_left 1
        · intro w9 hSw
          try dsimp only at hSw
          go_simp
          try with_reducible rfl
        try simp only [Act.put, List.getElem_toArray, List.getElem_cons_succ, List.getElem_cons_zero, List.setIfInBounds_toArray, List.set_cons_zero, List.set_cons_succ]
        refine wpAnyH_take (i := 6) (v := ?_) rfl (by kernel_rfl) (by kernel_rfl) (by kernel_rfl) (fun _ _ _ h => h) (Or.inl ⟨by kernel_rfl, ?_⟩) (by assumption) ?_
        rotate_left 1
        · intro w9 hSw
          try dsimp only at hSw
          go_simp
          try with_reducible rfl
        try simp only [Act.put, List.getElem_toArray, List.getElem_cons_succ, List.getElem_cons_zero, List.setIfInBounds_toArray, List.set_cons_zero, List.set_cons_succ]
        refine wpAnyH_take (i := 7) (v := ?_) rfl (by kernel_rfl) (by kernel_rfl) (by kernel_rfl) (fun _ _ _ h => h) (Or.inl ⟨by kernel_rfl, ?_⟩) (by assumption) ?_
        rotate_left 1
        · intro w9 hSw
          try dsimp only at hSw
          go_simp
          try with_reducible rfl
        try simp only [Act.put, List.getElem_toArray, List.getElem_cons_succ, List.getElem_cons_zero, List.setIfInBounds_toArray, List.set_cons_zero, List.set_cons_succ]
        refine wpAnyH_take (i := 9) (v := ?_) rfl (by kernel_rfl) (by kernel_rfl) (by kernel_rfl) (fun _ _ _ h => h) (Or.inl ⟨by kernel_rfl, ?_⟩) (by assumption) ?_
        rotate_left 1
        · intro w9 hSw
          try dsimp only at hSw
          go_simp
          try with_reducible rfl
        try simp only [Act.put, List.getElem_toArray, List.getElem_cons_succ, List.getElem_cons_zero, List.setIfInBounds_toArray, List.set_cons_zero, List.set_cons_succ]
        refine wpAnyH_take (i := 10) (v := ?_) rfl (by kernel_rfl) (by kernel_rfl) (by kernel_rfl) (fun _ _ _ h => h) (Or.inl ⟨by kernel_rfl, ?_⟩) (by assumption) ?_
        rotate_left 1
        · intro w9 hSw
          try dsimp only at hSw
          go_simp
          try with_reducible rfl
        try simp only [Act.put, List.getElem_toArray, List.getElem_cons_succ, List.getElem_cons_zero, List.setIfInBounds_toArray, List.set_cons_zero, List.set_cons_succ]
        refine wpAnyH_take (i := 11) (v := ?_) rfl (by kernel_rfl) (by kernel_rfl) (by kernel_rfl) (fun _ _ _ h => h) (Or.inl ⟨by kernel_rfl, ?_⟩) (by assumption) ?_
        rotate_left 1
        · intro w9 hSw
          try dsimp only at hSw
          go_simp
          try with_reducible rfl
        try simp only [Act.put, List.getElem_toArray, List.getElem_cons_succ, List.getElem_cons_zero, List.setIfInBounds_toArray, List.set_cons_zero, List.set_cons_succ]
        refine wpAnyH_take (i := 12) (v := ?_) rfl (by kernel_rfl) (by kernel_rfl) (by kernel_rfl) (fun _ _ _ h => h) (Or.inl ⟨by kernel_rfl, ?_⟩) (by assumption) ?_
        rotate_left 1
        · intro w9 hSw
          try dsimp only at hSw
          go_simp
          try with_reducible rfl
        try simp only [Act.put, List.getElem_toArray, List.getElem_cons_succ, List.getElem_cons_zero, List.setIfInBounds_toArray, List.set_cons_zero, List.set_cons_succ]
        refine wpAnyH_take (i := 13) (v := ?_) rfl (by kernel_rfl) (by kernel_rfl) (by kernel_rfl) (fun _ _ _ h => h) (Or.inl ⟨by kernel_rfl, ?_⟩) (by assumption) ?_
        rotate_left 1
        · intro w9 hSw
          try dsimp only at hSw
          go_simp
          try with_reducible rfl
        try simp only [Act.put, List.getElem_toArray, List.getElem_cons_succ, List.getElem_cons_zero, List.setIfInBounds_toArray, List.set_cons_zero, List.set_cons_succ]
        refine wpAnyH_take (i := 14) (v := ?_) rfl (by kernel_rfl) (by kernel_rfl) (by kernel_rfl) (fun _ _ _ h => h) (Or.inl ⟨by kernel_rfl, ?_⟩) (by assumption) ?_
        rotate_left 1
        · intro w9 hSw
          try dsimp only at hSw
          go_simp
          try with_reducible rfl
        try simp only [Act.put, List.getElem_toArray, List.getElem_cons_succ, List.getElem_cons_zero, List.setIfInBounds_toArray, List.set_cons_zero, List.set_cons_succ]
        refine wpAnyH_take (i := 15) (v := ?_) rfl (by kernel_rfl) (by kernel_rfl) (by kernel_rfl) (fun _ _ _ h => h) (Or.inl ⟨by kernel_rfl, ?_⟩) (by assumption) ?_
        rotate_left 1
        · intro w9 hSw
          try dsimp only at hSw
          go_simp
          try with_reducible rfl
        try simp only [Act.put, List.getElem_toArray, List.getElem_cons_succ, List.getElem_cons_zero, List.setIfInBounds_toArray, List.set_cons_zero, List.set_cons_succ]
        refine wpAnyH_take (i := 16) (v := ?_) rfl (by kernel_rfl) (by kernel_rfl) (by kernel_rfl) (fun _ _ _ h => h) (Or.inl ⟨by kernel_rfl, ?_⟩) (by assumption) ?_
        rotate_left 1
        · intro w9 hSw
          try dsimp only at hSw
          go_simp
          try with_reducible rfl
        try simp only [Act.put, List.getElem_toArray, List.getElem_cons_succ, List.getElem_cons_zero, List.setIfInBounds_toArray, List.set_cons_zero, List.set_cons_succ]
        refine wpAnyH_take (i := 17) (v := ?_) rfl (by kernel_rfl) (by kernel_rfl) (by kernel_rfl) (fun _ _ _ h => h) (Or.inl ⟨by kernel_rfl, ?_⟩) (by assumption) ?_
        rotate_left 1
        · intro w9 hSw
          try dsimp only at hSw
          go_simp
          try with_reducible rfl
        try simp only [Act.put, List.getElem_toArray, List.getElem_cons_succ, List.getElem_cons_zero, List.setIfInBounds_toArray, List.set_cons_zero, List.set_cons_succ]
        refine wpAnyH_take (i := 18) (v := ?_) rfl (by kernel_rfl) (by kernel_rfl) (by kernel_rfl) (fun _ _ _ h => h) (Or.inl ⟨by kernel_rfl, ?_⟩) (by assumption) ?_
        rotate_left 1
        · intro w9 hSw
          try dsimp only at hSw
          go_simp
          try with_reducible rfl
        try simp only [Act.put, List.getElem_toArray, List.getElem_cons_succ, List.getElem_cons_zero, List.setIfInBounds_toArray, List.set_cons_zero, List.set_cons_succ]
        refine wpAnyH_take (i := 20) (v := ?_) rfl (by kernel_rfl) (by kernel_rfl) (by kernel_rfl) (fun _ _ _ h => h) (Or.inl ⟨by kernel_rfl, ?_⟩) (by assumption) ?_
        rotate_left 1
        · intro w9 hSw
          try dsimp only at hSw
          go_simp
          try with_reducible rfl
        try simp only [Act.put, List.getElem_toArray, List.getElem_cons_succ, List.getElem_cons_zero, List.setIfInBounds_toArray, List.set_cons_zero, List.set_cons_succ]
        refine wpAnyH_take (i := 21) (v := ?_) rfl (by kernel_rfl) (by kernel_rfl) (by kernel_rfl) (fun _ _ _ h => h) (Or.inl ⟨by kernel_rfl, ?_⟩) (by assumption) ?_
        rotate_left 1
        · intro w9 hSw
          try dsimp only at hSw
          go_simp
          try with_reducible rfl
        try simp only [Act.put, List.getElem_toArray, List.getElem_cons_succ, List.getElem_cons_zero, List.setIfInBounds_toArray, List.set_cons_zero, List.set_cons_succ]
        refine wpAnyH_take (i := 22) (v := ?_) rfl (by kernel_rfl) (by kernel_rfl) (by kernel_rfl) (fun _ _ _ h => h) (Or.inl ⟨by kernel_rfl, ?_⟩) (by assumption) ?_
        rotate_left 1
        · intro w9 hSw
          try dsimp only at hSw
          go_simp
          try with_reducible rfl
        try simp only [Act.put, List.getElem_toArray, List.getElem_cons_succ, List.getElem_cons_zero, List.setIfInBounds_toArray, List.set_cons_zero, List.set_cons_succ]
        refine wpAnyH_take (i := 23) (v := ?_) rfl (by kernel_rfl) (by kernel_rfl) (by kernel_rfl) (fun _ _ _ h => h) (Or.inl ⟨by kernel_rfl, ?_⟩) (by assumption) ?_
        rotate_left 1
        · intro w9 hSw
          try dsimp only at hSw
          go_simp
          try with_reducible rfl
        try simp only [Act.put, List.getElem_toArray, List.getElem_cons_succ, List.getElem_cons_zero, List.setIfInBounds_toArray, List.set_cons_zero, List.set_cons_succ]
        refine wpAnyH_take (i := 24) (v := ?_) rfl (by kernel_rfl) (by kernel_rfl) (by kernel_rfl) (fun _ _ _ h => h) (Or.inl ⟨by kernel_rfl, ?_⟩) (by assumption) ?_
        rotate_left 1
        · intro w9 hSw
          try dsimp only at hSw
          go_simp
          try with_reducible rfl
        try simp only [Act.put, List.getElem_toArray, List.getElem_cons_succ, List.getElem_cons_zero, List.setIfInBounds_toArray, List.set_cons_zero, List.set_cons_succ]
        have hB0 : (fun w1 => (Below w.heap.size w w1) ∧ (GR w1 w.heap.size P Q G) ∧ (D2 w1 (w.heap.size + 1) (.int .i64 H) (.slice ya hs.length yc)) ∧ (B3 w1 (w.heap.size + 2) (.slice (some ⟨xb, xo, none⟩) 2 c1) (.slice (some ⟨eb, eo, none⟩) 2 c2) (.slice (some ⟨rb, ro, none⟩) 2 c3)) ∧ (InI B w1 (.slice ya hs.length yc) hs) ∧ (w1.cell? ⟨xb, xo + k, none⟩ = some (.int .i64 xk)) ∧ (w1.cell? ⟨eb, eo + k, none⟩ = some (.int .i64 ek)) ∧ (w1.cell? ⟨rb, ro + k, none⟩ = some (.int .i64 zk)) ∧ (CC w1 xb xo x0 x1) ∧ (CC w1 eb eo e0 e1) ∧ (CC w1 rb ro z0 z1)) wr.drew := ⟨HB_r.out.drew, G_r.out.drew, V_r.out.drew, X_r.out.drew, Y_r.out.dr, hkx, hke, hkr, CX_r.out, CE_r.out, CR_r.out⟩
        refine wpAnyH_part (V := fun i u w1 => cond (Nat.beq i 8) (u = .int .i64 pz) (cond (Nat.beq i 19) (u = .int .i64 rk) (cond (Nat.beq i 25) (u = .int .i64 pw) (cond (Nat.beq i 26) (∃ (b26 : Nat), u = .slice (some ⟨b26, 0, none⟩) 2 2 ∧ (IsInts w1 (some ⟨b26, 0, none⟩) [xk, pw])) (cond (Nat.beq i 27) (u = .int .i64 mv) (cond (Nat.beq i 28) (u = .bool true) (True))))))) (B := fun w1 => (Below w.heap.size w w1) ∧ (GR w1 w.heap.size P Q G) ∧ (D2 w1 (w.heap.size + 1) (.int .i64 H) (.slice ya hs.length yc)) ∧ (B3 w1 (w.heap.size + 2) (.slice (some ⟨xb, xo, none⟩) 2 c1) (.slice (some ⟨eb, eo, none⟩) 2 c2) (.slice (some ⟨rb, ro, none⟩) 2 c3)) ∧ (InI B w1 (.slice ya hs.length yc) hs) ∧ (w1.cell? ⟨xb, xo + k, none⟩ = some (.int .i64 xk)) ∧ (w1.cell? ⟨eb, eo + k, none⟩ = some (.int .i64 ek)) ∧ (w1.cell? ⟨rb, ro + k, none⟩ = some (.int .i64 zk)) ∧ (CC w1 xb xo x0 x1) ∧ (CC w1 eb eo e0 e1) ∧ (CC w1 rb ro z0 z1)) (R := fun w1 w2 => Below w1.heap.size w1 w2) 0 (rs := [8, 19, 25, 26, 27, 28]) (ds := [(8, some 26), (19, some 37), (25, some 43), (26, some 44), (27, some 45), (28, some 46)]) (by kernel_rfl) (by kernel_rfl) (by kernel_rfl) (by kernel_rfl) (by kernel_rfl) ?_ ?_ ?_ hB0 ?_ ?_
        · intro w1 w2 hB hR
          clear hB0
          obtain ⟨b_HBb, b_Gb, b_Vb, b_Xb, b_Yb, b_KX, b_KE, b_KR, b_CXb, b_CEb, b_CRb⟩ := hB
          exact ⟨bt b_HBb hR, b_Gb.below hR, b_Vb.below hR, b_Xb.below hR, b_Yb.below hR, cellUp hR b_KX, cellUp hR b_KE, cellUp hR b_KR, b_CXb.below hR, b_CEb.below hR, b_CRb.below hR⟩
        · clear hB0
          refine Last.cons (fun u w1 w2 hB h hR => ?_) ?_
          · have h1 : u = .int .i64 pz := h
            show u = .int .i64 pz
            exact h1
          refine Last.cons (fun u w1 w2 hB h hR => ?_) ?_
          · have h1 : u = .int .i64 rk := h
            show u = .int .i64 rk
            exact h1
          refine Last.cons (fun u w1 w2 hB h hR => ?_) ?_
          · have h1 : u = .int .i64 pw := h
            show u = .int .i64 pw
            exact h1
          refine Last.cons (fun u w1 w2 hB h hR => ?_) ?_
          · have h1 : ∃ (b26 : Nat), u = .slice (some ⟨b26, 0, none⟩) 2 2 ∧ (IsInts w1 (some ⟨b26, 0, none⟩) [xk, pw]) := h
            show ∃ (b26 : Nat), u = .slice (some ⟨b26, 0, none⟩) 2 2 ∧ (IsInts w2 (some ⟨b26, 0, none⟩) [xk, pw])
            obtain ⟨b26, e, f0⟩ := h1
            exact ⟨b26, e, f0.below hR (Nat.le_refl _)⟩
          refine Last.cons (fun u w1 w2 hB h hR => ?_) ?_
          · have h1 : u = .int .i64 mv := h
            show u = .int .i64 mv
            exact h1
          refine Last.cons (fun u w1 w2 hB h hR => ?_) ?_
          · have h1 : u = .bool true := h
            show u = .bool true
            exact h1
          exact Last.nil
        · intro w1 hB
          clear hB0
          obtain ⟨b_HBb, b_Gb, b_Vb, b_Xb, b_Yb, b_KX, b_KE, b_KR, b_CXb, b_CEb, b_CRb⟩ := hB
          have HBb := Lib.hid (show Below w.heap.size w w1 from b_HBb)
          have Gb := Lib.hid (show GR w1 w.heap.size P Q G from b_Gb)
          have Vb := Lib.hid (show D2 w1 (w.heap.size + 1) (.int .i64 H) (.slice ya hs.length yc) from b_Vb)
          have Xb := Lib.hid (show B3 w1 (w.heap.size + 2) (.slice (some ⟨xb, xo, none⟩) 2 c1) (.slice (some ⟨eb, eo, none⟩) 2 c2) (.slice (some ⟨rb, ro, none⟩) 2 c3) from b_Xb)
          have Yb := Lib.hid (show InI B w1 (.slice ya hs.length yc) hs from b_Yb)
          have KX := Lib.hid (show w1.cell? ⟨xb, xo + k, none⟩ = some (.int .i64 xk) from b_KX)
          have KE := Lib.hid (show w1.cell? ⟨eb, eo + k, none⟩ = some (.int .i64 ek) from b_KE)
          have KR := Lib.hid (show w1.cell? ⟨rb, ro + k, none⟩ = some (.int .i64 zk) from b_KR)
          have CXb := Lib.hid (show CC w1 xb xo x0 x1 from b_CXb)
          have CEb := Lib.hid (show CC w1 eb eo e0 e1 from b_CEb)
          have CRb := Lib.hid (show CC w1 rb ro z0 z1 from b_CRb)
          clear b_HBb b_Gb b_Vb b_Xb b_Yb b_KX b_KE b_KR b_CXb b_CEb b_CRb
          exact ⟨⟨⟨Gb.out.1, Gb.out.2.1, Gb.out.2.2⟩, ⟨Vb.out.1, Vb.out.2⟩⟩, ⟨Xb.out.1, Xb.out.2.1, Xb.out.2.2.1⟩, KX.out, KE.out, KR.out⟩
        · clear hB0 hHeld
          refine Steps.cons rfl (js := []) (by kernel_rfl) rfl (fun v W1 hB hF Q9 K hK => ?_) ?_
          · obtain ⟨b_HBb, b_Gb, b_Vb, b_Xb, b_Yb, b_KX, b_KE, b_KR, b_CXb, b_CEb, b_CRb⟩ := hB
            have HBb := Lib.hid (show Below w.heap.size w W1 from b_HBb)
            have Gb := Lib.hid (show GR W1 w.heap.size P Q G from b_Gb)
            have Vb := Lib.hid (show D2 W1 (w.heap.size + 1) (.int .i64 H) (.slice ya hs.length yc) from b_Vb)
            have Xb := Lib.hid (show B3 W1 (w.heap.size + 2) (.slice (some ⟨xb, xo, none⟩) 2 c1) (.slice (some ⟨eb, eo, none⟩) 2 c2) (.slice (some ⟨rb, ro, none⟩) 2 c3) from b_Xb)
            have Yb := Lib.hid (show InI B W1 (.slice ya hs.length yc) hs from b_Yb)
            have KX := Lib.hid (show W1.cell? ⟨xb, xo + k, none⟩ = some (.int .i64 xk) from b_KX)
            have KE := Lib.hid (show W1.cell? ⟨eb, eo + k, none⟩ = some (.int .i64 ek) from b_KE)
            have KR := Lib.hid (show W1.cell? ⟨rb, ro + k, none⟩ = some (.int .i64 zk) from b_KR)
            have CXb := Lib.hid (show CC W1 xb xo x0 x1 from b_CXb)
            have CEb := Lib.hid (show CC W1 eb eo e0 e1 from b_CEb)
            have CRb := Lib.hid (show CC W1 rb ro z0 z1 from b_CRb)
            clear b_HBb b_Gb b_Vb b_Xb b_Yb b_KX b_KE b_KR b_CXb b_CEb b_CRb
            clear hF
            refine ⟨?_⟩
            simp only [putAll, Act.put, List.setIfInBounds_toArray, List.set_cons_succ, List.set_cons_zero]
            go_simp
            go_at_call 64
            refine (gExp_any P Q G H zk HHr.out.1 HHr.out.2 HZr.out.1 HZr.out.2 HPQ.out.1.1 HPQ.out.1.2 HPQ.out.2.1 HPQ.out.2.2 _).mono ?_
            rw [HPZ.out]
            rintro e' W2 ⟨rfl, hb⟩
            go_wp2_with fail
            have hk := hK.out
            simp only [putAll, Act.put, List.setIfInBounds_toArray, List.set_cons_succ, List.set_cons_zero] at hk
            refine hk _ _ ?_ ?_
            · show (_ : Value) = .int .i64 pz
              exact rfl
            · exact hb
          refine Steps.cons rfl (js := [8]) (by kernel_rfl) rfl (fun v W1 hB hF Q9 K hK => ?_) ?_
          · obtain ⟨b_HBb, b_Gb, b_Vb, b_Xb, b_Yb, b_KX, b_KE, b_KR, b_CXb, b_CEb, b_CRb⟩ := hB
            have HBb := Lib.hid (show Below w.heap.size w W1 from b_HBb)
            have Gb := Lib.hid (show GR W1 w.heap.size P Q G from b_Gb)
            have Vb := Lib.hid (show D2 W1 (w.heap.size + 1) (.int .i64 H) (.slice ya hs.length yc) from b_Vb)
            have Xb := Lib.hid (show B3 W1 (w.heap.size + 2) (.slice (some ⟨xb, xo, none⟩) 2 c1) (.slice (some ⟨eb, eo, none⟩) 2 c2) (.slice (some ⟨rb, ro, none⟩) 2 c3) from b_Xb)
            have Yb := Lib.hid (show InI B W1 (.slice ya hs.length yc) hs from b_Yb)
            have KX := Lib.hid (show W1.cell? ⟨xb, xo + k, none⟩ = some (.int .i64 xk) from b_KX)
            have KE := Lib.hid (show W1.cell? ⟨eb, eo + k, none⟩ = some (.int .i64 ek) from b_KE)
            have KR := Lib.hid (show W1.cell? ⟨rb, ro + k, none⟩ = some (.int .i64 zk) from b_KR)
            have CXb := Lib.hid (show CC W1 xb xo x0 x1 from b_CXb)
            have CEb := Lib.hid (show CC W1 eb eo e0 e1 from b_CEb)
            have CRb := Lib.hid (show CC W1 rb ro z0 z1 from b_CRb)
            clear b_HBb b_Gb b_Vb b_Xb b_Yb b_KX b_KE b_KR b_CXb b_CEb b_CRb
            have hf8 : v 8 = .int .i64 pz := hF.1
            have e8 := hf8
            have E8 := Lib.hid e8
            clear e8 hf8
            clear hF
            refine ⟨?_⟩
            simp only [putAll, Act.put, List.setIfInBounds_toArray, List.set_cons_succ, List.set_cons_zero, E8.out]
            go_simp
            go_at_call 85
            refine (rCase_any P Q G c HG.out HC.out k hk2 _).mono ?_
            rw [HRK.out]
            rintro e' W2 ⟨rfl, hb⟩
            go_wp2_with fail
            have hk := hK.out
            simp only [putAll, Act.put, List.setIfInBounds_toArray, List.set_cons_succ, List.set_cons_zero, E8.out] at hk
            refine hk _ _ ?_ ?_
            · show (_ : Value) = .int .i64 rk
              exact rfl
            · exact hb
          refine Steps.cons rfl (js := [19, 19]) (by kernel_rfl) rfl (fun v W1 hB hF Q9 K hK => ?_) ?_
          · obtain ⟨b_HBb, b_Gb, b_Vb, b_Xb, b_Yb, b_KX, b_KE, b_KR, b_CXb, b_CEb, b_CRb⟩ := hB
            have HBb := Lib.hid (show Below w.heap.size w W1 from b_HBb)
            have Gb := Lib.hid (show GR W1 w.heap.size P Q G from b_Gb)
            have Vb := Lib.hid (show D2 W1 (w.heap.size + 1) (.int .i64 H) (.slice ya hs.length yc) from b_Vb)
            have Xb := Lib.hid (show B3 W1 (w.heap.size + 2) (.slice (some ⟨xb, xo, none⟩) 2 c1) (.slice (some ⟨eb, eo, none⟩) 2 c2) (.slice (some ⟨rb, ro, none⟩) 2 c3) from b_Xb)
            have Yb := Lib.hid (show InI B W1 (.slice ya hs.length yc) hs from b_Yb)
            have KX := Lib.hid (show W1.cell? ⟨xb, xo + k, none⟩ = some (.int .i64 xk) from b_KX)
            have KE := Lib.hid (show W1.cell? ⟨eb, eo + k, none⟩ = some (.int .i64 ek) from b_KE)
            have KR := Lib.hid (show W1.cell? ⟨rb, ro + k, none⟩ = some (.int .i64 zk) from b_KR)
            have CXb := Lib.hid (show CC W1 xb xo x0 x1 from b_CXb)
            have CEb := Lib.hid (show CC W1 eb eo e0 e1 from b_CEb)
            have CRb := Lib.hid (show CC W1 rb ro z0 z1 from b_CRb)
            clear b_HBb b_Gb b_Vb b_Xb b_Yb b_KX b_KE b_KR b_CXb b_CEb b_CRb
            have hf19 : v 19 = .int .i64 rk := hF.1
            have e19 := hf19
            have E19 := Lib.hid e19
            clear e19 hf19
            clear hF
            refine ⟨?_⟩
            simp only [putAll, Act.put, List.setIfInBounds_toArray, List.set_cons_succ, List.set_cons_zero, E19.out]
            go_simp
            go_at_call 64
            refine (gExp_any P Q G rk ek HRr.out.1 HRr.out.2 HEr.out.1 HEr.out.2 HPQ.out.1.1 HPQ.out.1.2 HPQ.out.2.1 HPQ.out.2.2 _).mono ?_
            rw [HPW.out]
            rintro e' W2 ⟨rfl, hb⟩
            go_wp2_with fail
            have hk := hK.out
            simp only [putAll, Act.put, List.setIfInBounds_toArray, List.set_cons_succ, List.set_cons_zero, E19.out] at hk
            refine hk _ _ ?_ ?_
            · show (_ : Value) = .int .i64 pw
              exact rfl
            · exact hb
          refine Steps.cons rfl (js := [25]) (by kernel_rfl) rfl (fun v W1 hB hF Q9 K hK => ?_) ?_
          · obtain ⟨b_HBb, b_Gb, b_Vb, b_Xb, b_Yb, b_KX, b_KE, b_KR, b_CXb, b_CEb, b_CRb⟩ := hB
            have HBb := Lib.hid (show Below w.heap.size w W1 from b_HBb)
            have Gb := Lib.hid (show GR W1 w.heap.size P Q G from b_Gb)
            have Vb := Lib.hid (show D2 W1 (w.heap.size + 1) (.int .i64 H) (.slice ya hs.length yc) from b_Vb)
            have Xb := Lib.hid (show B3 W1 (w.heap.size + 2) (.slice (some ⟨xb, xo, none⟩) 2 c1) (.slice (some ⟨eb, eo, none⟩) 2 c2) (.slice (some ⟨rb, ro, none⟩) 2 c3) from b_Xb)
            have Yb := Lib.hid (show InI B W1 (.slice ya hs.length yc) hs from b_Yb)
            have KX := Lib.hid (show W1.cell? ⟨xb, xo + k, none⟩ = some (.int .i64 xk) from b_KX)
            have KE := Lib.hid (show W1.cell? ⟨eb, eo + k, none⟩ = some (.int .i64 ek) from b_KE)
            have KR := Lib.hid (show W1.cell? ⟨rb, ro + k, none⟩ = some (.int .i64 zk) from b_KR)
            have CXb := Lib.hid (show CC W1 xb xo x0 x1 from b_CXb)
            have CEb := Lib.hid (show CC W1 eb eo e0 e1 from b_CEb)
            have CRb := Lib.hid (show CC W1 rb ro z0 z1 from b_CRb)
            clear b_HBb b_Gb b_Vb b_Xb b_Yb b_KX b_KE b_KR b_CXb b_CEb b_CRb
            have hf25 : v 25 = .int .i64 pw := hF.1
            have e25 := hf25
            have E25 := Lib.hid e25
            clear e25 hf25
            clear hF
            refine ⟨?_⟩
            simp only [putAll, Act.put, List.setIfInBounds_toArray, List.set_cons_succ, List.set_cons_zero, E25.out]
            go_simp
            have hk := hK.out
            simp only [putAll, Act.put, List.setIfInBounds_toArray, List.set_cons_succ, List.set_cons_zero, E25.out] at hk
            refine hk _ _ ?_ ?_
            · show ∃ (b26 : Nat), (_ : Value) = .slice (some ⟨b26, 0, none⟩) 2 2 ∧ (IsInts (W1.alloc (.cells #[.int .i64 xk, .int .i64 pw] 3)) (some ⟨b26, 0, none⟩) [xk, pw])
              exact ⟨_, rfl, ints_spot W1 _ rfl [xk, pw] 3⟩
            · exact (ba _ _)
          refine Steps.cons rfl (js := [26, 25]) (by kernel_rfl) rfl (fun v W1 hB hF Q9 K hK => ?_) ?_
          · obtain ⟨b_HBb, b_Gb, b_Vb, b_Xb, b_Yb, b_KX, b_KE, b_KR, b_CXb, b_CEb, b_CRb⟩ := hB
            have HBb := Lib.hid (show Below w.heap.size w W1 from b_HBb)
            have Gb := Lib.hid (show GR W1 w.heap.size P Q G from b_Gb)
            have Vb := Lib.hid (show D2 W1 (w.heap.size + 1) (.int .i64 H) (.slice ya hs.length yc) from b_Vb)
            have Xb := Lib.hid (show B3 W1 (w.heap.size + 2) (.slice (some ⟨xb, xo, none⟩) 2 c1) (.slice (some ⟨eb, eo, none⟩) 2 c2) (.slice (some ⟨rb, ro, none⟩) 2 c3) from b_Xb)
            have Yb := Lib.hid (show InI B W1 (.slice ya hs.length yc) hs from b_Yb)
            have KX := Lib.hid (show W1.cell? ⟨xb, xo + k, none⟩ = some (.int .i64 xk) from b_KX)
            have KE := Lib.hid (show W1.cell? ⟨eb, eo + k, none⟩ = some (.int .i64 ek) from b_KE)
            have KR := Lib.hid (show W1.cell? ⟨rb, ro + k, none⟩ = some (.int .i64 zk) from b_KR)
            have CXb := Lib.hid (show CC W1 xb xo x0 x1 from b_CXb)
            have CEb := Lib.hid (show CC W1 eb eo e0 e1 from b_CEb)
            have CRb := Lib.hid (show CC W1 rb ro z0 z1 from b_CRb)
            clear b_HBb b_Gb b_Vb b_Xb b_Yb b_KX b_KE b_KR b_CXb b_CEb b_CRb
            have hf26 : ∃ (b26 : Nat), v 26 = .slice (some ⟨b26, 0, none⟩) 2 2 ∧ (IsInts W1 (some ⟨b26, 0, none⟩) [xk, pw]) := hF.1
            obtain ⟨b26, e26, f26_0⟩ := hf26
            have E26 := Lib.hid e26
            have L26 := Lib.hid (show IsInts W1 (some ⟨b26, 0, none⟩) [xk, pw] from f26_0)
            clear e26 f26_0
            have hf25 : v 25 = .int .i64 pw := hF.2.1
            have e25 := hf25
            have E25 := Lib.hid e25
            clear e25 hf25
            clear hF
            refine ⟨?_⟩
            simp only [putAll, Act.put, List.setIfInBounds_toArray, List.set_cons_succ, List.set_cons_zero, E26.out, E25.out]
            go_simp
            go_at_call 74
            refine (gMul_any P Q G _ 2 2 [xk, pw] rfl (by decide) HPQ.out.1.1 HPQ.out.1.2 HPP.out _ L26.out).mono ?_
            rw [EM.out]
            rintro e' W2 ⟨rfl, hb⟩
            go_wp2_with fail
            have hk := hK.out
            simp only [putAll, Act.put, List.setIfInBounds_toArray, List.set_cons_succ, List.set_cons_zero, E26.out, E25.out] at hk
            refine hk _ _ ?_ ?_
            · show (_ : Value) = .int .i64 mv
              exact rfl
            · exact hb
          refine Steps.cons rfl (js := [8, 27]) (by kernel_rfl) rfl (fun v W1 hB hF Q9 K hK => ?_) ?_
          · obtain ⟨b_HBb, b_Gb, b_Vb, b_Xb, b_Yb, b_KX, b_KE, b_KR, b_CXb, b_CEb, b_CRb⟩ := hB
            have HBb := Lib.hid (show Below w.heap.size w W1 from b_HBb)
            have Gb := Lib.hid (show GR W1 w.heap.size P Q G from b_Gb)
            have Vb := Lib.hid (show D2 W1 (w.heap.size + 1) (.int .i64 H) (.slice ya hs.length yc) from b_Vb)
            have Xb := Lib.hid (show B3 W1 (w.heap.size + 2) (.slice (some ⟨xb, xo, none⟩) 2 c1) (.slice (some ⟨eb, eo, none⟩) 2 c2) (.slice (some ⟨rb, ro, none⟩) 2 c3) from b_Xb)
            have Yb := Lib.hid (show InI B W1 (.slice ya hs.length yc) hs from b_Yb)
            have KX := Lib.hid (show W1.cell? ⟨xb, xo + k, none⟩ = some (.int .i64 xk) from b_KX)
            have KE := Lib.hid (show W1.cell? ⟨eb, eo + k, none⟩ = some (.int .i64 ek) from b_KE)
            have KR := Lib.hid (show W1.cell? ⟨rb, ro + k, none⟩ = some (.int .i64 zk) from b_KR)
            have CXb := Lib.hid (show CC W1 xb xo x0 x1 from b_CXb)
            have CEb := Lib.hid (show CC W1 eb eo e0 e1 from b_CEb)
            have CRb := Lib.hid (show CC W1 rb ro z0 z1 from b_CRb)
            clear b_HBb b_Gb b_Vb b_Xb b_Yb b_KX b_KE b_KR b_CXb b_CEb b_CRb
            have hf8 : v 8 = .int .i64 pz := hF.1
            have e8 := hf8
            have E8 := Lib.hid e8
            clear e8 hf8
            have hf27 : v 27 = .int .i64 mv := hF.2.1
            have e27 := hf27
            have E27 := Lib.hid e27
            clear e27 hf27
            clear hF
            refine ⟨?_⟩
            simp only [putAll, Act.put, List.setIfInBounds_toArray, List.set_cons_succ, List.set_cons_zero, E8.out, E27.out]
            go_simp
            have hk := hK.out
            simp only [putAll, Act.put, List.setIfInBounds_toArray, List.set_cons_succ, List.set_cons_zero, E8.out, E27.out] at hk
            refine hk _ _ ?_ ?_
            · show (_ : Value) = .bool true
              exact (congrArg Value.bool HN.out)
            · exact (Below.refl _ _)
          exact Steps.nil
        intro v We hB hF
        clear hB0 hHeld
        obtain ⟨b_HBb, b_Gb, b_Vb, b_Xb, b_Yb, b_KX, b_KE, b_KR, b_CXb, b_CEb, b_CRb⟩ := hB
        have HBb := Lib.hid (show Below w.heap.size w We from b_HBb)
        have Gb := Lib.hid (show GR We w.heap.size P Q G from b_Gb)
        have Vb := Lib.hid (show D2 We (w.heap.size + 1) (.int .i64 H) (.slice ya hs.length yc) from b_Vb)
        have Xb := Lib.hid (show B3 We (w.heap.size + 2) (.slice (some ⟨xb, xo, none⟩) 2 c1) (.slice (some ⟨eb, eo, none⟩) 2 c2) (.slice (some ⟨rb, ro, none⟩) 2 c3) from b_Xb)
        have Yb := Lib.hid (show InI B We (.slice ya hs.length yc) hs from b_Yb)
        have KX := Lib.hid (show We.cell? ⟨xb, xo + k, none⟩ = some (.int .i64 xk) from b_KX)
        have KE := Lib.hid (show We.cell? ⟨eb, eo + k, none⟩ = some (.int .i64 ek) from b_KE)
        have KR := Lib.hid (show We.cell? ⟨rb, ro + k, none⟩ = some (.int .i64 zk) from b_KR)
        have CXb := Lib.hid (show CC We xb xo x0 x1 from b_CXb)
        have CEb := Lib.hid (show CC We eb eo e0 e1 from b_CEb)
        have CRb := Lib.hid (show CC We rb ro z0 z1 from b_CRb)
        clear b_HBb b_Gb b_Vb b_Xb b_Yb b_KX b_KE b_KR b_CXb b_CEb b_CRb
        have hf8 : v 8 = .int .i64 pz := hF.1
        have e8 := hf8
        have E8 := Lib.hid e8
        clear e8 hf8
        have hf19 : v 19 = .int .i64 rk := hF.2.1
        have e19 := hf19
        have E19 := Lib.hid e19
        clear e19 hf19
        have hf25 : v 25 = .int .i64 pw := hF.2.2.1
        have e25 := hf25
        have E25 := Lib.hid e25
        clear e25 hf25
        have hf26 : ∃ (b26 : Nat), v 26 = .slice (some ⟨b26, 0, none⟩) 2 2 ∧ (IsInts We (some ⟨b26, 0, none⟩) [xk, pw]) := hF.2.2.2.1
        obtain ⟨b26, e26, f26_0⟩ := hf26
        have E26 := Lib.hid e26
        have L26 := Lib.hid (show IsInts We (some ⟨b26, 0, none⟩) [xk, pw] from f26_0)
        clear e26 f26_0
        have hf27 : v 27 = .int .i64 mv := hF.2.2.2.2.1
        have e27 := hf27
        have E27 := Lib.hid e27
        clear e27 hf27
        have hf28 : v 28 = .bool true := hF.2.2.2.2.2.1
        have e28 := hf28
        have E28 := Lib.hid e28
        clear e28 hf28
        clear hF
        refine ⟨?_⟩
        simp only [putAll, Act.put, List.setIfInBounds_toArray, List.set_cons_succ, List.set_cons_zero, E8.out, E19.out, E25.out, E26.out, E27.out, E28.out]
        refine wpAnyH_done (by kernel_rfl) ?_ _
        go_wp2
        go_ret
        refine ⟨?_, HBb.out⟩
        rw [HS.out]
        rfl
      · rw [hcmp, Bool.true_and] at he
        have HS := Lib.hid he
        have HN := Lib.hid (show (pz != mv) = false by rw [bne, hcmp]; rfl)
        clear he hcmp
        go_wp2_with fail
        refine wp_region_held_drew (S := (fun w' => ((w'.cell? ⟨w.heap.size, 0, none⟩ = some (.int .i64 P) ∧ w'.cell? ⟨w.heap.size, 1, none⟩ = some (.int .i64 Q) ∧ w'.cell? ⟨w.heap.size, 2, none⟩ = some (.int .i64 G)) ∧ (w'.cell? ⟨w.heap.size + 1, 0, none⟩ = some (.int .i64 H) ∧ w'.cell? ⟨w.heap.size + 1, 1, none⟩ = some (.slice ya hs.length yc))) ∧ (w'.cell? ⟨w.heap.size + 2, 0, none⟩ = some (.slice (some ⟨xb, xo, none⟩) 2 c1) ∧ w'.cell? ⟨w.heap.size + 2, 1, none⟩ = some (.slice (some ⟨eb, eo, none⟩) 2 c2) ∧ w'.cell? ⟨w.heap.size + 2, 2, none⟩ = some (.slice (some ⟨rb, ro, none⟩) 2 c3)) ∧ w'.cell? ⟨xb, xo + k, none⟩ = some (.int .i64 xk) ∧ w'.cell? ⟨eb, eo + k, none⟩ = some (.int .i64 ek) ∧ w'.cell? ⟨rb, ro + k, none⟩ = some (.int .i64 zk))) (by kernel_rfl) (show _ from ⟨⟨⟨G_r.out.1, G_r.out.2.1, G_r.out.2.2⟩, ⟨V_r.out.1, V_r.out.2⟩⟩, ⟨X_r.out.1, X_r.out.2.1, X_r.out.2.2.1⟩, hkx, hke, hkr⟩) (fun hHeld => ?_)
        refine wpAnyH_take (i := 0) (v := ?_) rfl (by kernel_rfl) (by kernel_rfl) (by kernel_rfl) (fun _ _ _ h => h) (Or.inl ⟨by kernel_rfl, ?_⟩) (by assumption) ?_
        rotate_left 1
        · intro w9 hSw
          try dsimp only at hSw
          go_simp
          try with_reducible rfl
        try simp only [Act.put, List.getElem_toArray, List.getElem_cons_succ, List.getElem_cons_zero, List.setIfInBounds_toArray, List.set_cons_zero, List.set_cons_succ]
        refine wpAnyH_take (i := 1) (v := ?_) rfl (by kernel_rfl) (by kernel_rfl) (by kernel_rfl) (fun _ _ _ h => h) (Or.inl ⟨by kernel_rfl, ?_⟩) (by assumption) ?_
        rotate_left 1
        · intro w9 hSw
          try dsimp only at hSw
          go_simp
          try with_reducible rfl
        try simp only [Act.put, List.getElem_toArray, List.getElem_cons_succ, List.getElem_cons_zero, List.setIfInBounds_toArray, List.set_cons_zero, List.set_cons_succ]
        refine wpAnyH_take (i := 2) (v := ?_) rfl (by kernel_rfl) (by kernel_rfl) (by kernel_rfl) (fun _ _ _ h => h) (Or.inl ⟨by kernel_rfl, ?_⟩) (by assumption) ?_
        rotate_left 1
        · intro w9 hSw
          try dsimp only at hSw
          go_simp
          try with_reducible rfl
        try simp only [Act.put, List.getElem_toArray, List.getElem_cons_succ, List.getElem_cons_zero, List.setIfInBounds_toArray, List.set_cons_zero, List.set_cons_succ]
        refine wpAnyH_take (i := 3) (v := ?_) rfl (by kernel_rfl) (by kernel_rfl) (by kernel_rfl) (fun _ _ _ h => h) (Or.inl ⟨by kernel_rfl, ?_⟩) (by assumption) ?_
        rotate_left 1
        · intro w9 hSw
          try dsimp only at hSw
          go_simp
          try with_reducible rfl
        try simp only [Act.put, List.getElem_toArray, List.getElem_cons_succ, List.getElem_cons_zero, List.setIfInBounds_toArray, List.set_cons_zero, List.set_cons_succ]
        refine wpAnyH_take (i := 4) (v := ?_) rfl (by kernel_rfl) (by kernel_rfl) (by kernel_rfl) (fun _ _ _ h => h) (Or.inl ⟨by kernel_rfl, ?_⟩) (by assumption) ?_
        rotate_left 1
        · intro w9 hSw
          try dsimp only at hSw
          go_simp
          try with_reducible rfl
        try simp only [Act.put, List.getElem_toArray, List.getElem_cons_succ, List.getElem_cons_zero, List.setIfInBounds_toArray, List.set_cons_zero, List.set_cons_succ]
        refine wpAnyH_take (i := 5) (v := ?_) rfl (by kernel_rfl) (by kernel_rfl) (by kernel_rfl) (fun _ _ _ h => h) (Or.inl ⟨by kernel_rfl, ?_⟩) (by assumption) ?_
        rotate_left 1
        · intro w9 hSw
          try dsimp only at hSw
          go_simp
          try with_reducible rfl
        try simp only [Act.put, List.getElem_toArray, List.getElem_cons_succ, List.getElem_cons_zero, List.setIfInBounds_toArray, List.set_cons_zero, List.set_cons_succ]
        refine wpAnyH_take (i := 6) (v := ?_) rfl (by kernel_rfl) (by kernel_rfl) (by kernel_rfl) (fun _ _ _ h => h) (Or.inl ⟨by kernel_rfl, ?_⟩) (by assumption) ?_
        rotate_left 1
        · intro w9 hSw
          try dsimp only at hSw
          go_simp
          try with_reducible rfl
        try simp only [Act.put, List.getElem_toArray, List.getElem_cons_succ, List.getElem_cons_zero, List.setIfInBounds_toArray, List.set_cons_zero, List.set_cons_succ]
        refine wpAnyH_take (i := 7) (v := ?_) rfl (by kernel_rfl) (by kernel_rfl) (by kernel_rfl) (fun _ _ _ h => h) (Or.inl ⟨by kernel_rfl, ?_⟩) (by assumption) ?_
        rotate_left 1
        · intro w9 hSw
          try dsimp only at hSw
          go_simp
          try with_reducible rfl
        try simp only [Act.put, List.getElem_toArray, List.getElem_cons_succ, List.getElem_cons_zero, List.setIfInBounds_toArray, List.set_cons_zero, List.set_cons_succ]
        refine wpAnyH_take (i := 9) (v := ?_) rfl (by kernel_rfl) (by kernel_rfl) (by kernel_rfl) (fun _ _ _ h => h) (Or.inl ⟨by kernel_rfl, ?_⟩) (by assumption) ?_
        rotate_left 1
        · intro w9 hSw
          try dsimp only at hSw
          go_simp
          try with_reducible rfl
        try simp only [Act.put, List.getElem_toArray, List.getElem_cons_succ, List.getElem_cons_zero, List.setIfInBounds_toArray, List.set_cons_zero, List.set_cons_succ]
        refine wpAnyH_take (i := 10) (v := ?_) rfl (by kernel_rfl) (by kernel_rfl) (by kernel_rfl) (fun _ _ _ h => h) (Or.inl ⟨by kernel_rfl, ?_⟩) (by assumption) ?_
        rotate_left 1
        · intro w9 hSw
          try dsimp only at hSw
          go_simp
          try with_reducible rfl
        try simp only [Act.put, List.getElem_toArray, List.getElem_cons_succ, List.getElem_cons_zero, List.setIfInBounds_toArray, List.set_cons_zero, List.set_cons_succ]
        refine wpAnyH_take (i := 11) (v := ?_) rfl (by kernel_rfl) (by kernel_rfl) (by kernel_rfl) (fun _ _ _ h => h) (Or.inl ⟨by kernel_rfl, ?_⟩) (by assumption) ?_
        rotate_left 1
        · intro w9 hSw
          try dsimp only at hSw
          go_simp
          try with_reducible rfl
        try simp only [Act.put, List.getElem_toArray, List.getElem_cons_succ, List.getElem_cons_zero, List.setIfInBounds_toArray, List.set_cons_zero, List.set_cons_succ]
        refine wpAnyH_take (i := 12) (v := ?_) rfl (by kernel_rfl) (by kernel_rfl) (by kernel_rfl) (fun _ _ _ h => h) (Or.inl ⟨by kernel_rfl, ?_⟩) (by assumption) ?_
        rotate_left 1
        · intro w9 hSw
          try dsimp only at hSw
          go_simp
          try with_reducible rfl
        try simp only [Act.put, List.getElem_toArray, List.getElem_cons_succ, List.getElem_cons_zero, List.setIfInBounds_toArray, List.set_cons_zero, List.set_cons_succ]
        refine wpAnyH_take (i := 13) (v := ?_) rfl (by kernel_rfl) (by kernel_rfl) (by kernel_rfl) (fun _ _ _ h => h) (Or.inl ⟨by kernel_rfl, ?_⟩) (by assumption) ?_
        rotate_left 1
        · intro w9 hSw
          try dsimp only at hSw
          go_simp
          try with_reducible rfl
        try simp only [Act.put, List.getElem_toArray, List.getElem_cons_succ, List.getElem_cons_zero, List.setIfInBounds_toArray, List.set_cons_zero, List.set_cons_succ]
        refine wpAnyH_take (i := 14) (v := ?_) rfl (by kernel_rfl) (by kernel_rfl) (by kernel_rfl) (fun _ _ _ h => h) (Or.inl ⟨by kernel_rfl, ?_⟩) (by assumption) ?_
        rotate_left 1
        · intro w9 hSw
          try dsimp only at hSw
          go_simp
          try with_reducible rfl
        try simp only [Act.put, List.getElem_toArray, List.getElem_cons_succ, List.getElem_cons_zero, List.setIfInBounds_toArray, List.set_cons_zero, List.set_cons_succ]
        refine wpAnyH_take (i := 15) (v := ?_) rfl (by kernel_rfl) (by kernel_rfl) (by kernel_rfl) (fun _ _ _ h => h) (Or.inl ⟨by kernel_rfl, ?_⟩) (by assumption) ?_
        rotate_left 1
        · intro w9 hSw
          try dsimp only at hSw
          go_simp
          try with_reducible rfl
        try simp only [Act.put, List.getElem_toArray, List.getElem_cons_succ, List.getElem_cons_zero, List.setIfInBounds_toArray, List.set_cons_zero, List.set_cons_succ]
        refine wpAnyH_take (i := 16) (v := ?_) rfl (by kernel_rfl) (by kernel_rfl) (by kernel_rfl) (fun _ _ _ h => h) (Or.inl ⟨by kernel_rfl, ?_⟩) (by assumption) ?_
        rotate_left 1
        · intro w9 hSw
          try dsimp only at hSw
          go_simp
          try with_reducible rfl
        try simp only [Act.put, List.getElem_toArray, List.getElem_cons_succ, List.getElem_cons_zero, List.setIfInBounds_toArray, List.set_cons_zero, List.set_cons_succ]
        refine wpAnyH_take (i := 17) (v := ?_) rfl (by kernel_rfl) (by kernel_rfl) (by kernel_rfl) (fun _ _ _ h => h) (Or.inl ⟨by kernel_rfl, ?_⟩) (by assumption) ?_
        rotate_left 1
        · intro w9 hSw
          try dsimp only at hSw
          go_simp
          try with_reducible rfl
        try simp only [Act.put, List.getElem_toArray, List.getElem_cons_succ, List.getElem_cons_zero, List.setIfInBounds_toArray, List.set_cons_zero, List.set_cons_succ]
        refine wpAnyH_take (i := 18) (v := ?_) rfl (by kernel_rfl) (by kernel_rfl) (by kernel_rfl) (fun _ _ _ h => h) (Or.inl ⟨by kernel_rfl, ?_⟩) (by assumption) ?_
        rotate_left 1
        · intro w9 hSw
          try dsimp only at hSw
          go_simp
          try with_reducible rfl
        try simp only [Act.put, List.getElem_toArray, List.getElem_cons_succ, List.getElem_cons_zero, List.setIfInBounds_toArray, List.set_cons_zero, List.set_cons_succ]
        refine wpAnyH_take (i := 20) (v := ?_) rfl (by kernel_rfl) (by kernel_rfl) (by kernel_rfl) (fun _ _ _ h => h) (Or.inl ⟨by kernel_rfl, ?_⟩) (by assumption) ?_
        rotate_left 1
        · intro w9 hSw
          try dsimp only at hSw
          go_simp
          try with_reducible rfl
        try simp only [Act.put, List.getElem_toArray, List.getElem_cons_succ, List.getElem_cons_zero, List.setIfInBounds_toArray, List.set_cons_zero, List.set_cons_succ]
        refine wpAnyH_take (i := 21) (v := ?_) rfl (by kernel_rfl) (by kernel_rfl) (by kernel_rfl) (fun _ _ _ h => h) (Or.inl ⟨by kernel_rfl, ?_⟩) (by assumption) ?_
        rotate_left 1
        · intro w9 hSw
          try dsimp only at hSw
          go_simp
          try with_reducible rfl
        try simp only [Act.put, List.getElem_toArray, List.getElem_cons_succ, List.getElem_cons_zero, List.setIfInBounds_toArray, List.set_cons_zero, List.set_cons_succ]
        refine wpAnyH_take (i := 22) (v := ?_) rfl (by kernel_rfl) (by kernel_rfl) (by kernel_rfl) (fun _ _ _ h => h) (Or.inl ⟨by kernel_rfl, ?_⟩) (by assumption) ?_
        rotate_left 1
        · intro w9 hSw
          try dsimp only at hSw
          go_simp
          try with_reducible rfl
        try simp only [Act.put, List.getElem_toArray, List.getElem_cons_succ, List.getElem_cons_zero, List.setIfInBounds_toArray, List.set_cons_zero, List.set_cons_succ]
        refine wpAnyH_take (i := 23) (v := ?_) rfl (by kernel_rfl) (by kernel_rfl) (by kernel_rfl) (fun _ _ _ h => h) (Or.inl ⟨by kernel_rfl, ?_⟩) (by assumption) ?_
        rotate_left 1
        · intro w9 hSw
          try dsimp only at hSw
          go_simp
          try with_reducible rfl
        try simp only [Act.put, List.getElem_toArray, List.getElem_cons_succ, List.getElem_cons_zero, List.setIfInBounds_toArray, List.set_cons_zero, List.set_cons_succ]
        refine wpAnyH_take (i := 24) (v := ?_) rfl (by kernel_rfl) (by kernel_rfl) (by kernel_rfl) (fun _ _ _ h => h) (Or.inl ⟨by kernel_rfl, ?_⟩) (by assumption) ?_
        rotate_left 1
        · intro w9 hSw
          try dsimp only at hSw
          go_simp
          try with_reducible rfl
        try simp only [Act.put, List.getElem_toArray, List.getElem_cons_succ, List.getElem_cons_zero, List.setIfInBounds_toArray, List.set_cons_zero, List.set_cons_succ]
        have hB0 : (fun w1 => (Below w.heap.size w w1) ∧ (GR w1 w.heap.size P Q G) ∧ (D2 w1 (w.heap.size + 1) (.int .i64 H) (.slice ya hs.length yc)) ∧ (B3 w1 (w.heap.size + 2) (.slice (some ⟨xb, xo, none⟩) 2 c1) (.slice (some ⟨eb, eo, none⟩) 2 c2) (.slice (some ⟨rb, ro, none⟩) 2 c3)) ∧ (InI B w1 (.slice ya hs.length yc) hs) ∧ (w1.cell? ⟨xb, xo + k, none⟩ = some (.int .i64 xk)) ∧ (w1.cell? ⟨eb, eo + k, none⟩ = some (.int .i64 ek)) ∧ (w1.cell? ⟨rb, ro + k, none⟩ = some (.int .i64 zk)) ∧ (CC w1 xb xo x0 x1) ∧ (CC w1 eb eo e0 e1) ∧ (CC w1 rb ro z0 z1)) wr.drew := ⟨HB_r.out.drew, G_r.out.drew, V_r.out.drew, X_r.out.drew, Y_r.out.dr, hkx, hke, hkr, CX_r.out, CE_r.out, CR_r.out⟩
        refine wpAnyH_part (V := fun i u w1 => cond (Nat.beq i 8) (u = .int .i64 pz) (cond (Nat.beq i 19) (u = .int .i64 rk) (cond (Nat.beq i 25) (u = .int .i64 pw) (cond (Nat.beq i 26) (∃ (b26 : Nat), u = .slice (some ⟨b26, 0, none⟩) 2 2 ∧ (IsInts w1 (some ⟨b26, 0, none⟩) [xk, pw])) (cond (Nat.beq i 27) (u = .int .i64 mv) (cond (Nat.beq i 28) (u = .bool false) (True))))))) (B := fun w1 => (Below w.heap.size w w1) ∧ (GR w1 w.heap.size P Q G) ∧ (D2 w1 (w.heap.size + 1) (.int .i64 H) (.slice ya hs.length yc)) ∧ (B3 w1 (w.heap.size + 2) (.slice (some ⟨xb, xo, none⟩) 2 c1) (.slice (some ⟨eb, eo, none⟩) 2 c2) (.slice (some ⟨rb, ro, none⟩) 2 c3)) ∧ (InI B w1 (.slice ya hs.length yc) hs) ∧ (w1.cell? ⟨xb, xo + k, none⟩ = some (.int .i64 xk)) ∧ (w1.cell? ⟨eb, eo + k, none⟩ = some (.int .i64 ek)) ∧ (w1.cell? ⟨rb, ro + k, none⟩ = some (.int .i64 zk)) ∧ (CC w1 xb xo x0 x1) ∧ (CC w1 eb eo e0 e1) ∧ (CC w1 rb ro z0 z1)) (R := fun w1 w2 => Below w1.heap.size w1 w2) 0 (rs := [8, 19, 25, 26, 27, 28]) (ds := [(8, some 26), (19, some 37), (25, some 43), (26, some 44), (27, some 45), (28, some 46)]) (by kernel_rfl) (by kernel_rfl) (by kernel_rfl) (by kernel_rfl) (by kernel_rfl) ?_ ?_ ?_ hB0 ?_ ?_
        · intro w1 w2 hB hR
          clear hB0
          obtain ⟨b_HBb, b_Gb, b_Vb, b_Xb, b_Yb, b_KX, b_KE, b_KR, b_CXb, b_CEb, b_CRb⟩ := hB
          exact ⟨bt b_HBb hR, b_Gb.below hR, b_Vb.below hR, b_Xb.below hR, b_Yb.below hR, cellUp hR b_KX, cellUp hR b_KE, cellUp hR b_KR, b_CXb.below hR, b_CEb.below hR, b_CRb.below hR⟩
        · clear hB0
          refine Last.cons (fun u w1 w2 hB h hR => ?_) ?_
          · have h1 : u = .int .i64 pz := h
            show u = .int .i64 pz
            exact h1
          refine Last.cons (fun u w1 w2 hB h hR => ?_) ?_
          · have h1 : u = .int .i64 rk := h
            show u = .int .i64 rk
            exact h1
          refine Last.cons (fun u w1 w2 hB h hR => ?_) ?_
          · have h1 : u = .int .i64 pw := h
            show u = .int .i64 pw
            exact h1
          refine Last.cons (fun u w1 w2 hB h hR => ?_) ?_
          · have h1 : ∃ (b26 : Nat), u = .slice (some ⟨b26, 0, none⟩) 2 2 ∧ (IsInts w1 (some ⟨b26, 0, none⟩) [xk, pw]) := h
            show ∃ (b26 : Nat), u = .slice (some ⟨b26, 0, none⟩) 2 2 ∧ (IsInts w2 (some ⟨b26, 0, none⟩) [xk, pw])
            obtain ⟨b26, e, f0⟩ := h1
            exact ⟨b26, e, f0.below hR (Nat.le_refl _)⟩
          refine Last.cons (fun u w1 w2 hB h hR => ?_) ?_
          · have h1 : u = .int .i64 mv := h
            show u = .int .i64 mv
            exact h1
          refine Last.cons (fun u w1 w2 hB h hR => ?_) ?_
          · have h1 : u = .bool false := h
            show u = .bool false
            exact h1
          exact Last.nil
        · intro w1 hB
          clear hB0
          obtain ⟨b_HBb, b_Gb, b_Vb, b_Xb, b_Yb, b_KX, b_KE, b_KR, b_CXb, b_CEb, b_CRb⟩ := hB
          have HBb := Lib.hid (show Below w.heap.size w w1 from b_HBb)
          have Gb := Lib.hid (show GR w1 w.heap.size P Q G from b_Gb)
          have Vb := Lib.hid (show D2 w1 (w.heap.size + 1) (.int .i64 H) (.slice ya hs.length yc) from b_Vb)
          have Xb := Lib.hid (show B3 w1 (w.heap.size + 2) (.slice (some ⟨xb, xo, none⟩) 2 c1) (.slice (some ⟨eb, eo, none⟩) 2 c2) (.slice (some ⟨rb, ro, none⟩) 2 c3) from b_Xb)
          have Yb := Lib.hid (show InI B w1 (.slice ya hs.length yc) hs from b_Yb)
          have KX := Lib.hid (show w1.cell? ⟨xb, xo + k, none⟩ = some (.int .i64 xk) from b_KX)
          have KE := Lib.hid (show w1.cell? ⟨eb, eo + k, none⟩ = some (.int .i64 ek) from b_KE)
          have KR := Lib.hid (show w1.cell? ⟨rb, ro + k, none⟩ = some (.int .i64 zk) from b_KR)
          have CXb := Lib.hid (show CC w1 xb xo x0 x1 from b_CXb)
          have CEb := Lib.hid (show CC w1 eb eo e0 e1 from b_CEb)
          have CRb := Lib.hid (show CC w1 rb ro z0 z1 from b_CRb)
          clear b_HBb b_Gb b_Vb b_Xb b_Yb b_KX b_KE b_KR b_CXb b_CEb b_CRb
          exact ⟨⟨⟨Gb.out.1, Gb.out.2.1, Gb.out.2.2⟩, ⟨Vb.out.1, Vb.out.2⟩⟩, ⟨Xb.out.1, Xb.out.2.1, Xb.out.2.2.1⟩, KX.out, KE.out, KR.out⟩
        · clear hB0 hHeld
          refine Steps.cons rfl (js := []) (by kernel_rfl) rfl (fun v W1 hB hF Q9 K hK => ?_) ?_
          · obtain ⟨b_HBb, b_Gb, b_Vb, b_Xb, b_Yb, b_KX, b_KE, b_KR, b_CXb, b_CEb, b_CRb⟩ := hB
            have HBb := Lib.hid (show Below w.heap.size w W1 from b_HBb)
            have Gb := Lib.hid (show GR W1 w.heap.size P Q G from b_Gb)
            have Vb := Lib.hid (show D2 W1 (w.heap.size + 1) (.int .i64 H) (.slice ya hs.length yc) from b_Vb)
            have Xb := Lib.hid (show B3 W1 (w.heap.size + 2) (.slice (some ⟨xb, xo, none⟩) 2 c1) (.slice (some ⟨eb, eo, none⟩) 2 c2) (.slice (some ⟨rb, ro, none⟩) 2 c3) from b_Xb)
            have Yb := Lib.hid (show InI B W1 (.slice ya hs.length yc) hs from b_Yb)
            have KX := Lib.hid (show W1.cell? ⟨xb, xo + k, none⟩ = some (.int .i64 xk) from b_KX)
            have KE := Lib.hid (show W1.cell? ⟨eb, eo + k, none⟩ = some (.int .i64 ek) from b_KE)
            have KR := Lib.hid (show W1.cell? ⟨rb, ro + k, none⟩ = some (.int .i64 zk) from b_KR)
            have CXb := Lib.hid (show CC W1 xb xo x0 x1 from b_CXb)
            have CEb := Lib.hid (show CC W1 eb eo e0 e1 from b_CEb)
            have CRb := Lib.hid (show CC W1 rb ro z0 z1 from b_CRb)
            clear b_HBb b_Gb b_Vb b_Xb b_Yb b_KX b_KE b_KR b_CXb b_CEb b_CRb
            clear hF
            refine ⟨?_⟩
            simp only [putAll, Act.put, List.setIfInBounds_toArray, List.set_cons_succ, List.set_cons_zero]
            go_simp
            go_at_call 64
            refine (gExp_any P Q G H zk HHr.out.1 HHr.out.2 HZr.out.1 HZr.out.2 HPQ.out.1.1 HPQ.out.1.2 HPQ.out.2.1 HPQ.out.2.2 _).mono ?_
            rw [HPZ.out]
            rintro e' W2 ⟨rfl, hb⟩
            go_wp2_with fail
            have hk := hK.out
            simp only [putAll, Act.put, List.setIfInBounds_toArray, List.set_cons_succ, List.set_cons_zero] at hk
            refine hk _ _ ?_ ?_
            · show (_ : Value) = .int .i64 pz
              exact rfl
            · exact hb
          refine Steps.cons rfl (js := [8]) (by kernel_rfl) rfl (fun v W1 hB hF Q9 K hK => ?_) ?_
          · obtain ⟨b_HBb, b_Gb, b_Vb, b_Xb, b_Yb, b_KX, b_KE, b_KR, b_CXb, b_CEb, b_CRb⟩ := hB
            have HBb := Lib.hid (show Below w.heap.size w W1 from b_HBb)
            have Gb := Lib.hid (show GR W1 w.heap.size P Q G from b_Gb)
            have Vb := Lib.hid (show D2 W1 (w.heap.size + 1) (.int .i64 H) (.slice ya hs.length yc) from b_Vb)
            have Xb := Lib.hid (show B3 W1 (w.heap.size + 2) (.slice (some ⟨xb, xo, none⟩) 2 c1) (.slice (some ⟨eb, eo, none⟩) 2 c2) (.slice (some ⟨rb, ro, none⟩) 2 c3) from b_Xb)
            have Yb := Lib.hid (show InI B W1 (.slice ya hs.length yc) hs from b_Yb)
            have KX := Lib.hid (show W1.cell? ⟨xb, xo + k, none⟩ = some (.int .i64 xk) from b_KX)
            have KE := Lib.hid (show W1.cell? ⟨eb, eo + k, none⟩ = some (.int .i64 ek) from b_KE)
            have KR := Lib.hid (show W1.cell? ⟨rb, ro + k, none⟩ = some (.int .i64 zk) from b_KR)
            have CXb := Lib.hid (show CC W1 xb xo x0 x1 from b_CXb)
            have CEb := Lib.hid (show CC W1 eb eo e0 e1 from b_CEb)
            have CRb := Lib.hid (show CC W1 rb ro z0 z1 from b_CRb)
            clear b_HBb b_Gb b_Vb b_Xb b_Yb b_KX b_KE b_KR b_CXb b_CEb b_CRb
            have hf8 : v 8 = .int .i64 pz := hF.1
            have e8 := hf8
            have E8 := Lib.hid e8
            clear e8 hf8
            clear hF
            refine ⟨?_⟩
            simp only [putAll, Act.put, List.setIfInBounds_toArray, List.set_cons_succ, List.set_cons_zero, E8.out]
            go_simp
            go_at_call 85
            refine (rCase_any P Q G c HG.out HC.out k hk2 _).mono ?_
            rw [HRK.out]
            rintro e' W2 ⟨rfl, hb⟩
            go_wp2_with fail
            have hk := hK.out
            simp only [putAll, Act.put, List.setIfInBounds_toArray, List.set_cons_succ, List.set_cons_zero, E8.out] at hk
            refine hk _ _ ?_ ?_
            · show (_ : Value) = .int .i64 rk
              exact rfl
            · exact hb
          refine Steps.cons rfl (js := [19, 19]) (by kernel_rfl) rfl (fun v W1 hB hF Q9 K hK => ?_) ?_
          · obtain ⟨b_HBb, b_Gb, b_Vb, b_Xb, b_Yb, b_KX, b_KE, b_KR, b_CXb, b_CEb, b_CRb⟩ := hB
            have HBb := Lib.hid (show Below w.heap.size w W1 from b_HBb)
            have Gb := Lib.hid (show GR W1 w.heap.size P Q G from b_Gb)
            have Vb := Lib.hid (show D2 W1 (w.heap.size + 1) (.int .i64 H) (.slice ya hs.length yc) from b_Vb)
            have Xb := Lib.hid (show B3 W1 (w.heap.size + 2) (.slice (some ⟨xb, xo, none⟩) 2 c1) (.slice (some ⟨eb, eo, none⟩) 2 c2) (.slice (some ⟨rb, ro, none⟩) 2 c3) from b_Xb)
            have Yb := Lib.hid (show InI B W1 (.slice ya hs.length yc) hs from b_Yb)
            have KX := Lib.hid (show W1.cell? ⟨xb, xo + k, none⟩ = some (.int .i64 xk) from b_KX)
            have KE := Lib.hid (show W1.cell? ⟨eb, eo + k, none⟩ = some (.int .i64 ek) from b_KE)
            have KR := Lib.hid (show W1.cell? ⟨rb, ro + k, none⟩ = some (.int .i64 zk) from b_KR)
            have CXb := Lib.hid (show CC W1 xb xo x0 x1 from b_CXb)
            have CEb := Lib.hid (show CC W1 eb eo e0 e1 from b_CEb)
            have CRb := Lib.hid (show CC W1 rb ro z0 z1 from b_CRb)
            clear b_HBb b_Gb b_Vb b_Xb b_Yb b_KX b_KE b_KR b_CXb b_CEb b_CRb
            have hf19 : v 19 = .int .i64 rk := hF.1
            have e19 := hf19
            have E19 := Lib.hid e19
            clear e19 hf19
            clear hF
            refine ⟨?_⟩
            simp only [putAll, Act.put, List.setIfInBounds_toArray, List.set_cons_succ, List.set_cons_zero, E19.out]
            go_simp
            go_at_call 64
            refine (gExp_any P Q G rk ek HRr.out.1 HRr.out.2 HEr.out.1 HEr.out.2 HPQ.out.1.1 HPQ.out.1.2 HPQ.out.2.1 HPQ.out.2.2 _).mono ?_
            rw [HPW.out]
            rintro e' W2 ⟨rfl, hb⟩
            go_wp2_with fail
            have hk := hK.out
            simp only [putAll, Act.put, List.setIfInBounds_toArray, List.set_cons_succ, List.set_cons_zero, E19.out] at hk
            refine hk _ _ ?_ ?_
            · show (_ : Value) = .int .i64 pw
              exact rfl
            · exact hb
          refine Steps.cons rfl (js := [25]) (by kernel_rfl) rfl (fun v W1 hB hF Q9 K hK => ?_) ?_
          · obtain ⟨b_HBb, b_Gb, b_Vb, b_Xb, b_Yb, b_KX, b_KE, b_KR, b_CXb, b_CEb, b_CRb⟩ := hB
            have HBb := Lib.hid (show Below w.heap.size w W1 from b_HBb)
            have Gb := Lib.hid (show GR W1 w.heap.size P Q G from b_Gb)
            have Vb := Lib.hid (show D2 W1 (w.heap.size + 1) (.int .i64 H) (.slice ya hs.length yc) from b_Vb)
            have Xb := Lib.hid (show B3 W1 (w.heap.size + 2) (.slice (some ⟨xb, xo, none⟩) 2 c1) (.slice (some ⟨eb, eo, none⟩) 2 c2) (.slice (some ⟨rb, ro, none⟩) 2 c3) from b_Xb)
            have Yb := Lib.hid (show InI B W1 (.slice ya hs.length yc) hs from b_Yb)
            have KX := Lib.hid (show W1.cell? ⟨xb, xo + k, none⟩ = some (.int .i64 xk) from b_KX)
            have KE := Lib.hid (show W1.cell? ⟨eb, eo + k, none⟩ = some (.int .i64 ek) from b_KE)
            have KR := Lib.hid (show W1.cell? ⟨rb, ro + k, none⟩ = some (.int .i64 zk) from b_KR)
            have CXb := Lib.hid (show CC W1 xb xo x0 x1 from b_CXb)
            have CEb := Lib.hid (show CC W1 eb eo e0 e1 from b_CEb)
            have CRb := Lib.hid (show CC W1 rb ro z0 z1 from b_CRb)
            clear b_HBb b_Gb b_Vb b_Xb b_Yb b_KX b_KE b_KR b_CXb b_CEb b_CRb
            have hf25 : v 25 = .int .i64 pw := hF.1
            have e25 := hf25
            have E25 := Lib.hid e25
            clear e25 hf25
            clear hF
            refine ⟨?_⟩
            simp only [putAll, Act.put, List.setIfInBounds_toArray, List.set_cons_succ, List.set_cons_zero, E25.out]
            go_simp
            have hk := hK.out
            simp only [putAll, Act.put, List.setIfInBounds_toArray, List.set_cons_succ, List.set_cons_zero, E25.out] at hk
            refine hk _ _ ?_ ?_
            · show ∃ (b26 : Nat), (_ : Value) = .slice (some ⟨b26, 0, none⟩) 2 2 ∧ (IsInts (W1.alloc (.cells #[.int .i64 xk, .int .i64 pw] 3)) (some ⟨b26, 0, none⟩) [xk, pw])
              exact ⟨_, rfl, ints_spot W1 _ rfl [xk, pw] 3⟩
            · exact (ba _ _)
          refine Steps.cons rfl (js := [26, 25]) (by kernel_rfl) rfl (fun v W1 hB hF Q9 K hK => ?_) ?_
          · obtain ⟨b_HBb, b_Gb, b_Vb, b_Xb, b_Yb, b_KX, b_KE, b_KR, b_CXb, b_CEb, b_CRb⟩ := hB
            have HBb := Lib.hid (show Below w.heap.size w W1 from b_HBb)
            have Gb := Lib.hid (show GR W1 w.heap.size P Q G from b_Gb)
            have Vb := Lib.hid (show D2 W1 (w.heap.size + 1) (.int .i64 H) (.slice ya hs.length yc) from b_Vb)
            have Xb := Lib.hid (show B3 W1 (w.heap.size + 2) (.slice (some ⟨xb, xo, none⟩) 2 c1) (.slice (some ⟨eb, eo, none⟩) 2 c2) (.slice (some ⟨rb, ro, none⟩) 2 c3) from b_Xb)
            have Yb := Lib.hid (show InI B W1 (.slice ya hs.length yc) hs from b_Yb)
            have KX := Lib.hid (show W1.cell? ⟨xb, xo + k, none⟩ = some (.int .i64 xk) from b_KX)
            have KE := Lib.hid (show W1.cell? ⟨eb, eo + k, none⟩ = some (.int .i64 ek) from b_KE)
            have KR := Lib.hid (show W1.cell? ⟨rb, ro + k, none⟩ = some (.int .i64 zk) from b_KR)
            have CXb := Lib.hid (show CC W1 xb xo x0 x1 from b_CXb)
            have CEb := Lib.hid (show CC W1 eb eo e0 e1 from b_CEb)
            have CRb := Lib.hid (show CC W1 rb ro z0 z1 from b_CRb)
            clear b_HBb b_Gb b_Vb b_Xb b_Yb b_KX b_KE b_KR b_CXb b_CEb b_CRb
            have hf26 : ∃ (b26 : Nat), v 26 = .slice (some ⟨b26, 0, none⟩) 2 2 ∧ (IsInts W1 (some ⟨b26, 0, none⟩) [xk, pw]) := hF.1
            obtain ⟨b26, e26, f26_0⟩ := hf26
            have E26 := Lib.hid e26
            have L26 := Lib.hid (show IsInts W1 (some ⟨b26, 0, none⟩) [xk, pw] from f26_0)
            clear e26 f26_0
            have hf25 : v 25 = .int .i64 pw := hF.2.1
            have e25 := hf25
            have E25 := Lib.hid e25
            clear e25 hf25
            clear hF
            refine ⟨?_⟩
            simp only [putAll, Act.put, List.setIfInBounds_toArray, List.set_cons_succ, List.set_cons_zero, E26.out, E25.out]
            go_simp
            go_at_call 74
            refine (gMul_any P Q G _ 2 2 [xk, pw] rfl (by decide) HPQ.out.1.1 HPQ.out.1.2 HPP.out _ L26.out).mono ?_
            rw [EM.out]
            rintro e' W2 ⟨rfl, hb⟩
            go_wp2_with fail
            have hk := hK.out
            simp only [putAll, Act.put, List.setIfInBounds_toArray, List.set_cons_succ, List.set_cons_zero, E26.out, E25.out] at hk
            refine hk _ _ ?_ ?_
            · show (_ : Value) = .int .i64 mv
              exact rfl
            · exact hb
          refine Steps.cons rfl (js := [8, 27]) (by kernel_rfl) rfl (fun v W1 hB hF Q9 K hK => ?_) ?_
          · obtain ⟨b_HBb, b_Gb, b_Vb, b_Xb, b_Yb, b_KX, b_KE, b_KR, b_CXb, b_CEb, b_CRb⟩ := hB
            have HBb := Lib.hid (show Below w.heap.size w W1 from b_HBb)
            have Gb := Lib.hid (show GR W1 w.heap.size P Q G from b_Gb)
            have Vb := Lib.hid (show D2 W1 (w.heap.size + 1) (.int .i64 H) (.slice ya hs.length yc) from b_Vb)
            have Xb := Lib.hid (show B3 W1 (w.heap.size + 2) (.slice (some ⟨xb, xo, none⟩) 2 c1) (.slice (some ⟨eb, eo, none⟩) 2 c2) (.slice (some ⟨rb, ro, none⟩) 2 c3) from b_Xb)
            have Yb := Lib.hid (show InI B W1 (.slice ya hs.length yc) hs from b_Yb)
            have KX := Lib.hid (show W1.cell? ⟨xb, xo + k, none⟩ = some (.int .i64 xk) from b_KX)
            have KE := Lib.hid (show W1.cell? ⟨eb, eo + k, none⟩ = some (.int .i64 ek) from b_KE)
            have KR := Lib.hid (show W1.cell? ⟨rb, ro + k, none⟩ = some (.int .i64 zk) from b_KR)
            have CXb := Lib.hid (show CC W1 xb xo x0 x1 from b_CXb)
            have CEb := Lib.hid (show CC W1 eb eo e0 e1 from b_CEb)
            have CRb := Lib.hid (show CC W1 rb ro z0 z1 from b_CRb)
            clear b_HBb b_Gb b_Vb b_Xb b_Yb b_KX b_KE b_KR b_CXb b_CEb b_CRb
            have hf8 : v 8 = .int .i64 pz := hF.1
            have e8 := hf8
            have E8 := Lib.hid e8
            clear e8 hf8
            have hf27 : v 27 = .int .i64 mv := hF.2.1
            have e27 := hf27
            have E27 := Lib.hid e27
            clear e27 hf27
            clear hF
            refine ⟨?_⟩
            simp only [putAll, Act.put, List.setIfInBounds_toArray, List.set_cons_succ, List.set_cons_zero, E8.out, E27.out]
            go_simp
            have hk := hK.out
            simp only [putAll, Act.put, List.setIfInBounds_toArray, List.set_cons_succ, List.set_cons_zero, E8.out, E27.out] at hk
            refine hk _ _ ?_ ?_
            · show (_ : Value) = .bool false
              exact (congrArg Value.bool HN.out)
            · exact (Below.refl _ _)
          exact Steps.nil
        intro v We hB hF
        clear hB0 hHeld
        obtain ⟨b_HBb, b_Gb, b_Vb, b_Xb, b_Yb, b_KX, b_KE, b_KR, b_CXb, b_CEb, b_CRb⟩ := hB
        have HBb := Lib.hid (show Below w.heap.size w We from b_HBb)
        have Gb := Lib.hid (show GR We w.heap.size P Q G from b_Gb)
        have Vb := Lib.hid (show D2 We (w.heap.size + 1) (.int .i64 H) (.slice ya hs.length yc) from b_Vb)
        have Xb := Lib.hid (show B3 We (w.heap.size + 2) (.slice (some ⟨xb, xo, none⟩) 2 c1) (.slice (some ⟨eb, eo, none⟩) 2 c2) (.slice (some ⟨rb, ro, none⟩) 2 c3) from b_Xb)
        have Yb := Lib.hid (show InI B We (.slice ya hs.length yc) hs from b_Yb)
        have KX := Lib.hid (show We.cell? ⟨xb, xo + k, none⟩ = some (.int .i64 xk) from b_KX)
        have KE := Lib.hid (show We.cell? ⟨eb, eo + k, none⟩ = some (.int .i64 ek) from b_KE)
        have KR := Lib.hid (show We.cell? ⟨rb, ro + k, none⟩ = some (.int .i64 zk) from b_KR)
        have CXb := Lib.hid (show CC We xb xo x0 x1 from b_CXb)
        have CEb := Lib.hid (show CC We eb eo e0 e1 from b_CEb)
        have CRb := Lib.hid (show CC We rb ro z0 z1 from b_CRb)
        clear b_HBb b_Gb b_Vb b_Xb b_Yb b_KX b_KE b_KR b_CXb b_CEb b_CRb
        have hf8 : v 8 = .int .i64 pz := hF.1
        have e8 := hf8
        have E8 := Lib.hid e8
        clear e8 hf8
        have hf19 : v 19 = .int .i64 rk := hF.2.1
        have e19 := hf19
        have E19 := Lib.hid e19
        clear e19 hf19
        have hf25 : v 25 = .int .i64 pw := hF.2.2.1
        have e25 := hf25
        have E25 := Lib.hid e25
        clear e25 hf25
        have hf26 : ∃ (b26 : Nat), v 26 = .slice (some ⟨b26, 0, none⟩) 2 2 ∧ (IsInts We (some ⟨b26, 0, none⟩) [xk, pw]) := hF.2.2.2.1
        obtain ⟨b26, e26, f26_0⟩ := hf26
        have E26 := Lib.hid e26
        have L26 := Lib.hid (show IsInts We (some ⟨b26, 0, none⟩) [xk, pw] from f26_0)
        clear e26 f26_0
        have hf27 : v 27 = .int .i64 mv := hF.2.2.2.2.1
        have e27 := hf27
        have E27 := Lib.hid e27
        clear e27 hf27
        have hf28 : v 28 = .bool false := hF.2.2.2.2.2.1
        have e28 := hf28
        have E28 := Lib.hid e28
        clear e28 hf28
        clear hF
        refine ⟨?_⟩
        simp only [putAll, Act.put, List.setIfInBounds_toArray, List.set_cons_succ, List.set_cons_zero, E8.out, E19.out, E25.out, E26.out, E27.out, E28.out]
        refine wpAnyH_done (by kernel_rfl) ?_ _
        go_wp2
        go_roundw
        case rel => exact ⟨k + 1, by omega, by go_num, HS.out, HBb.out, Gb.out, Vb.out, Xb.out, Yb.out, CXb.out, CEb.out, CRb.out⟩
        case measure => simp only [intOf]; omega
    · obtain rfl : k = 2 := by omega
      have hee := HEE.out
      have hw0 : IntKind.i64.wrap (e0 + e1) = e0 + e1 := by rw [IntKind.wrap_i64]; have := HPQ.out.2; omega
      have hb0 : 0 ≤ e0 + e1 ∧ e0 + e1 ≤ 9000000000000000000 := by have := HPQ.out.2; omega
      obtain ⟨em, hem⟩ : ∃ m, (e0 + e1) % Q = m := ⟨_, rfl⟩
      have E9 := Lib.hid (show rbR P Q G H c [x0, x1] [e0, e1] [z0, z1] (decide ((e0 + e1) % Q = ch)) 0 = decide (em = ch) by rw [he, hem]; rfl)
      have HEM := Lib.hid hem
      clear he hem hee
      go_wp2_with fail
      refine wp_region_held_drew (S := (fun w' => ((w'.cell? ⟨w.heap.size, 0, none⟩ = some (.int .i64 P) ∧ w'.cell? ⟨w.heap.size, 1, none⟩ = some (.int .i64 Q) ∧ w'.cell? ⟨w.heap.size, 2, none⟩ = some (.int .i64 G)) ∧ (w'.cell? ⟨w.heap.size + 1, 0, none⟩ = some (.int .i64 H) ∧ w'.cell? ⟨w.heap.size + 1, 1, none⟩ = some (.slice ya hs.length yc))) ∧ (w'.cell? ⟨w.heap.size + 2, 0, none⟩ = some (.slice (some ⟨xb, xo, none⟩) 2 c1) ∧ w'.cell? ⟨w.heap.size + 2, 1, none⟩ = some (.slice (some ⟨eb, eo, none⟩) 2 c2) ∧ w'.cell? ⟨w.heap.size + 2, 2, none⟩ = some (.slice (some ⟨rb, ro, none⟩) 2 c3)) ∧ (w'.cell? ⟨eb, eo, none⟩ = some (.int .i64 e0) ∧ w'.cell? ⟨eb, eo + 1, none⟩ = some (.int .i64 e1)))) (by kernel_rfl) (show _ from ⟨⟨⟨G_r.out.1, G_r.out.2.1, G_r.out.2.2⟩, ⟨V_r.out.1, V_r.out.2⟩⟩, ⟨X_r.out.1, X_r.out.2.1, X_r.out.2.2.1⟩, ⟨CE_r.out.1, CE_r.out.2⟩⟩) (fun hHeld => ?_)
      refine wpAnyH_take (i := 0) (v := ?_) rfl (by kernel_rfl) (by kernel_rfl) (by kernel_rfl) (fun _ _ _ h => h) (Or.inl ⟨by kernel_rfl, ?_⟩) (by assumption) ?_
      rotate_left 1
      · intro w9 hSw
        try dsimp only at hSw
        go_simp
        try with_reducible rfl
      try simp only [Act.put, List.getElem_toArray, List.getElem_cons_succ, List.getElem_cons_zero, List.setIfInBounds_toArray, List.set_cons_zero, List.set_cons_succ]
      refine wpAnyH_take (i := 1) (v := ?_) rfl (by kernel_rfl) (by kernel_rfl) (by kernel_rfl) (fun _ _ _ h => h) (Or.inl ⟨by kernel_rfl, ?_⟩) (by assumption) ?_
      rotate_left 1
      · intro w9 hSw
        try dsimp only at hSw
        go_simp
        try with_reducible rfl
      try simp only [Act.put, List.getElem_toArray, List.getElem_cons_succ, List.getElem_cons_zero, List.setIfInBounds_toArray, List.set_cons_zero, List.set_cons_succ]
      refine wpAnyH_take (i := 2) (v := ?_) rfl (by kernel_rfl) (by kernel_rfl) (by kernel_rfl) (fun _ _ _ h => h) (Or.inl ⟨by kernel_rfl, ?_⟩) (by assumption) ?_
      rotate_left 1
      · intro w9 hSw
        try dsimp only at hSw
        go_simp
        try with_reducible rfl
      try simp only [Act.put, List.getElem_toArray, List.getElem_cons_succ, List.getElem_cons_zero, List.setIfInBounds_toArray, List.set_cons_zero, List.set_cons_succ]
      refine wpAnyH_take (i := 3) (v := ?_) rfl (by kernel_rfl) (by kernel_rfl) (by kernel_rfl) (fun _ _ _ h => h) (Or.inl ⟨by kernel_rfl, ?_⟩) (by assumption) ?_
      rotate_left 1
      · intro w9 hSw
        try dsimp only at hSw
        go_simp
        try with_reducible rfl
      try simp only [Act.put, List.getElem_toArray, List.getElem_cons_succ, List.getElem_cons_zero, List.setIfInBounds_toArray, List.set_cons_zero, List.set_cons_succ]
      refine wpAnyH_take (i := 4) (v := ?_) rfl (by kernel_rfl) (by kernel_rfl) (by kernel_rfl) (fun _ _ _ h => h) (Or.inl ⟨by kernel_rfl, ?_⟩) (by assumption) ?_
      rotate_left 1
      · intro w9 hSw
        try dsimp only at hSw
        go_simp
        try with_reducible rfl
      try simp only [Act.put, List.getElem_toArray, List.getElem_cons_succ, List.getElem_cons_zero, List.setIfInBounds_toArray, List.set_cons_zero, List.set_cons_succ]
      refine wpAnyH_take (i := 5) (v := ?_) rfl (by kernel_rfl) (by kernel_rfl) (by kernel_rfl) (fun _ _ _ h => h) (Or.inl ⟨by kernel_rfl, ?_⟩) (by assumption) ?_
      rotate_left 1
      · intro w9 hSw
        try dsimp only at hSw
        go_simp
        try with_reducible rfl
      try simp only [Act.put, List.getElem_toArray, List.getElem_cons_succ, List.getElem_cons_zero, List.setIfInBounds_toArray, List.set_cons_zero, List.set_cons_succ]
      refine wpAnyH_take (i := 6) (v := ?_) rfl (by kernel_rfl) (by kernel_rfl) (by kernel_rfl) (fun _ _ _ h => h) (Or.inl ⟨by kernel_rfl, ?_⟩) (by assumption) ?_
      rotate_left 1
      · intro w9 hSw
        try dsimp only at hSw
        go_simp
        try with_reducible rfl
      try simp only [Act.put, List.getElem_toArray, List.getElem_cons_succ, List.getElem_cons_zero, List.setIfInBounds_toArray, List.set_cons_zero, List.set_cons_succ]
      refine wpAnyH_take (i := 7) (v := ?_) rfl (by kernel_rfl) (by kernel_rfl) (by kernel_rfl) (fun _ _ _ h => h) (Or.inl ⟨by kernel_rfl, ?_⟩) (by assumption) ?_
      rotate_left 1
      · intro w9 hSw
        try dsimp only at hSw
        go_simp
        try with_reducible rfl
      try simp only [Act.put, List.getElem_toArray, List.getElem_cons_succ, List.getElem_cons_zero, List.setIfInBounds_toArray, List.set_cons_zero, List.set_cons_succ]
      refine wpAnyH_take (i := 8) (v := ?_) rfl (by kernel_rfl) (by kernel_rfl) (by kernel_rfl) (fun _ _ _ h => h) (Or.inl ⟨by kernel_rfl, ?_⟩) (by assumption) ?_
      rotate_left 1
      · intro w9 hSw
        try dsimp only at hSw
        go_simp
        try with_reducible rfl
      try simp only [Act.put, List.getElem_toArray, List.getElem_cons_succ, List.getElem_cons_zero, List.setIfInBounds_toArray, List.set_cons_zero, List.set_cons_succ]
      refine wpAnyH_take (i := 9) (v := ?_) rfl (by kernel_rfl) (by kernel_rfl) (by kernel_rfl) (fun _ _ _ h => h) (Or.inl ⟨by kernel_rfl, ?_⟩) (by assumption) ?_
      rotate_left 1
      · intro w9 hSw
        try dsimp only at hSw
        go_simp
        try with_reducible rfl
      try simp only [Act.put, List.getElem_toArray, List.getElem_cons_succ, List.getElem_cons_zero, List.setIfInBounds_toArray, List.set_cons_zero, List.set_cons_succ]
      refine wpAnyH_take (i := 10) (v := ?_) rfl (by kernel_rfl) (by kernel_rfl) (by kernel_rfl) (fun _ _ _ h => h) (Or.inl ⟨by kernel_rfl, ?_⟩) (by assumption) ?_
      rotate_left 1
      · intro w9 hSw
        try dsimp only at hSw
        go_simp
        try with_reducible rfl
      try simp only [Act.put, List.getElem_toArray, List.getElem_cons_succ, List.getElem_cons_zero, List.setIfInBounds_toArray, List.set_cons_zero, List.set_cons_succ]
      refine wpAnyH_take (i := 12) (v := ?_) rfl (by kernel_rfl) (by kernel_rfl) (by kernel_rfl) (fun _ _ _ h => h) (Or.inl ⟨by kernel_rfl, ?_⟩) (by assumption) ?_
      rotate_left 1
      · intro w9 hSw
        try dsimp only at hSw
        go_simp
        try with_reducible rfl
      try simp only [Act.put, List.getElem_toArray, List.getElem_cons_succ, List.getElem_cons_zero, List.setIfInBounds_toArray, List.set_cons_zero, List.set_cons_succ]
      refine wpAnyH_take (i := 13) (v := ?_) rfl (by kernel_rfl) (by kernel_rfl) (by kernel_rfl) (fun _ _ _ h => h) (Or.inl ⟨by kernel_rfl, ?_⟩) (by assumption) ?_
      rotate_left 1
      · intro w9 hSw
        try dsimp only at hSw
        go_simp
        try with_reducible rfl
      try simp only [Act.put, List.getElem_toArray, List.getElem_cons_succ, List.getElem_cons_zero, List.setIfInBounds_toArray, List.set_cons_zero, List.set_cons_succ]
      refine wpAnyH_take (i := 14) (v := ?_) rfl (by kernel_rfl) (by kernel_rfl) (by kernel_rfl) (fun _ _ _ h => h) (Or.inl ⟨by kernel_rfl, ?_⟩) (by assumption) ?_
      rotate_left 1
      · intro w9 hSw
        try dsimp only at hSw
        go_simp
        try with_reducible rfl
      try simp only [Act.put, List.getElem_toArray, List.getElem_cons_succ, List.getElem_cons_zero, List.setIfInBounds_toArray, List.set_cons_zero, List.set_cons_succ]
      refine wpAnyH_take (i := 15) (v := ?_) rfl (by kernel_rfl) (by kernel_rfl) (by kernel_rfl) (fun _ _ _ h => h) (Or.inl ⟨by kernel_rfl, ?_⟩) (by assumption) ?_
      rotate_left 1
      · intro w9 hSw
        try dsimp only at hSw
        go_simp
        try with_reducible rfl
      try simp only [Act.put, List.getElem_toArray, List.getElem_cons_succ, List.getElem_cons_zero, List.setIfInBounds_toArray, List.set_cons_zero, List.set_cons_succ]
      refine wpAnyH_take (i := 16) (v := ?_) rfl (by kernel_rfl) (by kernel_rfl) (by kernel_rfl) (fun _ _ _ h => h) (Or.inl ⟨by kernel_rfl, ?_⟩) (by assumption) ?_
      rotate_left 1
      · intro w9 hSw
        try dsimp only at hSw
        go_simp
        try with_reducible rfl
      try simp only [Act.put, List.getElem_toArray, List.getElem_cons_succ, List.getElem_cons_zero, List.setIfInBounds_toArray, List.set_cons_zero, List.set_cons_succ]
      have hB0 : (fun w1 => (Below w.heap.size w w1) ∧ (GR w1 w.heap.size P Q G) ∧ (D2 w1 (w.heap.size + 1) (.int .i64 H) (.slice ya hs.length yc)) ∧ (B3 w1 (w.heap.size + 2) (.slice (some ⟨xb, xo, none⟩) 2 c1) (.slice (some ⟨eb, eo, none⟩) 2 c2) (.slice (some ⟨rb, ro, none⟩) 2 c3)) ∧ (InI B w1 (.slice ya hs.length yc) hs) ∧ (CC w1 xb xo x0 x1) ∧ (CC w1 eb eo e0 e1) ∧ (CC w1 rb ro z0 z1)) wr.drew := ⟨HB_r.out.drew, G_r.out.drew, V_r.out.drew, X_r.out.drew, Y_r.out.dr, CX_r.out, CE_r.out, CR_r.out⟩
      refine wpAnyH_part (V := fun i u w1 => cond (Nat.beq i 11) (u = .int .i64 em) (cond (Nat.beq i 17) (u = .int .i64 ch) (cond (Nat.beq i 18) (u = .bool (decide (em = ch))) (cond (Nat.beq i 19) (u = .bool (decide (em = ch))) (True))))) (B := fun w1 => (Below w.heap.size w w1) ∧ (GR w1 w.heap.size P Q G) ∧ (D2 w1 (w.heap.size + 1) (.int .i64 H) (.slice ya hs.length yc)) ∧ (B3 w1 (w.heap.size + 2) (.slice (some ⟨xb, xo, none⟩) 2 c1) (.slice (some ⟨eb, eo, none⟩) 2 c2) (.slice (some ⟨rb, ro, none⟩) 2 c3)) ∧ (InI B w1 (.slice ya hs.length yc) hs) ∧ (CC w1 xb xo x0 x1) ∧ (CC w1 eb eo e0 e1) ∧ (CC w1 rb ro z0 z1)) (R := fun w1 w2 => Below w1.heap.size w1 w2) 0 (rs := [11, 17, 18, 19]) (ds := [(11, some 58), (17, some 64), (18, some 65), (19, some 8)]) (by kernel_rfl) (by kernel_rfl) (by kernel_rfl) (by kernel_rfl) (by kernel_rfl) ?_ ?_ ?_ hB0 ?_ ?_
      · intro w1 w2 hB hR
        clear hB0
        obtain ⟨b_HBb, b_Gb, b_Vb, b_Xb, b_Yb, b_CXb, b_CEb, b_CRb⟩ := hB
        exact ⟨bt b_HBb hR, b_Gb.below hR, b_Vb.below hR, b_Xb.below hR, b_Yb.below hR, b_CXb.below hR, b_CEb.below hR, b_CRb.below hR⟩
      · clear hB0
        refine Last.cons (fun u w1 w2 hB h hR => ?_) ?_
        · have h1 : u = .int .i64 em := h
          show u = .int .i64 em
          exact h1
        refine Last.cons (fun u w1 w2 hB h hR => ?_) ?_
        · have h1 : u = .int .i64 ch := h
          show u = .int .i64 ch
          exact h1
        refine Last.cons (fun u w1 w2 hB h hR => ?_) ?_
        · have h1 : u = .bool (decide (em = ch)) := h
          show u = .bool (decide (em = ch))
          exact h1
        refine Last.cons (fun u w1 w2 hB h hR => ?_) ?_
        · have h1 : u = .bool (decide (em = ch)) := h
          show u = .bool (decide (em = ch))
          exact h1
        exact Last.nil
      · intro w1 hB
        clear hB0
        obtain ⟨b_HBb, b_Gb, b_Vb, b_Xb, b_Yb, b_CXb, b_CEb, b_CRb⟩ := hB
        have HBb := Lib.hid (show Below w.heap.size w w1 from b_HBb)
        have Gb := Lib.hid (show GR w1 w.heap.size P Q G from b_Gb)
        have Vb := Lib.hid (show D2 w1 (w.heap.size + 1) (.int .i64 H) (.slice ya hs.length yc) from b_Vb)
        have Xb := Lib.hid (show B3 w1 (w.heap.size + 2) (.slice (some ⟨xb, xo, none⟩) 2 c1) (.slice (some ⟨eb, eo, none⟩) 2 c2) (.slice (some ⟨rb, ro, none⟩) 2 c3) from b_Xb)
        have Yb := Lib.hid (show InI B w1 (.slice ya hs.length yc) hs from b_Yb)
        have CXb := Lib.hid (show CC w1 xb xo x0 x1 from b_CXb)
        have CEb := Lib.hid (show CC w1 eb eo e0 e1 from b_CEb)
        have CRb := Lib.hid (show CC w1 rb ro z0 z1 from b_CRb)
        clear b_HBb b_Gb b_Vb b_Xb b_Yb b_CXb b_CEb b_CRb
        exact ⟨⟨⟨Gb.out.1, Gb.out.2.1, Gb.out.2.2⟩, ⟨Vb.out.1, Vb.out.2⟩⟩, ⟨Xb.out.1, Xb.out.2.1, Xb.out.2.2.1⟩, ⟨CEb.out.1, CEb.out.2⟩⟩
      · clear hB0 hHeld
        refine Steps.cons rfl (js := []) (by kernel_rfl) rfl (fun v W1 hB hF Q9 K hK => ?_) ?_
        · obtain ⟨b_HBb, b_Gb, b_Vb, b_Xb, b_Yb, b_CXb, b_CEb, b_CRb⟩ := hB
          have HBb := Lib.hid (show Below w.heap.size w W1 from b_HBb)
          have Gb := Lib.hid (show GR W1 w.heap.size P Q G from b_Gb)
          have Vb := Lib.hid (show D2 W1 (w.heap.size + 1) (.int .i64 H) (.slice ya hs.length yc) from b_Vb)
          have Xb := Lib.hid (show B3 W1 (w.heap.size + 2) (.slice (some ⟨xb, xo, none⟩) 2 c1) (.slice (some ⟨eb, eo, none⟩) 2 c2) (.slice (some ⟨rb, ro, none⟩) 2 c3) from b_Xb)
          have Yb := Lib.hid (show InI B W1 (.slice ya hs.length yc) hs from b_Yb)
          have CXb := Lib.hid (show CC W1 xb xo x0 x1 from b_CXb)
          have CEb := Lib.hid (show CC W1 eb eo e0 e1 from b_CEb)
          have CRb := Lib.hid (show CC W1 rb ro z0 z1 from b_CRb)
          clear b_HBb b_Gb b_Vb b_Xb b_Yb b_CXb b_CEb b_CRb
          clear hF
          refine ⟨?_⟩
          simp only [putAll, Act.put, List.setIfInBounds_toArray, List.set_cons_succ, List.set_cons_zero]
          go_simp
          go_at_call 67
          refine (o_nn (e0 + e1) Q hb0.1 hb0.2 HPQ.out.2.1 HPQ.out.2.2 _).mono ?_
          rw [HEM.out]
          rintro e' w' ⟨rfl, rfl⟩
          go_wp2_with fail
          have hk := hK.out
          simp only [putAll, Act.put, List.setIfInBounds_toArray, List.set_cons_succ, List.set_cons_zero] at hk
          refine hk _ _ ?_ ?_
          · show (_ : Value) = .int .i64 em
            exact rfl
          · exact (Below.refl _ _)
        refine Steps.cons rfl (js := [11]) (by kernel_rfl) rfl (fun v W1 hB hF Q9 K hK => ?_) ?_
        · obtain ⟨b_HBb, b_Gb, b_Vb, b_Xb, b_Yb, b_CXb, b_CEb, b_CRb⟩ := hB
          have HBb := Lib.hid (show Below w.heap.size w W1 from b_HBb)
          have Gb := Lib.hid (show GR W1 w.heap.size P Q G from b_Gb)
          have Vb := Lib.hid (show D2 W1 (w.heap.size + 1) (.int .i64 H) (.slice ya hs.length yc) from b_Vb)
          have Xb := Lib.hid (show B3 W1 (w.heap.size + 2) (.slice (some ⟨xb, xo, none⟩) 2 c1) (.slice (some ⟨eb, eo, none⟩) 2 c2) (.slice (some ⟨rb, ro, none⟩) 2 c3) from b_Xb)
          have Yb := Lib.hid (show InI B W1 (.slice ya hs.length yc) hs from b_Yb)
          have CXb := Lib.hid (show CC W1 xb xo x0 x1 from b_CXb)
          have CEb := Lib.hid (show CC W1 eb eo e0 e1 from b_CEb)
          have CRb := Lib.hid (show CC W1 rb ro z0 z1 from b_CRb)
          clear b_HBb b_Gb b_Vb b_Xb b_Yb b_CXb b_CEb b_CRb
          have hf11 : v 11 = .int .i64 em := hF.1
          have e11 := hf11
          have E11 := Lib.hid e11
          clear e11 hf11
          clear hF
          refine ⟨?_⟩
          simp only [putAll, Act.put, List.setIfInBounds_toArray, List.set_cons_succ, List.set_cons_zero, E11.out]
          go_simp
          go_at_call 86
          refine (rBitChallenge_any P Q G H c x0 x1 HG.out HH.out HC.out HX0.out HX1.out Yb.out CXb.out).mono ?_
          rw [HCH.out]
          rintro e' W2 ⟨rfl, hb⟩
          go_wp2_with fail
          have hk := hK.out
          simp only [putAll, Act.put, List.setIfInBounds_toArray, List.set_cons_succ, List.set_cons_zero, E11.out] at hk
          refine hk _ _ ?_ ?_
          · show (_ : Value) = .int .i64 ch
            exact rfl
          · exact hb
        refine Steps.cons rfl (js := [11, 17]) (by kernel_rfl) rfl (fun v W1 hB hF Q9 K hK => ?_) ?_
        · obtain ⟨b_HBb, b_Gb, b_Vb, b_Xb, b_Yb, b_CXb, b_CEb, b_CRb⟩ := hB
          have HBb := Lib.hid (show Below w.heap.size w W1 from b_HBb)
          have Gb := Lib.hid (show GR W1 w.heap.size P Q G from b_Gb)
          have Vb := Lib.hid (show D2 W1 (w.heap.size + 1) (.int .i64 H) (.slice ya hs.length yc) from b_Vb)
          have Xb := Lib.hid (show B3 W1 (w.heap.size + 2) (.slice (some ⟨xb, xo, none⟩) 2 c1) (.slice (some ⟨eb, eo, none⟩) 2 c2) (.slice (some ⟨rb, ro, none⟩) 2 c3) from b_Xb)
          have Yb := Lib.hid (show InI B W1 (.slice ya hs.length yc) hs from b_Yb)
          have CXb := Lib.hid (show CC W1 xb xo x0 x1 from b_CXb)
          have CEb := Lib.hid (show CC W1 eb eo e0 e1 from b_CEb)
          have CRb := Lib.hid (show CC W1 rb ro z0 z1 from b_CRb)
          clear b_HBb b_Gb b_Vb b_Xb b_Yb b_CXb b_CEb b_CRb
          have hf11 : v 11 = .int .i64 em := hF.1
          have e11 := hf11
          have E11 := Lib.hid e11
          clear e11 hf11
          have hf17 : v 17 = .int .i64 ch := hF.2.1
          have e17 := hf17
          have E17 := Lib.hid e17
          clear e17 hf17
          clear hF
          refine ⟨?_⟩
          simp only [putAll, Act.put, List.setIfInBounds_toArray, List.set_cons_succ, List.set_cons_zero, E11.out, E17.out]
          go_simp
          have hk := hK.out
          simp only [putAll, Act.put, List.setIfInBounds_toArray, List.set_cons_succ, List.set_cons_zero, E11.out, E17.out] at hk
          refine hk _ _ ?_ ?_
          · show (_ : Value) = .bool (decide (em = ch))
            exact rfl
          · exact (Below.refl _ _)
        refine Steps.cons rfl (js := [18, 17, 11, 17, 18]) (by kernel_rfl) rfl (fun v W1 hB hF Q9 K hK => ?_) ?_
        · obtain ⟨b_HBb, b_Gb, b_Vb, b_Xb, b_Yb, b_CXb, b_CEb, b_CRb⟩ := hB
          have HBb := Lib.hid (show Below w.heap.size w W1 from b_HBb)
          have Gb := Lib.hid (show GR W1 w.heap.size P Q G from b_Gb)
          have Vb := Lib.hid (show D2 W1 (w.heap.size + 1) (.int .i64 H) (.slice ya hs.length yc) from b_Vb)
          have Xb := Lib.hid (show B3 W1 (w.heap.size + 2) (.slice (some ⟨xb, xo, none⟩) 2 c1) (.slice (some ⟨eb, eo, none⟩) 2 c2) (.slice (some ⟨rb, ro, none⟩) 2 c3) from b_Xb)
          have Yb := Lib.hid (show InI B W1 (.slice ya hs.length yc) hs from b_Yb)
          have CXb := Lib.hid (show CC W1 xb xo x0 x1 from b_CXb)
          have CEb := Lib.hid (show CC W1 eb eo e0 e1 from b_CEb)
          have CRb := Lib.hid (show CC W1 rb ro z0 z1 from b_CRb)
          clear b_HBb b_Gb b_Vb b_Xb b_Yb b_CXb b_CEb b_CRb
          have hf18 : v 18 = .bool (decide (em = ch)) := hF.1
          have e18 := hf18
          have E18 := Lib.hid e18
          clear e18 hf18
          have hf17 : v 17 = .int .i64 ch := hF.2.1
          have e17 := hf17
          have E17 := Lib.hid e17
          clear e17 hf17
          have hf11 : v 11 = .int .i64 em := hF.2.2.1
          have e11 := hf11
          have E11 := Lib.hid e11
          clear e11 hf11
          clear hF
          refine ⟨?_⟩
          simp only [putAll, Act.put, List.setIfInBounds_toArray, List.set_cons_succ, List.set_cons_zero, E18.out, E17.out, E11.out]
          go_simp
          have hk := hK.out
          simp only [putAll, Act.put, List.setIfInBounds_toArray, List.set_cons_succ, List.set_cons_zero, E18.out, E17.out, E11.out] at hk
          refine hk _ _ ?_ ?_
          · show (_ : Value) = .bool (decide (em = ch))
            exact rfl
          · exact (Below.refl _ _)
        exact Steps.nil
      intro v We hB hF
      clear hB0 hHeld
      obtain ⟨b_HBb, b_Gb, b_Vb, b_Xb, b_Yb, b_CXb, b_CEb, b_CRb⟩ := hB
      have HBb := Lib.hid (show Below w.heap.size w We from b_HBb)
      have Gb := Lib.hid (show GR We w.heap.size P Q G from b_Gb)
      have Vb := Lib.hid (show D2 We (w.heap.size + 1) (.int .i64 H) (.slice ya hs.length yc) from b_Vb)
      have Xb := Lib.hid (show B3 We (w.heap.size + 2) (.slice (some ⟨xb, xo, none⟩) 2 c1) (.slice (some ⟨eb, eo, none⟩) 2 c2) (.slice (some ⟨rb, ro, none⟩) 2 c3) from b_Xb)
      have Yb := Lib.hid (show InI B We (.slice ya hs.length yc) hs from b_Yb)
      have CXb := Lib.hid (show CC We xb xo x0 x1 from b_CXb)
      have CEb := Lib.hid (show CC We eb eo e0 e1 from b_CEb)
      have CRb := Lib.hid (show CC We rb ro z0 z1 from b_CRb)
      clear b_HBb b_Gb b_Vb b_Xb b_Yb b_CXb b_CEb b_CRb
      have hf11 : v 11 = .int .i64 em := hF.1
      have e11 := hf11
      have E11 := Lib.hid e11
      clear e11 hf11
      have hf17 : v 17 = .int .i64 ch := hF.2.1
      have e17 := hf17
      have E17 := Lib.hid e17
      clear e17 hf17
      have hf18 : v 18 = .bool (decide (em = ch)) := hF.2.2.1
      have e18 := hf18
      have E18 := Lib.hid e18
      clear e18 hf18
      have hf19 : v 19 = .bool (decide (em = ch)) := hF.2.2.2.1
      have e19 := hf19
      have E19 := Lib.hid e19
      clear e19 hf19
      clear hF
      refine ⟨?_⟩
      simp only [putAll, Act.put, List.setIfInBounds_toArray, List.set_cons_succ, List.set_cons_zero, E11.out, E17.out, E18.out, E19.out]
      refine wpAnyH_done (by kernel_rfl) ?_ _
      go_wp2
      go_ret
      refine ⟨?_, HBb.out⟩
      rw [E9.out]
      rfl

set_option maxRecDepth 100000 in
set_option maxHeartbeats 3200000 in
theorem sVerifyBit_any (P Q G H c : Int) {B C : Nat} {y v : Value} {hs : List Int} {p : PrD} (hl : hs.length ≤ 1048576) (hpn : p.n ≤ 1048576) {w : World} (hy : InI B w y hs) (hP : InP C w v p) :
    Calls Try.prog 24 #[gv P Q G, .agg #[.int .i64 H, y], .int .i64 c, v] w fun e w' => e = .returned (.tuple #[.bool (vbV P Q G H hs c p), .bool (vbB P Q G H hs c)]) ∧ Below w.heap.size w w' := by
  obtain ⟨ya, yc, rfl⟩ := hy.shape
  obtain ⟨a1, c1, a2, c2, a3, c3, rfl, _, _, _⟩ := hP.parts
  have G_9 := Lib.hid ((gr_at w (w.heap.size) (by simp) P Q G 32).below (ba (w.alloc (.cells #[.int .i64 P, .int .i64 Q, .int .i64 G] 32)) (.cells #[.int .i64 H, .slice ya hs.length yc] 34)))
  have V_9 := Lib.hid (d2_at (w.alloc (.cells #[.int .i64 P, .int .i64 Q, .int .i64 G] 32)) (w.heap.size + 1) (by simp) (.int .i64 H) (.slice ya hs.length yc) 34)
  have HB_9 := Lib.hid (show Below w.heap.size w ((w.alloc (.cells #[.int .i64 P, .int .i64 Q, .int .i64 G] 32)).alloc (.cells #[.int .i64 H, .slice ya hs.length yc] 34)) from bt (ba _ _) (ba _ _))
  have hv := b3_new ((w.alloc (.cells #[.int .i64 P, .int .i64 Q, .int .i64 G] 32)).alloc (.cells #[.int .i64 H, .slice ya hs.length yc] 34)) (.slice a1 p.c.length c1) (.slice a2 p.h.length c2) (.slice a3 p.r.length c3) 29
  rw [show ((w.alloc (.cells #[.int .i64 P, .int .i64 Q, .int .i64 G] 32)).alloc (.cells #[.int .i64 H, .slice ya hs.length yc] 34)).heap.size = w.heap.size + 2 by simp] at hv
  have X_0 := Lib.hid hv
  have G_0 := Lib.hid (G_9.out.below (ba _ (.cells #[.slice a1 p.c.length c1, .slice a2 p.h.length c2, .slice a3 p.r.length c3] 29)))
  have V_0 := Lib.hid (V_9.out.below (ba _ (.cells #[.slice a1 p.c.length c1, .slice a2 p.h.length c2, .slice a3 p.r.length c3] 29)))
  have HB_0 := Lib.hid (bt HB_9.out (ba _ (.cells #[.slice a1 p.c.length c1, .slice a2 p.h.length c2, .slice a3 p.r.length c3] 29)))
  have Y_0 := Lib.hid (hy.below HB_0.out)
  have PP_0 := Lib.hid (hP.below HB_0.out)
  clear hv hP hy G_9 V_9 HB_9
  cases h0 : bsB P Q G H hs
  · have K0 := Lib.hid (show bsB P Q G H hs = false from h0)
    have E1 := Lib.hid (show vbB P Q G H hs c = false by simp [vbB, ← el_list1, h0])
    have E2 := Lib.hid (show vbV P Q G H hs c p = false by simp only [vbV, E1.out, Bool.false_and])
    rw [E1.out, E2.out]
    clear h0
    obtain ⟨gG0, gG1, gG2⟩ := G_0.out
    obtain ⟨bX0, bX1, bX2, _⟩ := X_0.out
    obtain ⟨cV0, cV1⟩ := V_0.out
    go_enter Try.func24, Try.ntmps24
    go_wp2_with fail
    refine (l9Good_any P Q G H (by omega) Y_0.out).mono ?_
    rw [K0.out]
    rintro e v1 ⟨rfl, hb⟩
    have HB_1 := Lib.hid (bt HB_0.out hb)
    have G_1 := Lib.hid (G_0.out.below hb)
    have V_1 := Lib.hid (V_0.out.below hb)
    have X_1 := Lib.hid (X_0.out.below hb)
    have Y_1 := Lib.hid (Y_0.out.below hb)
    have PP_1 := Lib.hid (PP_0.out.below hb)
    clear hb gG0 gG1 gG2 bX0 bX1 bX2 cV0 cV1
    obtain ⟨gG0, gG1, gG2⟩ := G_1.out
    obtain ⟨bX0, bX1, bX2, _⟩ := X_1.out
    obtain ⟨cV0, cV1⟩ := V_1.out
    go_wp2
    go_ret2
    exact ⟨rfl, HB_1.out⟩
  have K0 := Lib.hid (show bsB P Q G H hs = true from h0)
  have hgd := bs_good h0
  have hmo := good_mo hgd
  have hH0 := bs_H h0
  cases h1 : allEl P Q [c]
  · have K1 := Lib.hid (show allEl P Q [c] = false from h1)
    have E1 := Lib.hid (show vbB P Q G H hs c = false by simp [vbB, ← el_list1, h0, h1])
    have E2 := Lib.hid (show vbV P Q G H hs c p = false by simp only [vbV, E1.out, Bool.false_and])
    rw [E1.out, E2.out]
    clear h0 h1
    obtain ⟨gG0, gG1, gG2⟩ := G_0.out
    obtain ⟨bX0, bX1, bX2, _⟩ := X_0.out
    obtain ⟨cV0, cV1⟩ := V_0.out
    go_enter Try.func24, Try.ntmps24
    go_wp2_with fail
    refine (l9Good_any P Q G H (by omega) Y_0.out).mono ?_
    rw [K0.out]
    rintro e v1 ⟨rfl, hb⟩
    have HB_1 := Lib.hid (bt HB_0.out hb)
    have G_1 := Lib.hid (G_0.out.below hb)
    have V_1 := Lib.hid (V_0.out.below hb)
    have X_1 := Lib.hid (X_0.out.below hb)
    have Y_1 := Lib.hid (Y_0.out.below hb)
    have PP_1 := Lib.hid (PP_0.out.below hb)
    clear hb gG0 gG1 gG2 bX0 bX1 bX2 cV0 cV1
    obtain ⟨gG0, gG1, gG2⟩ := G_1.out
    obtain ⟨bX0, bX1, bX2, _⟩ := X_1.out
    obtain ⟨cV0, cV1⟩ := V_1.out
    go_wp2_with fail
    refine (gIs_any P Q G hmo _ 1 1 [c] rfl (by decide) _ (ints_lit v1 [c] 3)).mono ?_
    rw [K1.out]
    rintro e v2 ⟨rfl, hb0⟩
    have hb := bt (ba v1 _) hb0
    clear hb0
    have HB_2 := Lib.hid (bt HB_1.out hb)
    have G_2 := Lib.hid (G_1.out.below hb)
    have V_2 := Lib.hid (V_1.out.below hb)
    have X_2 := Lib.hid (X_1.out.below hb)
    have Y_2 := Lib.hid (Y_1.out.below hb)
    have PP_2 := Lib.hid (PP_1.out.below hb)
    clear hb gG0 gG1 gG2 bX0 bX1 bX2 cV0 cV1
    obtain ⟨gG0, gG1, gG2⟩ := G_2.out
    obtain ⟨bX0, bX1, bX2, _⟩ := X_2.out
    obtain ⟨cV0, cV1⟩ := V_2.out
    go_wp2
    go_ret2
    exact ⟨rfl, HB_2.out⟩
  have K1 := Lib.hid (show allEl P Q [c] = true from h1)
  have E1 := Lib.hid (show vbB P Q G H hs c = true by simp [vbB, ← el_list1, h0, h1])
  rw [E1.out]
  have hce : elB P Q c = true := by rw [← el_list1]; exact h1
  have E2 := Lib.hid (show vbV P Q G H hs c p = rbV P Q G H c p by unfold vbV; rw [E1.out, Bool.true_and])
  rw [E2.out]
  have HG := Lib.hid hgd
  have HH := Lib.hid hH0
  have HCE := Lib.hid hce
  clear h0 h1 hgd hH0 hce
  obtain ⟨gG0, gG1, gG2⟩ := G_0.out
  obtain ⟨bX0, bX1, bX2, _⟩ := X_0.out
  obtain ⟨cV0, cV1⟩ := V_0.out
  go_enter Try.func24, Try.ntmps24
  go_wp2_with fail
  refine (l9Good_any P Q G H (by omega) Y_0.out).mono ?_
  rw [K0.out]
  rintro e v1 ⟨rfl, hb⟩
  have HB_1 := Lib.hid (bt HB_0.out hb)
  have G_1 := Lib.hid (G_0.out.below hb)
  have V_1 := Lib.hid (V_0.out.below hb)
  have X_1 := Lib.hid (X_0.out.below hb)
  have Y_1 := Lib.hid (Y_0.out.below hb)
  have PP_1 := Lib.hid (PP_0.out.below hb)
  clear hb gG0 gG1 gG2 bX0 bX1 bX2 cV0 cV1
  obtain ⟨gG0, gG1, gG2⟩ := G_1.out
  obtain ⟨bX0, bX1, bX2, _⟩ := X_1.out
  obtain ⟨cV0, cV1⟩ := V_1.out
  go_wp2_with fail
  refine (gIs_any P Q G hmo _ 1 1 [c] rfl (by decide) _ (ints_lit v1 [c] 3)).mono ?_
  rw [K1.out]
  rintro e v2 ⟨rfl, hb0⟩
  have hb := bt (ba v1 _) hb0
  clear hb0
  have HB_2 := Lib.hid (bt HB_1.out hb)
  have G_2 := Lib.hid (G_1.out.below hb)
  have V_2 := Lib.hid (V_1.out.below hb)
  have X_2 := Lib.hid (X_1.out.below hb)
  have Y_2 := Lib.hid (Y_1.out.below hb)
  have PP_2 := Lib.hid (PP_1.out.below hb)
  clear hb gG0 gG1 gG2 bX0 bX1 bX2 cV0 cV1
  obtain ⟨gG0, gG1, gG2⟩ := G_2.out
  obtain ⟨bX0, bX1, bX2, _⟩ := X_2.out
  obtain ⟨cV0, cV1⟩ := V_2.out
  go_wp2_with fail
  refine (rIsBit_any P Q G H c HG.out HH.out HCE.out hpn Y_2.out PP_2.out).mono ?_
  rintro e' v9 ⟨rfl, hb9⟩
  have HB_9 := Lib.hid (bt HB_2.out hb9)
  clear hb9
  go_wp2
  go_ret2
  exact ⟨rfl, HB_9.out⟩

end Go.Proofs.Ytblclghbabhdlaa

