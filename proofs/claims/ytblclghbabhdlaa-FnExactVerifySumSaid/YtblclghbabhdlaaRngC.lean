/- Chapter 10, the reference: the verdict on a bit, on a sum. -/
import Derived.Test.YtblclghbabhdlaaRngB
namespace Go.Proofs.Ytblclghbabhdlaa
open Go.RowKit
set_option linter.unusedVariables false
set_option linter.unusedSimpArgs false


theorem fo_nat {P Q : Int} {p : PrD} {a b c : Nat} : foB P Q p (a : Int) (b : Int) (c : Int) = foV P Q p a b c := by
  have e : ∀ m n : Nat, decide ((m : Int) = (n : Int)) = decide (m = n) := fun m n => by
    by_cases h : m = n
    · subst h; simp
    · rw [decide_eq_false h, decide_eq_false (by omega)]
  unfold foB foV
  rw [e, e, e]
/-- One equation of a bit's verdict. -/
def okK (P Q G H c : Int) (xs es zs : List Int) (k : Nat) : Bool := Num.pow H (zs.getD k 0) P == xs.getD k 0 * Num.pow (rcV P Q G c k) (es.getD k 0) P % P
/-- What is left of a bit's verdict. -/
def rbR (P Q G H c : Int) (xs es zs : List Int) (s : Bool) : Nat → Bool
  | 0 => okK P Q G H c xs es zs 0 && (okK P Q G H c xs es zs 1 && s)
  | 1 => okK P Q G H c xs es zs 1 && s
  | _ => s
theorem rbR_step {P Q G H c : Int} {xs es zs : List Int} {s : Bool} {k : Nat} (hk : k < 2) : rbR P Q G H c xs es zs s k = (okK P Q G H c xs es zs k && rbR P Q G H c xs es zs s (k + 1)) := by
  match k, hk with
  | 0, _ => rfl
  | 1, _ => rfl
theorem rb_start {P Q G H c x0 x1 e0 e1 z0 z1 : Int} : rbOk P Q G H c ⟨[x0, x1], [e0, e1], [z0, z1]⟩ = rbR P Q G H c [x0, x1] [e0, e1] [z0, z1] (decide ((e0 + e1) % Q = chX P Q G bitL [H, c, x0, x1])) 0 := rfl
theorem CC.at {w : World} {b o : Nat} {x y : Int} (h : CC w b o x y) {k : Nat} (hk : k < 2) : w.cell? ⟨b, o + k, none⟩ = some (.int .i64 ([x, y].getD k 0)) := by
  match k, hk with
  | 0, _ => exact h.1
  | 1, _ => exact h.2
theorem two_all {p : Int → Prop} {x y : Int} (hx : p x) (hy : p y) {k : Nat} (hk : k < 2) : p ([x, y].getD k 0) := by
  match k, hk with
  | 0, _ => exact hx
  | 1, _ => exact hy

set_option maxRecDepth 100000 in
set_option maxHeartbeats 6400000 in
theorem rIsBit_any (P Q G H c : Int) (hg : goodB P Q G = true) (hH : elB P Q H = true) (hc : elB P Q c = true) {B C : Nat} {y v : Value} {hs : List Int} {p : PrD} (hpn : p.n ≤ 1048576) {w : World} (hy : InI B w y hs) (hP : InP C w v p) :
    Calls Try.prog 49 #[gv P Q G, .agg #[.int .i64 H, y], .int .i64 c, v] w fun e w' => e = .returned (.bool (rbV P Q G H c p)) ∧ Below w.heap.size w w' := by
  obtain ⟨ya, yc, rfl⟩ := hy.shape
  obtain ⟨a1, c1, a2, c2, a3, c3, rfl, _, _, _⟩ := hP.parts
  have G_9 := Lib.hid ((gr_at w (w.heap.size) (by simp) P Q G 32).below (ba (w.alloc (.cells #[.int .i64 P, .int .i64 Q, .int .i64 G] 32)) (.cells #[.int .i64 H, .slice ya hs.length yc] 34)))
  have V_9 := Lib.hid (d2_at (w.alloc (.cells #[.int .i64 P, .int .i64 Q, .int .i64 G] 32)) (w.heap.size + 1) (by simp) (.int .i64 H) (.slice ya hs.length yc) 34)
  have HB_9 := Lib.hid (show Below w.heap.size w ((w.alloc (.cells #[.int .i64 P, .int .i64 Q, .int .i64 G] 32)).alloc (.cells #[.int .i64 H, .slice ya hs.length yc] 34)) from bt (ba _ _) (ba _ _))
  have hv := b3_new ((w.alloc (.cells #[.int .i64 P, .int .i64 Q, .int .i64 G] 32)).alloc (.cells #[.int .i64 H, .slice ya hs.length yc] 34)) (.slice a1 p.c.length c1) (.slice a2 p.h.length c2) (.slice a3 p.r.length c3) 29
  rw [show ((w.alloc (.cells #[.int .i64 P, .int .i64 Q, .int .i64 G] 32)).alloc (.cells #[.int .i64 H, .slice ya hs.length yc] 34)).heap.size = w.heap.size + 2 by simp] at hv
  have X_0 := Lib.hid hv
  have G_0 := Lib.hid (G_9.out.below (ba _ (.cells #[.slice a1 p.c.length c1, .slice a2 p.h.length c2, .slice a3 p.r.length c3] 29)))
  have V_0 := Lib.hid (V_9.out.below (ba _ (.cells #[.slice a1 p.c.length c1, .slice a2 p.h.length c2, .slice a3 p.r.length c3] 29)))
  have HB_0 := Lib.hid (bt HB_9.out (ba _ (.cells #[.slice a1 p.c.length c1, .slice a2 p.h.length c2, .slice a3 p.r.length c3] 29)))
  have Y_0 := Lib.hid (hy.below HB_0.out)
  have PP_0 := Lib.hid (hP.below HB_0.out)
  clear hv hP hy G_9 V_9 HB_9
  have HG := Lib.hid hg
  have hfn : foB P Q p 2 2 2 = foV P Q p 2 2 2 := fo_nat (a := 2) (b := 2) (c := 2)
  cases h0 : foV P Q p 2 2 2
  · have E1 := Lib.hid (show rbV P Q G H c p = false by unfold rbV; rw [h0]; rfl)
    rw [E1.out]
    have K0 := Lib.hid (show foB P Q p 2 2 2 = false by rw [hfn]; exact h0)
    clear h0 hg hfn
    obtain ⟨g0, g1, g2⟩ := G_0.out
    obtain ⟨x0, x1, x2, _⟩ := X_0.out
    go_enter Try.func49, Try.ntmps49
    go_wp2_with fail
    refine (l9Form_any P Q G 2 2 2 HG.out hpn PP_0.out).mono ?_
    rw [K0.out]
    rintro e v1 ⟨rfl, hb⟩
    have HB_1 := Lib.hid (bt HB_0.out hb)
    clear hb
    go_wp2
    go_ret
    exact ⟨rfl, HB_1.out⟩
  have K0 := Lib.hid (show foB P Q p 2 2 2 = true by rw [hfn]; exact h0)
  obtain ⟨f1, f2, f3, f4, f5, f6⟩ := foV_true.1 h0
  have EV := Lib.hid (show rbV P Q G H c p = rbOk P Q G H c p by unfold rbV; rw [h0]; rfl)
  rw [EV.out]
  obtain ⟨pc, ph, pr⟩ := p
  simp only at f1 f2 f3 f4 f5 f6 PP_0 X_0 HB_0 G_0 V_0 Y_0 K0 hpn ⊢
  obtain ⟨x0, x1, rfl⟩ := two_list f1
  obtain ⟨e0, e1, rfl⟩ := two_list f2
  obtain ⟨z0, z1, rfl⟩ := two_list f3
  rw [rb_start]
  have hmo := good_mo hg
  have hgr := good_rng hg
  simp only [allEl, List.all_cons, List.all_nil, Bool.and_true, Bool.and_eq_true] at f4
  obtain ⟨he0, he1⟩ := in_pair f5
  obtain ⟨hz0, hz1⟩ := in_pair f6
  obtain ⟨xb, xo, rfl, hcx⟩ := (inP_c PP_0.out).twoC
  obtain ⟨eb, eo, rfl, hce⟩ := (inP_h PP_0.out).twoC
  obtain ⟨rb, ro, rfl, hcc⟩ := (inP_r PP_0.out).twoC
  have CX_0 := Lib.hid hcx
  have CE_0 := Lib.hid hce
  have CR_0 := Lib.hid hcc
  have HH := Lib.hid hH
  have HC := Lib.hid hc
  have HX0 := Lib.hid f4.1
  have HX1 := Lib.hid f4.2
  have HEE := Lib.hid (And.intro he0 he1)
  have HZZ := Lib.hid (And.intro hz0 hz1)
  have HHr := Lib.hid (el_sm hg hH)
  have HPQ := Lib.hid (And.intro hmo.1 hgr.2.1)
  obtain ⟨ch, hch⟩ : ∃ ch, chX P Q G bitL [H, c, x0, x1] = ch := ⟨_, rfl⟩
  rw [hch]
  have HCH := Lib.hid hch
  clear hg hH hc h0 f1 f2 f3 f4 f5 f6 hcx hce hcc he0 he1 hz0 hz1 hmo hgr hch hfn EV
  obtain ⟨W, hW9⟩ : ∃ W, (((w.alloc (.cells #[.int .i64 P, .int .i64 Q, .int .i64 G] 32)).alloc (.cells #[.int .i64 H, .slice ya hs.length yc] 34)).alloc (.cells #[.slice (some ⟨xb, xo, none⟩) [x0, x1].length c1, .slice (some ⟨eb, eo, none⟩) [e0, e1].length c2, .slice (some ⟨rb, ro, none⟩) [z0, z1].length c3] 29)) = W := ⟨_, rfl⟩
  rw [hW9] at X_0 PP_0 HB_0 G_0 V_0 Y_0 CX_0 CE_0 CR_0
  have hW : (((w.alloc (.cells #[.int .i64 P, .int .i64 Q, .int .i64 G] 32)).alloc (.cells #[.int .i64 H, .slice ya hs.length yc] 34)).alloc (.cells #[.slice (some ⟨xb, xo, none⟩) 2 c1, .slice (some ⟨eb, eo, none⟩) 2 c2, .slice (some ⟨rb, ro, none⟩) 2 c3] 29)) = W := hW9
  clear hW9
  have X_0 := Lib.hid (show B3 W (w.heap.size + 2) (.slice (some ⟨xb, xo, none⟩) 2 c1) (.slice (some ⟨eb, eo, none⟩) 2 c2) (.slice (some ⟨rb, ro, none⟩) 2 c3) from X_0.out)
  obtain ⟨g0, g1, g2⟩ := G_0.out
  obtain ⟨b0, b1, b2, _⟩ := X_0.out
  go_enter Try.func49, Try.ntmps49
  go_wp2_with fail
  refine (l9Form_any P Q G 2 2 2 HG.out hpn PP_0.out).mono ?_
  rw [K0.out]
  rintro e' v1 ⟨rfl, hb⟩
  have HB_1 := Lib.hid (bt HB_0.out hb)
  have G_1 := Lib.hid (G_0.out.below hb)
  have V_1 := Lib.hid (V_0.out.below hb)
  have X_1 := Lib.hid (X_0.out.below hb)
  have Y_1 := Lib.hid (Y_0.out.below hb)
  have CX_1 := Lib.hid (CX_0.out.below hb)
  have CE_1 := Lib.hid (CE_0.out.below hb)
  have CR_1 := Lib.hid (CR_0.out.below hb)
  clear hb g0 g1 g2 b0 b1 b2 hW
  go_wp2_with fail
  go_loopw [9] (fun K wr => ∃ k : Nat, k ≤ 2 ∧ K = .int .i64 k ∧ rbR P Q G H c [x0, x1] [e0, e1] [z0, z1] (decide ((e0 + e1) % Q = ch)) 0 = rbR P Q G H c [x0, x1] [e0, e1] [z0, z1] (decide ((e0 + e1) % Q = ch)) k ∧ Below w.heap.size w wr ∧ GR wr w.heap.size P Q G ∧ D2 wr (w.heap.size + 1) (.int .i64 H) (.slice ya hs.length yc) ∧ B3 wr (w.heap.size + 2) (.slice (some ⟨xb, xo, none⟩) 2 c1) (.slice (some ⟨eb, eo, none⟩) 2 c2) (.slice (some ⟨rb, ro, none⟩) 2 c3) ∧ InI B wr (.slice ya hs.length yc) hs ∧ CC wr xb xo x0 x1 ∧ CC wr eb eo e0 e1 ∧ CC wr rb ro z0 z1) (fun K _ => 2 - (intOf K).toNat)
  case atStart => exact ⟨0, by omega, rfl, rfl, HB_1.out, G_1.out, V_1.out, X_1.out, Y_1.out, CX_1.out, CE_1.out, CR_1.out⟩
  case round =>
    obtain ⟨k, hk, rfl, he, hr1, hr2, hr3, hr4, hr5, hr6, hr7, hr8⟩ := hrel
    have HB_r := Lib.hid hr1
    have G_r := Lib.hid hr2
    have V_r := Lib.hid hr3
    have X_r := Lib.hid hr4
    have Y_r := Lib.hid hr5
    have CX_r := Lib.hid hr6
    have CE_r := Lib.hid hr7
    have CR_r := Lib.hid hr8
    clear hr1 hr2 hr3 hr4 hr5 hr6 hr7 hr8
    by_cases hk2 : k < 2
    · have hki : (k : Int) < 2 := by omega
      have hkx := CX_r.out.at hk2
      have hke := CE_r.out.at hk2
      have hkr := CR_r.out.at hk2
      rw [rbR_step hk2] at he
      have hxk : elB P Q ([x0, x1].getD k 0) = true := two_all (p := fun x => elB P Q x = true) HX0.out HX1.out hk2
      have hek : 0 ≤ [e0, e1].getD k 0 ∧ [e0, e1].getD k 0 < Q := two_all (p := fun x => 0 ≤ x ∧ x < Q) HEE.out.1 HEE.out.2 hk2
      have hzk : 0 ≤ [z0, z1].getD k 0 ∧ [z0, z1].getD k 0 < Q := two_all (p := fun x => 0 ≤ x ∧ x < Q) HZZ.out.1 HZZ.out.2 hk2
      unfold okK at he
      generalize [x0, x1].getD k 0 = xk at *
      generalize [e0, e1].getD k 0 = ek at *
      generalize [z0, z1].getD k 0 = zk at *
      have hrk := rc_el HG.out HC.out k
      have hrr := el_sm HG.out hrk
      have hxr := el_rng hxk
      have hpw := pow_lt (rcV P Q G c k) ek P HPQ.out.1.1
      have EM0 := mul_two (b := Num.pow (rcV P Q G c k) ek P) hxr.1 hxr.2
      have HPP := Lib.hid (show ∀ z ∈ [xk, Num.pow (rcV P Q G c k) ek P], 0 ≤ z ∧ z < P from fun z hz => by
        simp only [List.mem_cons, List.not_mem_nil, or_false] at hz
        rcases hz with rfl | rfl
        · exact hxr
        · exact hpw)
      have HRr := Lib.hid hrr
      have HEr := Lib.hid hek
      have HZr := Lib.hid hzk
      obtain ⟨mv, hmv⟩ : ∃ m, xk * Num.pow (rcV P Q G c k) ek P % P = m := ⟨_, rfl⟩
      rw [hmv] at EM0 he
      obtain ⟨pw, hpe⟩ : ∃ m, Num.pow (rcV P Q G c k) ek P = m := ⟨_, rfl⟩
      rw [hpe] at EM0 HPP
      obtain ⟨rk, hre⟩ : ∃ m, rcV P Q G c k = m := ⟨_, rfl⟩
      rw [hre] at hpe HRr
      obtain ⟨pz, hpz⟩ : ∃ m, Num.pow H zk P = m := ⟨_, rfl⟩
      rw [hpz] at he
      have HPZ := Lib.hid hpz
      have HRK := Lib.hid hre
      have HPW := Lib.hid hpe
      have EM := Lib.hid EM0
      clear hpz hre hpe EM0 hmv hpw hxr hrr hrk hxk hek hzk
      cases hcmp : (pz == mv)
      · rw [hcmp, Bool.false_and] at he
        have HS := Lib.hid he
        have HN := Lib.hid (show (pz != mv) = true by rw [bne, hcmp]; rfl)
        clear he hcmp
        go_wp2_with fail
        refine wp_region_held_drew (S := (fun w' => ((w'.cell? ⟨w.heap.size, 0, none⟩ = some (.int .i64 P) ∧ w'.cell? ⟨w.heap.size, 1, none⟩ = some (.int .i64 Q) ∧ w'.cell? ⟨w.heap.size, 2, none⟩ = some (.int .i64 G)) ∧ (w'.cell? ⟨w.heap.size + 1, 0, none⟩ = some (.int .i64 H) ∧ w'.cell? ⟨w.heap.size + 1, 1, none⟩ = some (.slice ya hs.length yc))) ∧ (w'.cell? ⟨w.heap.size + 2, 0, none⟩ = some (.slice (some ⟨xb, xo, none⟩) 2 c1) ∧ w'.cell? ⟨w.heap.size + 2, 1, none⟩ = some (.slice (some ⟨eb, eo, none⟩) 2 c2) ∧ w'.cell? ⟨w.heap.size + 2, 2, none⟩ = some (.slice (some ⟨rb, ro, none⟩) 2 c3)) ∧ w'.cell? ⟨xb, xo + k, none⟩ = some (.int .i64 xk) ∧ w'.cell? ⟨eb, eo + k, none⟩ = some (.int .i64 ek) ∧ w'.cell? ⟨rb, ro + k, none⟩ = some (.int .i64 zk))) (by kernel_rfl) (show _ from ⟨⟨⟨G_r.out.1, G_r.out.2.1, G_r.out.2.2⟩, ⟨V_r.out.1, V_r.out.2⟩⟩, ⟨X_r.out.1, X_r.out.2.1, X_r.out.2.2.1⟩, hkx, hke, hkr⟩) (fun hHeld => ?_)
        refine wpAnyH_take (i := 0) (v := ?_) rfl (by kernel_rfl) (by kernel_rfl) (by kernel_rfl) (fun _ _ _ h => h) (Or.inl ⟨by kernel_rfl, ?_⟩) (by assumption) ?_
        rotate_left 1
        · intro w9 hSw
          try dsimp only at hSw
          go_simp
          try with_reducible rfl
        try simp only [Act.put, List.getElem_toArray, List.getElem_cons_succ, List.getElem_cons_zero, List.setIfInBounds_toArray, List.set_cons_zero, List.set_cons_succ]
        refine wpAnyH_take (i := 1) (v := ?_) rfl (by kernel_rfl) (by kernel_rfl) (by kernel_rfl) (fun _ _ _ h => h) (Or.inl ⟨by kernel_rfl, ?_⟩) (by assumption) ?_
        rotate_left 1
        · intro w9 hSw
          try dsimp only at hSw
          go_simp
          try with_reducible rfl
        try simp only [Act.put, List.getElem_toArray, List.getElem_cons_succ, List.getElem_cons_zero, List.setIfInBounds_toArray, List.set_cons_zero, List.set_cons_succ]
        refine wpAnyH_take (i := 2) (v := ?_) rfl (by kernel_rfl) (by kernel_rfl) (by kernel_rfl) (fun _ _ _ h => h) (Or.inl ⟨by kernel_rfl, ?_⟩) (by assumption) ?_
        rotate_left 1
        · intro w9 hSw
          try dsimp only at hSw
          go_simp
          try with_reducible rfl
        try simp only [Act.put, List.getElem_toArray, List.getElem_cons_succ, List.getElem_cons_zero, List.setIfInBounds_toArray, List.set_cons_zero, List.set_cons_succ]
        refine wpAnyH_take (i := 3) (v := ?_) rfl (by kernel_rfl) (by kernel_rfl) (by kernel_rfl) (fun _ _ _ h => h) (Or.inl ⟨by kernel_rfl, ?_⟩) (by assumption) ?_
        rotate_left 1
        · intro w9 hSw
          try dsimp only at hSw
          go_simp
          try with_reducible rfl
        try simp only [Act.put, List.getElem_toArray, List.getElem_cons_succ, List.getElem_cons_zero, List.setIfInBounds_toArray, List.set_cons_zero, List.set_cons_succ]
        refine wpAnyH_take (i := 4) (v := ?_) rfl (by kernel_rfl) (by kernel_rfl) (by kernel_rfl) (fun _ _ _ h => h) (Or.inl ⟨by kernel_rfl, ?_⟩) (by assumption) ?_
        rotate_left 1
        · intro w9 hSw
          try dsimp only at hSw
          go_simp
          try with_reducible rfl
        try simp only [Act.put, List.getElem_toArray, List.getElem_cons_succ, List.getElem_cons_zero, List.setIfInBounds_toArray, List.set_cons_zero, List.set_cons_succ]
        refine wpAnyH_take (i := 5) (v := ?_) rfl (by kernel_rfl) (by kernel_rfl) (by kernel_rfl) (fun _ _ _ h => h) (Or.inl ⟨by kernel_rfl, ?_⟩) (by assumption) ?_
        rotate_left 1
        · intro w9 hSw
          try dsimp only at hSw
          go_simp
          try with_reducible rfl
        try simp only [Act.put, List.getElem_toArray, List.getElem_cons_succ, List.getElem_cons_zero, List.setIfInBounds_toArray, List.set_cons_zero, List.set_cons_succ]
        refine wpAnyH_take (i := 6) (v := ?_) rfl (by kernel_rfl) (by kernel_rfl) (by kernel_rfl) (fun _ _ _ h => h) (Or.inl ⟨by kernel_rfl, ?_⟩) (by assumption) ?_
        rotate_left 1
        · intro w9 hSw
          try dsimp only at hSw
          go_simp
          try with_reducible rfl
        try simp only [Act.put, List.getElem_toArray, List.getElem_cons_succ, List.getElem_cons_zero, List.setIfInBounds_toArray, List.set_cons_zero, List.set_cons_succ]
        refine wpAnyH_take (i := 7) (v := ?_) rfl (by kernel_rfl) (by kernel_rfl) (by kernel_rfl) (fun _ _ _ h => h) (Or.inl ⟨by kernel_rfl, ?_⟩) (by assumption) ?_
        rotate_left 1
        · intro w9 hSw
          try dsimp only at hSw
          go_simp
          try with_reducible rfl
        try simp only [Act.put, List.getElem_toArray, List.getElem_cons_succ, List.getElem_cons_zero, List.setIfInBounds_toArray, List.set_cons_zero, List.set_cons_succ]
        refine wpAnyH_take (i := 9) (v := ?_) rfl (by kernel_rfl) (by kernel_rfl) (by kernel_rfl) (fun _ _ _ h => h) (Or.inl ⟨by kernel_rfl, ?_⟩) (by assumption) ?_
        rotate_left 1
        · intro w9 hSw
          try dsimp only at hSw
          go_simp
          try with_reducible rfl
        try simp only [Act.put, List.getElem_toArray, List.getElem_cons_succ, List.getElem_cons_zero, List.setIfInBounds_toArray, List.set_cons_zero, List.set_cons_succ]
        refine wpAnyH_take (i := 10) (v := ?_) rfl (by kernel_rfl) (by kernel_rfl) (by kernel_rfl) (fun _ _ _ h => h) (Or.inl ⟨by kernel_rfl, ?_⟩) (by assumption) ?_
        rotate_left 1
        · intro w9 hSw
          try dsimp only at hSw
          go_simp
          try with_reducible rfl
        try simp only [Act.put, List.getElem_toArray, List.getElem_cons_succ, List.getElem_cons_zero, List.setIfInBounds_toArray, List.set_cons_zero, List.set_cons_succ]
        refine wpAnyH_take (i := 11) (v := ?_) rfl (by kernel_rfl) (by kernel_rfl) (by kernel_rfl) (fun _ _ _ h => h) (Or.inl ⟨by kernel_rfl, ?_⟩) (by assumption) ?_
        rotate_left 1
        · intro w9 hSw
          try dsimp only at hSw
          go_simp
          try with_reducible rfl
        try simp only [Act.put, List.getElem_toArray, List.getElem_cons_succ, List.getElem_cons_zero, List.setIfInBounds_toArray, List.set_cons_zero, List.set_cons_succ]
        refine wpAnyH_take (i := 12) (v := ?_) rfl (by kernel_rfl) (by kernel_rfl) (by kernel_rfl) (fun _ _ _ h => h) (Or.inl ⟨by kernel_rfl, ?_⟩) (by assumption) ?_
        rotate_left 1
        · intro w9 hSw
          try dsimp only at hSw
          go_simp
          try with_reducible rfl
        try simp only [Act.put, List.getElem_toArray, List.getElem_cons_succ, List.getElem_cons_zero, List.setIfInBounds_toArray, List.set_cons_zero, List.set_cons_succ]
        refine wpAnyH_take (i := 13) (v := ?_) rfl (by kernel_rfl) (by kernel_rfl) (by kernel_rfl) (fun _ _ _ h => h) (Or.inl ⟨by kernel_rfl, ?_⟩) (by assumption) ?_
        rotate_left 1
        · intro w9 hSw
          try dsimp only at hSw
          go_simp
          try with_reducible rfl
        try simp only [Act.put, List.getElem_toArray, List.getElem_cons_succ, List.getElem_cons_zero, List.setIfInBounds_toArray, List.set_cons_zero, List.set_cons_succ]
        refine wpAnyH_take (i := 14) (v := ?_) rfl (by kernel_rfl) (by kernel_rfl) (by kernel_rfl) (fun _ _ _ h => h) (Or.inl ⟨by kernel_rfl, ?_⟩) (by assumption) ?_
        rotate_left 1
        · intro w9 hSw
          try dsimp only at hSw
          go_simp
          try with_reducible rfl
        try simp only [Act.put, List.getElem_toArray, List.getElem_cons_succ, List.getElem_cons_zero, List.setIfInBounds_toArray, List.set_cons_zero, List.set_cons_succ]
        refine wpAnyH_take (i := 15) (v := ?_) rfl (by kernel_rfl) (by kernel_rfl) (by kernel_rfl) (fun _ _ _ h => h) (Or.inl ⟨by kernel_rfl, ?_⟩) (by assumption) ?_
        rotate_left 1
        · intro w9 hSw
          try dsimp only at hSw
          go_simp
          try with_reducible rfl
        try simp only [Act.put, List.getElem_toArray, List.getElem_cons_succ, List.getElem_cons_zero, List.setIfInBounds_toArray, List.set_cons_zero, List.set_cons_succ]
        refine wpAnyH_take (i := 16) (v := ?_) rfl (by kernel_rfl) (by kernel_rfl) (by kernel_rfl) (fun _ _ _ h => h) (Or.inl ⟨by kernel_rfl, ?_⟩) (by assumption) ?_
        rotate_left 1
        · intro w9 hSw
          try dsimp only at hSw
          go_simp
          try with_reducible rfl
        try simp only [Act.put, List.getElem_toArray, List.getElem_cons_succ, List.getElem_cons_zero, List.setIfInBounds_toArray, List.set_cons_zero, List.set_cons_succ]
        refine wpAnyH_take (i := 17) (v := ?_) rfl (by kernel_rfl) (by kernel_rfl) (by kernel_rfl) (fun _ _ _ h => h) (Or.inl ⟨by kernel_rfl, ?_⟩) (by assumption) ?_
        rotate_left 1
        · intro w9 hSw
          try dsimp only at hSw
          go_simp
          try with_reducible rfl
        try simp only [Act.put, List.getElem_toArray, List.getElem_cons_succ, List.getElem_cons_zero, List.setIfInBounds_toArray, List.set_cons_zero, List.set_cons_succ]
        refine wpAnyH_take (i := 18) (v := ?_) rfl (by kernel_rfl) (by kernel_rfl) (by kernel_rfl) (fun _ _ _ h => h) (Or.inl ⟨by kernel_rfl, ?_⟩) (by assumption) ?_
        rotate_left 1
        · intro w9 hSw
          try dsimp only at hSw
          go_simp
          try with_reducible rfl
        try simp only [Act.put, List.getElem_toArray, List.getElem_cons_succ, List.getElem_cons_zero, List.setIfInBounds_toArray, List.set_cons_zero, List.set_cons_succ]
        refine wpAnyH_take (i := 20) (v := ?_) rfl (by kernel_rfl) (by kernel_rfl) (by kernel_rfl) (fun _ _ _ h => h) (Or.inl ⟨by kernel_rfl, ?_⟩) (by assumption) ?_
        rotate_left 1
        · intro w9 hSw
          try dsimp only at hSw
          go_simp
          try with_reducible rfl
        try simp only [Act.put, List.getElem_toArray, List.getElem_cons_succ, List.getElem_cons_zero, List.setIfInBounds_toArray, List.set_cons_zero, List.set_cons_succ]
        refine wpAnyH_take (i := 21) (v := ?_) rfl (by kernel_rfl) (by kernel_rfl) (by kernel_rfl) (fun _ _ _ h => h) (Or.inl ⟨by kernel_rfl, ?_⟩) (by assumption) ?_
        rotate_left 1
        · intro w9 hSw
          try dsimp only at hSw
          go_simp
          try with_reducible rfl
        try simp only [Act.put, List.getElem_toArray, List.getElem_cons_succ, List.getElem_cons_zero, List.setIfInBounds_toArray, List.set_cons_zero, List.set_cons_succ]
        refine wpAnyH_take (i := 22) (v := ?_) rfl (by kernel_rfl) (by kernel_rfl) (by kernel_rfl) (fun _ _ _ h => h) (Or.inl ⟨by kernel_rfl, ?_⟩) (by assumption) ?_
        rotate_left 1
        · intro w9 hSw
          try dsimp only at hSw
          go_simp
          try with_reducible rfl
        try simp only [Act.put, List.getElem_toArray, List.getElem_cons_succ, List.getElem_cons_zero, List.setIfInBounds_toArray, List.set_cons_zero, List.set_cons_succ]
        refine wpAnyH_take (i := 23) (v := ?_) rfl (by kernel_rfl) (by kernel_rfl) (by kernel_rfl) (fun _ _ _ h => h) (Or.inl ⟨by kernel_rfl, ?_⟩) (by assumption) ?_
        rotate_left 1
        · intro w9 hSw
          try dsimp only at hSw
          go_simp
          try with_reducible rfl
        try simp only [Act.put, List.getElem_toArray, List.getElem_cons_succ, List.getElem_cons_zero, List.setIfInBounds_toArray, List.set_cons_zero, List.set_cons_succ]
        refine wpAnyH_take (i := 24) (v := ?_) rfl (by kernel_rfl) (by kernel_rfl) (by kernel_rfl) (fun _ _ _ h => h) (Or.inl ⟨by kernel_rfl, ?_⟩) (by assumption) ?_
        rotate_left 1
        · intro w9 hSw
          try dsimp only at hSw
          go_simp
          try with_reducible rfl
        try simp only [Act.put, List.getElem_toArray, List.getElem_cons_succ, List.getElem_cons_zero, List.setIfInBounds_toArray, List.set_cons_zero, List.set_cons_succ]
        have hB0 : (fun w1 => (Below w.heap.size w w1) ∧ (GR w1 w.heap.size P Q G) ∧ (D2 w1 (w.heap.size + 1) (.int .i64 H) (.slice ya hs.length yc)) ∧ (B3 w1 (w.heap.size + 2) (.slice (some ⟨xb, xo, none⟩) 2 c1) (.slice (some ⟨eb, eo, none⟩) 2 c2) (.slice (some ⟨rb, ro, none⟩) 2 c3)) ∧ (InI B w1 (.slice ya hs.length yc) hs) ∧ (w1.cell? ⟨xb, xo + k, none⟩ = some (.int .i64 xk)) ∧ (w1.cell? ⟨eb, eo + k, none⟩ = some (.int .i64 ek)) ∧ (w1.cell? ⟨rb, ro + k, none⟩ = some (.int .i64 zk)) ∧ (CC w1 xb xo x0 x1) ∧ (CC w1 eb eo e0 e1) ∧ (CC w1 rb ro z0 z1)) wr.drew := ⟨HB_r.out.drew, G_r.out.drew, V_r.out.drew, X_r.out.drew, Y_r.out.dr, hkx, hke, hkr, CX_r.out, CE_r.out, CR_r.out⟩
        refine wpAnyH_part (V := fun i u w1 => cond (Nat.beq i 8) (u = .int .i64 pz) (cond (Nat.beq i 19) (u = .int .i64 rk) (cond (Nat.beq i 25) (u = .int .i64 pw) (cond (Nat.beq i 26) (∃ (b26 : Nat), u = .slice (some ⟨b26, 0, none⟩) 2 2 ∧ (IsInts w1 (some ⟨b26, 0, none⟩) [xk, pw])) (cond (Nat.beq i 27) (u = .int .i64 mv) (cond (Nat.beq i 28) (u = .bool true) (True))))))) (B := fun w1 => (Below w.heap.size w w1) ∧ (GR w1 w.heap.size P Q G) ∧ (D2 w1 (w.heap.size + 1) (.int .i64 H) (.slice ya hs.length yc)) ∧ (B3 w1 (w.heap.size + 2) (.slice (some ⟨xb, xo, none⟩) 2 c1) (.slice (some ⟨eb, eo, none⟩) 2 c2) (.slice (some ⟨rb, ro, none⟩) 2 c3)) ∧ (InI B w1 (.slice ya hs.length yc) hs) ∧ (w1.cell? ⟨xb, xo + k, none⟩ = some (.int .i64 xk)) ∧ (w1.cell? ⟨eb, eo + k, none⟩ = some (.int .i64 ek)) ∧ (w1.cell? ⟨rb, ro + k, none⟩ = some (.int .i64 zk)) ∧ (CC w1 xb xo x0 x1) ∧ (CC w1 eb eo e0 e1) ∧ (CC w1 rb ro z0 z1)) (R := fun w1 w2 => Below w1.heap.size w1 w2) 0 (rs := [8, 19, 25, 26, 27, 28]) (ds := [(8, some 26), (19, some 37), (25, some 43), (26, some 44), (27, some 45), (28, some 46)]) (by kernel_rfl) (by kernel_rfl) (by kernel_rfl) (by kernel_rfl) (by kernel_rfl) ?_ ?_ ?_ hB0 ?_ ?_
        · intro w1 w2 hB hR
          clear hB0
          obtain ⟨b_HBb, b_Gb, b_Vb, b_Xb, b_Yb, b_KX, b_KE, b_KR, b_CXb, b_CEb, b_CRb⟩ := hB
          exact ⟨bt b_HBb hR, b_Gb.below hR, b_Vb.below hR, b_Xb.below hR, b_Yb.below hR, cellUp hR b_KX, cellUp hR b_KE, cellUp hR b_KR, b_CXb.below hR, b_CEb.below hR, b_CRb.below hR⟩
        · clear hB0
          refine Last.cons (fun u w1 w2 hB h hR => ?_) ?_
          · have h1 : u = .int .i64 pz := h
            show u = .int .i64 pz
            exact h1
          refine Last.cons (fun u w1 w2 hB h hR => ?_) ?_
          · have h1 : u = .int .i64 rk := h
            show u = .int .i64 rk
            exact h1
          refine Last.cons (fun u w1 w2 hB h hR => ?_) ?_
          · have h1 : u = .int .i64 pw := h
            show u = .int .i64 pw
            exact h1
          refine Last.cons (fun u w1 w2 hB h hR => ?_) ?_
          · have h1 : ∃ (b26 : Nat), u = .slice (some ⟨b26, 0, none⟩) 2 2 ∧ (IsInts w1 (some ⟨b26, 0, none⟩) [xk, pw]) := h
            show ∃ (b26 : Nat), u = .slice (some ⟨b26, 0, none⟩) 2 2 ∧ (IsInts w2 (some ⟨b26, 0, none⟩) [xk, pw])
            obtain ⟨b26, e, f0⟩ := h1
            exact ⟨b26, e, f0.below hR (Nat.le_refl _)⟩
          refine Last.cons (fun u w1 w2 hB h hR => ?_) ?_
          · have h1 : u = .int .i64 mv := h
            show u = .int .i64 mv
            exact h1
          refine Last.cons (fun u w1 w2 hB h hR => ?_) ?_
          · have h1 : u = .bool true := h
            show u = .bool true
            exact h1
          exact Last.nil
        · intro w1 hB
          clear hB0
          obtain ⟨b_HBb, b_Gb, b_Vb, b_Xb, b_Yb, b_KX, b_KE, b_KR, b_CXb, b_CEb, b_CRb⟩ := hB
          have HBb := Lib.hid (show Below w.heap.size w w1 from b_HBb)
          have Gb := Lib.hid (show GR w1 w.heap.size P Q G from b_Gb)
          have Vb := Lib.hid (show D2 w1 (w.heap.size + 1) (.int .i64 H) (.slice ya hs.length yc) from b_Vb)
          have Xb := Lib.hid (show B3 w1 (w.heap.size + 2) (.slice (some ⟨xb, xo, none⟩) 2 c1) (.slice (some ⟨eb, eo, none⟩) 2 c2) (.slice (some ⟨rb, ro, none⟩) 2 c3) from b_Xb)
          have Yb := Lib.hid (show InI B w1 (.slice ya hs.length yc) hs from b_Yb)
          have KX := Lib.hid (show w1.cell? ⟨xb, xo + k, none⟩ = some (.int .i64 xk) from b_KX)
          have KE := Lib.hid (show w1.cell? ⟨eb, eo + k, none⟩ = some (.int .i64 ek) from b_KE)
          have KR := Lib.hid (show w1.cell? ⟨rb, ro + k, none⟩ = some (.int .i64 zk) from b_KR)
          have CXb := Lib.hid (show CC w1 xb xo x0 x1 from b_CXb)
          have CEb := Lib.hid (show CC w1 eb eo e0 e1 from b_CEb)
          have CRb := Lib.hid (show CC w1 rb ro z0 z1 from b_CRb)
          clear b_HBb b_Gb b_Vb b_Xb b_Yb b_KX b_KE b_KR b_CXb b_CEb b_CRb
          exact ⟨⟨⟨Gb.out.1, Gb.out.2.1, Gb.out.2.2⟩, ⟨Vb.out.1, Vb.out.2⟩⟩, ⟨Xb.out.1, Xb.out.2.1, Xb.out.2.2.1⟩, KX.out, KE.out, KR.out⟩
        · clear hB0 hHeld
          refine Steps.cons rfl (js := []) (by kernel_rfl) rfl (fun v W1 hB hF Q9 K hK => ?_) ?_
          · obtain ⟨b_HBb, b_Gb, b_Vb, b_Xb, b_Yb, b_KX, b_KE, b_KR, b_CXb, b_CEb, b_CRb⟩ := hB
            have HBb := Lib.hid (show Below w.heap.size w W1 from b_HBb)
            have Gb := Lib.hid (show GR W1 w.heap.size P Q G from b_Gb)
            have Vb := Lib.hid (show D2 W1 (w.heap.size + 1) (.int .i64 H) (.slice ya hs.length yc) from b_Vb)
            have Xb := Lib.hid (show B3 W1 (w.heap.size + 2) (.slice (some ⟨xb, xo, none⟩) 2 c1) (.slice (some ⟨eb, eo, none⟩) 2 c2) (.slice (some ⟨rb, ro, none⟩) 2 c3) from b_Xb)
            have Yb := Lib.hid (show InI B W1 (.slice ya hs.length yc) hs from b_Yb)
            have KX := Lib.hid (show W1.cell? ⟨xb, xo + k, none⟩ = some (.int .i64 xk) from b_KX)
            have KE := Lib.hid (show W1.cell? ⟨eb, eo + k, none⟩ = some (.int .i64 ek) from b_KE)
            have KR := Lib.hid (show W1.cell? ⟨rb, ro + k, none⟩ = some (.int .i64 zk) from b_KR)
            have CXb := Lib.hid (show CC W1 xb xo x0 x1 from b_CXb)
            have CEb := Lib.hid (show CC W1 eb eo e0 e1 from b_CEb)
            have CRb := Lib.hid (show CC W1 rb ro z0 z1 from b_CRb)
            clear b_HBb b_Gb b_Vb b_Xb b_Yb b_KX b_KE b_KR b_CXb b_CEb b_CRb
            clear hF
            refine ⟨?_⟩
            simp only [putAll, Act.put, List.setIfInBounds_toArray, List.set_cons_succ, List.set_cons_zero]
            go_simp
            go_at_call 64
            refine (gExp_any P Q G H zk HHr.out.1 HHr.out.2 HZr.out.1 HZr.out.2 HPQ.out.1.1 HPQ.out.1.2 HPQ.out.2.1 HPQ.out.2.2 _).mono ?_
            rw [HPZ.out]
            rintro e' W2 ⟨rfl, hb⟩
            go_wp2_with fail
            have hk := hK.out
            simp only [putAll, Act.put, List.setIfInBounds_toArray, List.set_cons_succ, List.set_cons_zero] at hk
            refine hk _ _ ?_ ?_
            · show (_ : Value) = .int .i64 pz
              exact rfl
            · exact hb
          refine Steps.cons rfl (js := [8]) (by kernel_rfl) rfl (fun v W1 hB hF Q9 K hK => ?_) ?_
          · obtain ⟨b_HBb, b_Gb, b_Vb, b_Xb, b_Yb, b_KX, b_KE, b_KR, b_CXb, b_CEb, b_CRb⟩ := hB
            have HBb := Lib.hid (show Below w.heap.size w W1 from b_HBb)
            have Gb := Lib.hid (show GR W1 w.heap.size P Q G from b_Gb)
            have Vb := Lib.hid (show D2 W1 (w.heap.size + 1) (.int .i64 H) (.slice ya hs.length yc) from b_Vb)
            have Xb := Lib.hid (show B3 W1 (w.heap.size + 2) (.slice (some ⟨xb, xo, none⟩) 2 c1) (.slice (some ⟨eb, eo, none⟩) 2 c2) (.slice (some ⟨rb, ro, none⟩) 2 c3) from b_Xb)
            have Yb := Lib.hid (show InI B W1 (.slice ya hs.length yc) hs from b_Yb)
            have KX := Lib.hid (show W1.cell? ⟨xb, xo + k, none⟩ = some (.int .i64 xk) from b_KX)
            have KE := Lib.hid (show W1.cell? ⟨eb, eo + k, none⟩ = some (.int .i64 ek) from b_KE)
            have KR := Lib.hid (show W1.cell? ⟨rb, ro + k, none⟩ = some (.int .i64 zk) from b_KR)
            have CXb := Lib.hid (show CC W1 xb xo x0 x1 from b_CXb)
            have CEb := Lib.hid (show CC W1 eb eo e0 e1 from b_CEb)
            have CRb := Lib.hid (show CC W1 rb ro z0 z1 from b_CRb)
            clear b_HBb b_Gb b_Vb b_Xb b_Yb b_KX b_KE b_KR b_CXb b_CEb b_CRb
            have hf8 : v 8 = .int .i64 pz := hF.1
            have e8 := hf8
            have E8 := Lib.hid e8
            clear e8 hf8
            clear hF
            refine ⟨?_⟩
            simp only [putAll, Act.put, List.setIfInBounds_toArray, List.set_cons_succ, List.set_cons_zero, E8.out]
            go_simp
            go_at_call 85
            refine (rCase_any P Q G c HG.out HC.out k hk2 _).mono ?_
            rw [HRK.out]
            rintro e' W2 ⟨rfl, hb⟩
            go_wp2_with fail
            have hk := hK.out
            simp only [putAll, Act.put, List.setIfInBounds_toArray, List.set_cons_succ, List.set_cons_zero, E8.out] at hk
            refine hk _ _ ?_ ?_
            · show (_ : Value) = .int .i64 rk
              exact rfl
            · exact hb
          refine Steps.cons rfl (js := [19, 19]) (by kernel_rfl) rfl (fun v W1 hB hF Q9 K hK => ?_) ?_
          · obtain ⟨b_HBb, b_Gb, b_Vb, b_Xb, b_Yb, b_KX, b_KE, b_KR, b_CXb, b_CEb, b_CRb⟩ := hB
            have HBb := Lib.hid (show Below w.heap.size w W1 from b_HBb)
            have Gb := Lib.hid (show GR W1 w.heap.size P Q G from b_Gb)
            have Vb := Lib.hid (show D2 W1 (w.heap.size + 1) (.int .i64 H) (.slice ya hs.length yc) from b_Vb)
            have Xb := Lib.hid (show B3 W1 (w.heap.size + 2) (.slice (some ⟨xb, xo, none⟩) 2 c1) (.slice (some ⟨eb, eo, none⟩) 2 c2) (.slice (some ⟨rb, ro, none⟩) 2 c3) from b_Xb)
            have Yb := Lib.hid (show InI B W1 (.slice ya hs.length yc) hs from b_Yb)
            have KX := Lib.hid (show W1.cell? ⟨xb, xo + k, none⟩ = some (.int .i64 xk) from b_KX)
            have KE := Lib.hid (show W1.cell? ⟨eb, eo + k, none⟩ = some (.int .i64 ek) from b_KE)
            have KR := Lib.hid (show W1.cell? ⟨rb, ro + k, none⟩ = some (.int .i64 zk) from b_KR)
            have CXb := Lib.hid (show CC W1 xb xo x0 x1 from b_CXb)
            have CEb := Lib.hid (show CC W1 eb eo e0 e1 from b_CEb)
            have CRb := Lib.hid (show CC W1 rb ro z0 z1 from b_CRb)
            clear b_HBb b_Gb b_Vb b_Xb b_Yb b_KX b_KE b_KR b_CXb b_CEb b_CRb
            have hf19 : v 19 = .int .i64 rk := hF.1
            have e19 := hf19
            have E19 := Lib.hid e19
            clear e19 hf19
            clear hF
            refine ⟨?_⟩
            simp only [putAll, Act.put, List.setIfInBounds_toArray, List.set_cons_succ, List.set_cons_zero, E19.out]
            go_simp
            go_at_call 64
            refine (gExp_any P Q G rk ek HRr.out.1 HRr.out.2 HEr.out.1 HEr.out.2 HPQ.out.1.1 HPQ.out.1.2 HPQ.out.2.1 HPQ.out.2.2 _).mono ?_
            rw [HPW.out]
            rintro e' W2 ⟨rfl, hb⟩
            go_wp2_with fail
            have hk := hK.out
            simp only [putAll, Act.put, List.setIfInBounds_toArray, List.set_cons_succ, List.set_cons_zero, E19.out] at hk
            refine hk _ _ ?_ ?_
            · show (_ : Value) = .int .i64 pw
              exact rfl
            · exact hb
          refine Steps.cons rfl (js := [25]) (by kernel_rfl) rfl (fun v W1 hB hF Q9 K hK => ?_) ?_
          · obtain ⟨b_HBb, b_Gb, b_Vb, b_Xb, b_Yb, b_KX, b_KE, b_KR, b_CXb, b_CEb, b_CRb⟩ := hB
            have HBb := Lib.hid (show Below w.heap.size w W1 from b_HBb)
            have Gb := Lib.hid (show GR W1 w.heap.size P Q G from b_Gb)
            have Vb := Lib.hid (show D2 W1 (w.heap.size + 1) (.int .i64 H) (.slice ya hs.length yc) from b_Vb)
            have Xb := Lib.hid (show B3 W1 (w.heap.size + 2) (.slice (some ⟨xb, xo, none⟩) 2 c1) (.slice (some ⟨eb, eo, none⟩) 2 c2) (.slice (some ⟨rb, ro, none⟩) 2 c3) from b_Xb)
            have Yb := Lib.hid (show InI B W1 (.slice ya hs.length yc) hs from b_Yb)
            have KX := Lib.hid (show W1.cell? ⟨xb, xo + k, none⟩ = some (.int .i64 xk) from b_KX)
            have KE := Lib.hid (show W1.cell? ⟨eb, eo + k, none⟩ = some (.int .i64 ek) from b_KE)
            have KR := Lib.hid (show W1.cell? ⟨rb, ro + k, none⟩ = some (.int .i64 zk) from b_KR)
            have CXb := Lib.hid (show CC W1 xb xo x0 x1 from b_CXb)
            have CEb := Lib.hid (show CC W1 eb eo e0 e1 from b_CEb)
            have CRb := Lib.hid (show CC W1 rb ro z0 z1 from b_CRb)
            clear b_HBb b_Gb b_Vb b_Xb b_Yb b_KX b_KE b_KR b_CXb b_CEb b_CRb
            have hf25 : v 25 = .int .i64 pw := hF.1
            have e25 := hf25
            have E25 := Lib.hid e25
            clear e25 hf25
            clear hF
            refine ⟨?_⟩
            simp only [putAll, Act.put, List.setIfInBounds_toArray, List.set_cons_succ, List.set_cons_zero, E25.out]
            go_simp
            have hk := hK.out
            simp only [putAll, Act.put, List.setIfInBounds_toArray, List.set_cons_succ, List.set_cons_zero, E25.out] at hk
            refine hk _ _ ?_ ?_
            · show ∃ (b26 : Nat), (_ : Value) = .slice (some ⟨b26, 0, none⟩) 2 2 ∧ (IsInts (W1.alloc (.cells #[.int .i64 xk, .int .i64 pw] 3)) (some ⟨b26, 0, none⟩) [xk, pw])
              exact ⟨_, rfl, ints_spot W1 _ rfl [xk, pw] 3⟩
            · exact (ba _ _)
          refine Steps.cons rfl (js := [26, 25]) (by kernel_rfl) rfl (fun v W1 hB hF Q9 K hK => ?_) ?_
          · obtain ⟨b_HBb, b_Gb, b_Vb, b_Xb, b_Yb, b_KX, b_KE, b_KR, b_CXb, b_CEb, b_CRb⟩ := hB
            have HBb := Lib.hid (show Below w.heap.size w W1 from b_HBb)
            have Gb := Lib.hid (show GR W1 w.heap.size P Q G from b_Gb)
            have Vb := Lib.hid (show D2 W1 (w.heap.size + 1) (.int .i64 H) (.slice ya hs.length yc) from b_Vb)
            have Xb := Lib.hid (show B3 W1 (w.heap.size + 2) (.slice (some ⟨xb, xo, none⟩) 2 c1) (.slice (some ⟨eb, eo, none⟩) 2 c2) (.slice (some ⟨rb, ro, none⟩) 2 c3) from b_Xb)
            have Yb := Lib.hid (show InI B W1 (.slice ya hs.length yc) hs from b_Yb)
            have KX := Lib.hid (show W1.cell? ⟨xb, xo + k, none⟩ = some (.int .i64 xk) from b_KX)
            have KE := Lib.hid (show W1.cell? ⟨eb, eo + k, none⟩ = some (.int .i64 ek) from b_KE)
            have KR := Lib.hid (show W1.cell? ⟨rb, ro + k, none⟩ = some (.int .i64 zk) from b_KR)
            have CXb := Lib.hid (show CC W1 xb xo x0 x1 from b_CXb)
            have CEb := Lib.hid (show CC W1 eb eo e0 e1 from b_CEb)
            have CRb := Lib.hid (show CC W1 rb ro z0 z1 from b_CRb)
            clear b_HBb b_Gb b_Vb b_Xb b_Yb b_KX b_KE b_KR b_CXb b_CEb b_CRb
            have hf26 : ∃ (b26 : Nat), v 26 = .slice (some ⟨b26, 0, none⟩) 2 2 ∧ (IsInts W1 (some ⟨b26, 0, none⟩) [xk, pw]) := hF.1
            obtain ⟨b26, e26, f26_0⟩ := hf26
            have E26 := Lib.hid e26
            have L26 := Lib.hid (show IsInts W1 (some ⟨b26, 0, none⟩) [xk, pw] from f26_0)
            clear e26 f26_0
            have hf25 : v 25 = .int .i64 pw := hF.2.1
            have e25 := hf25
            have E25 := Lib.hid e25
            clear e25 hf25
            clear hF
            refine ⟨?_⟩
            simp only [putAll, Act.put, List.setIfInBounds_toArray, List.set_cons_succ, List.set_cons_zero, E26.out, E25.out]
            go_simp
            go_at_call 74
            refine (gMul_any P Q G _ 2 2 [xk, pw] rfl (by decide) HPQ.out.1.1 HPQ.out.1.2 HPP.out _ L26.out).mono ?_
            rw [EM.out]
            rintro e' W2 ⟨rfl, hb⟩
            go_wp2_with fail
            have hk := hK.out
            simp only [putAll, Act.put, List.setIfInBounds_toArray, List.set_cons_succ, List.set_cons_zero, E26.out, E25.out] at hk
            refine hk _ _ ?_ ?_
            · show (_ : Value) = .int .i64 mv
              exact rfl
            · exact hb
          refine Steps.cons rfl (js := [8, 27]) (by kernel_rfl) rfl (fun v W1 hB hF Q9 K hK => ?_) ?_
          · obtain ⟨b_HBb, b_Gb, b_Vb, b_Xb, b_Yb, b_KX, b_KE, b_KR, b_CXb, b_CEb, b_CRb⟩ := hB
            have HBb := Lib.hid (show Below w.heap.size w W1 from b_HBb)
            have Gb := Lib.hid (show GR W1 w.heap.size P Q G from b_Gb)
            have Vb := Lib.hid (show D2 W1 (w.heap.size + 1) (.int .i64 H) (.slice ya hs.length yc) from b_Vb)
            have Xb := Lib.hid (show B3 W1 (w.heap.size + 2) (.slice (some ⟨xb, xo, none⟩) 2 c1) (.slice (some ⟨eb, eo, none⟩) 2 c2) (.slice (some ⟨rb, ro, none⟩) 2 c3) from b_Xb)
            have Yb := Lib.hid (show InI B W1 (.slice ya hs.length yc) hs from b_Yb)
            have KX := Lib.hid (show W1.cell? ⟨xb, xo + k, none⟩ = some (.int .i64 xk) from b_KX)
            have KE := Lib.hid (show W1.cell? ⟨eb, eo + k, none⟩ = some (.int .i64 ek) from b_KE)
            have KR := Lib.hid (show W1.cell? ⟨rb, ro + k, none⟩ = some (.int .i64 zk) from b_KR)
            have CXb := Lib.hid (show CC W1 xb xo x0 x1 from b_CXb)
            have CEb := Lib.hid (show CC W1 eb eo e0 e1 from b_CEb)
            have CRb := Lib.hid (show CC W1 rb ro z0 z1 from b_CRb)
            clear b_HBb b_Gb b_Vb b_Xb b_Yb b_KX b_KE b_KR b_CXb b_CEb b_CRb
            have hf8 : v 8 = .int .i64 pz := hF.1
            have e8 := hf8
            have E8 := Lib.hid e8
            clear e8 hf8
            have hf27 : v 27 = .int .i64 mv := hF.2.1
            have e27 := hf27
            have E27 := Lib.hid e27
            clear e27 hf27
            clear hF
            refine ⟨?_⟩
            simp only [putAll, Act.put, List.setIfInBounds_toArray, List.set_cons_succ, List.set_cons_zero, E8.out, E27.out]
            go_simp
            have hk := hK.out
            simp only [putAll, Act.put, List.setIfInBounds_toArray, List.set_cons_succ, List.set_cons_zero, E8.out, E27.out] at hk
            refine hk _ _ ?_ ?_
            · show (_ : Value) = .bool true
              exact (congrArg Value.bool HN.out)
            · exact (Below.refl _ _)
          exact Steps.nil
        intro v We hB hF
        clear hB0 hHeld
        obtain ⟨b_HBb, b_Gb, b_Vb, b_Xb, b_Yb, b_KX, b_KE, b_KR, b_CXb, b_CEb, b_CRb⟩ := hB
        have HBb := Lib.hid (show Below w.heap.size w We from b_HBb)
        have Gb := Lib.hid (show GR We w.heap.size P Q G from b_Gb)
        have Vb := Lib.hid (show D2 We (w.heap.size + 1) (.int .i64 H) (.slice ya hs.length yc) from b_Vb)
        have Xb := Lib.hid (show B3 We (w.heap.size + 2) (.slice (some ⟨xb, xo, none⟩) 2 c1) (.slice (some ⟨eb, eo, none⟩) 2 c2) (.slice (some ⟨rb, ro, none⟩) 2 c3) from b_Xb)
        have Yb := Lib.hid (show InI B We (.slice ya hs.length yc) hs from b_Yb)
        have KX := Lib.hid (show We.cell? ⟨xb, xo + k, none⟩ = some (.int .i64 xk) from b_KX)
        have KE := Lib.hid (show We.cell? ⟨eb, eo + k, none⟩ = some (.int .i64 ek) from b_KE)
        have KR := Lib.hid (show We.cell? ⟨rb, ro + k, none⟩ = some (.int .i64 zk) from b_KR)
        have CXb := Lib.hid (show CC We xb xo x0 x1 from b_CXb)
        have CEb := Lib.hid (show CC We eb eo e0 e1 from b_CEb)
        have CRb := Lib.hid (show CC We rb ro z0 z1 from b_CRb)
        clear b_HBb b_Gb b_Vb b_Xb b_Yb b_KX b_KE b_KR b_CXb b_CEb b_CRb
        have hf8 : v 8 = .int .i64 pz := hF.1
        have e8 := hf8
        have E8 := Lib.hid e8
        clear e8 hf8
        have hf19 : v 19 = .int .i64 rk := hF.2.1
        have e19 := hf19
        have E19 := Lib.hid e19
        clear e19 hf19
        have hf25 : v 25 = .int .i64 pw := hF.2.2.1
        have e25 := hf25
        have E25 := Lib.hid e25
        clear e25 hf25
        have hf26 : ∃ (b26 : Nat), v 26 = .slice (some ⟨b26, 0, none⟩) 2 2 ∧ (IsInts We (some ⟨b26, 0, none⟩) [xk, pw]) := hF.2.2.2.1
        obtain ⟨b26, e26, f26_0⟩ := hf26
        have E26 := Lib.hid e26
        have L26 := Lib.hid (show IsInts We (some ⟨b26, 0, none⟩) [xk, pw] from f26_0)
        clear e26 f26_0
        have hf27 : v 27 = .int .i64 mv := hF.2.2.2.2.1
        have e27 := hf27
        have E27 := Lib.hid e27
        clear e27 hf27
        have hf28 : v 28 = .bool true := hF.2.2.2.2.2.1
        have e28 := hf28
        have E28 := Lib.hid e28
        clear e28 hf28
        clear hF
        refine ⟨?_⟩
        simp only [putAll, Act.put, List.setIfInBounds_toArray, List.set_cons_succ, List.set_cons_zero, E8.out, E19.out, E25.out, E26.out, E27.out, E28.out]
        refine wpAnyH_done (by kernel_rfl) ?_ _
        go_wp2
        go_ret
        refine ⟨?_, HBb.out⟩
        rw [HS.out]
        rfl
      · rw [hcmp, Bool.true_and] at he
        have HS := Lib.hid he
        have HN := Lib.hid (show (pz != mv) = false by rw [bne, hcmp]; rfl)
        clear he hcmp
        go_wp2_with fail
        refine wp_region_held_drew (S := (fun w' => ((w'.cell? ⟨w.heap.size, 0, none⟩ = some (.int .i64 P) ∧ w'.cell? ⟨w.heap.size, 1, none⟩ = some (.int .i64 Q) ∧ w'.cell? ⟨w.heap.size, 2, none⟩ = some (.int .i64 G)) ∧ (w'.cell? ⟨w.heap.size + 1, 0, none⟩ = some (.int .i64 H) ∧ w'.cell? ⟨w.heap.size + 1, 1, none⟩ = some (.slice ya hs.length yc))) ∧ (w'.cell? ⟨w.heap.size + 2, 0, none⟩ = some (.slice (some ⟨xb, xo, none⟩) 2 c1) ∧ w'.cell? ⟨w.heap.size + 2, 1, none⟩ = some (.slice (some ⟨eb, eo, none⟩) 2 c2) ∧ w'.cell? ⟨w.heap.size + 2, 2, none⟩ = some (.slice (some ⟨rb, ro, none⟩) 2 c3)) ∧ w'.cell? ⟨xb, xo + k, none⟩ = some (.int .i64 xk) ∧ w'.cell? ⟨eb, eo + k, none⟩ = some (.int .i64 ek) ∧ w'.cell? ⟨rb, ro + k, none⟩ = some (.int .i64 zk))) (by kernel_rfl) (show _ from ⟨⟨⟨G_r.out.1, G_r.out.2.1, G_r.out.2.2⟩, ⟨V_r.out.1, V_r.out.2⟩⟩, ⟨X_r.out.1, X_r.out.2.1, X_r.out.2.2.1⟩, hkx, hke, hkr⟩) (fun hHeld => ?_)
        refine wpAnyH_take (i := 0) (v := ?_) rfl (by kernel_rfl) (by kernel_rfl) (by kernel_rfl) (fun _ _ _ h => h) (Or.inl ⟨by kernel_rfl, ?_⟩) (by assumption) ?_
        rotate_left 1
        · intro w9 hSw
          try dsimp only at hSw
          go_simp
          try with_reducible rfl
        try simp only [Act.put, List.getElem_toArray, List.getElem_cons_succ, List.getElem_cons_zero, List.setIfInBounds_toArray, List.set_cons_zero, List.set_cons_succ]
        refine wpAnyH_take (i := 1) (v := ?_) rfl (by kernel_rfl) (by kernel_rfl) (by kernel_rfl) (fun _ _ _ h => h) (Or.inl ⟨by kernel_rfl, ?_⟩) (by assumption) ?_
        rotate_left 1
        · intro w9 hSw
          try dsimp only at hSw
          go_simp
          try with_reducible rfl
        try simp only [Act.put, List.getElem_toArray, List.getElem_cons_succ, List.getElem_cons_zero, List.setIfInBounds_toArray, List.set_cons_zero, List.set_cons_succ]
        refine wpAnyH_take (i := 2) (v := ?_) rfl (by kernel_rfl) (by kernel_rfl) (by kernel_rfl) (fun _ _ _ h => h) (Or.inl ⟨by kernel_rfl, ?_⟩) (by assumption) ?_
        rotate_left 1
        · intro w9 hSw
          try dsimp only at hSw
          go_simp
          try with_reducible rfl
        try simp only [Act.put, List.getElem_toArray, List.getElem_cons_succ, List.getElem_cons_zero, List.setIfInBounds_toArray, List.set_cons_zero, List.set_cons_succ]
        refine wpAnyH_take (i := 3) (v := ?_) rfl (by kernel_rfl) (by kernel_rfl) (by kernel_rfl) (fun _ _ _ h => h) (Or.inl ⟨by kernel_rfl, ?_⟩) (by assumption) ?_
        rotate_left 1
        · intro w9 hSw
          try dsimp only at hSw
          go_simp
          try with_reducible rfl
        try simp only [Act.put, List.getElem_toArray, List.getElem_cons_succ, List.getElem_cons_zero, List.setIfInBounds_toArray, List.set_cons_zero, List.set_cons_succ]
        refine wpAnyH_take (i := 4) (v := ?_) rfl (by kernel_rfl) (by kernel_rfl) (by kernel_rfl) (fun _ _ _ h => h) (Or.inl ⟨by kernel_rfl, ?_⟩) (by assumption) ?_
        rotate_left 1
        · intro w9 hSw
          try dsimp only at hSw
          go_simp
          try with_reducible rfl
        try simp only [Act.put, List.getElem_toArray, List.getElem_cons_succ, List.getElem_cons_zero, List.setIfInBounds_toArray, List.set_cons_zero, List.set_cons_succ]
        refine wpAnyH_take (i := 5) (v := ?_) rfl (by kernel_rfl) (by kernel_rfl) (by kernel_rfl) (fun _ _ _ h => h) (Or.inl ⟨by kernel_rfl, ?_⟩) (by assumption) ?_
        rotate_left 1
        · intro w9 hSw
          try dsimp only at hSw
          go_simp
          try with_reducible rfl
        try simp only [Act.put, List.getElem_toArray, List.getElem_cons_succ, List.getElem_cons_zero, List.setIfInBounds_toArray, List.set_cons_zero, List.set_cons_succ]
        refine wpAnyH_take (i := 6) (v := ?_) rfl (by kernel_rfl) (by kernel_rfl) (by kernel_rfl) (fun _ _ _ h => h) (Or.inl ⟨by kernel_rfl, ?_⟩) (by assumption) ?_
        rotate_left 1
        · intro w9 hSw
          try dsimp only at hSw
          go_simp
          try with_reducible rfl
        try simp only [Act.put, List.getElem_toArray, List.getElem_cons_succ, List.getElem_cons_zero, List.setIfInBounds_toArray, List.set_cons_zero, List.set_cons_succ]
        refine wpAnyH_take (i := 7) (v := ?_) rfl (by kernel_rfl) (by kernel_rfl) (by kernel_rfl) (fun _ _ _ h => h) (Or.inl ⟨by kernel_rfl, ?_⟩) (by assumption) ?_
        rotate_left 1
        · intro w9 hSw
          try dsimp only at hSw
          go_simp
          try with_reducible rfl
        try simp only [Act.put, List.getElem_toArray, List.getElem_cons_succ, List.getElem_cons_zero, List.setIfInBounds_toArray, List.set_cons_zero, List.set_cons_succ]
        refine wpAnyH_take (i := 9) (v := ?_) rfl (by kernel_rfl) (by kernel_rfl) (by kernel_rfl) (fun _ _ _ h => h) (Or.inl ⟨by kernel_rfl, ?_⟩) (by assumption) ?_
        rotate_left 1
        · intro w9 hSw
          try dsimp only at hSw
          go_simp
          try with_reducible rfl
        try simp only [Act.put, List.getElem_toArray, List.getElem_cons_succ, List.getElem_cons_zero, List.setIfInBounds_toArray, List.set_cons_zero, List.set_cons_succ]
        refine wpAnyH_take (i := 10) (v := ?_) rfl (by kernel_rfl) (by kernel_rfl) (by kernel_rfl) (fun _ _ _ h => h) (Or.inl ⟨by kernel_rfl, ?_⟩) (by assumption) ?_
        rotate_left 1
        · intro w9 hSw
          try dsimp only at hSw
          go_simp
          try with_reducible rfl
        try simp only [Act.put, List.getElem_toArray, List.getElem_cons_succ, List.getElem_cons_zero, List.setIfInBounds_toArray, List.set_cons_zero, List.set_cons_succ]
        refine wpAnyH_take (i := 11) (v := ?_) rfl (by kernel_rfl) (by kernel_rfl) (by kernel_rfl) (fun _ _ _ h => h) (Or.inl ⟨by kernel_rfl, ?_⟩) (by assumption) ?_
        rotate_left 1
        · intro w9 hSw
          try dsimp only at hSw
          go_simp
          try with_reducible rfl
        try simp only [Act.put, List.getElem_toArray, List.getElem_cons_succ, List.getElem_cons_zero, List.setIfInBounds_toArray, List.set_cons_zero, List.set_cons_succ]
        refine wpAnyH_take (i := 12) (v := ?_) rfl (by kernel_rfl) (by kernel_rfl) (by kernel_rfl) (fun _ _ _ h => h) (Or.inl ⟨by kernel_rfl, ?_⟩) (by assumption) ?_
        rotate_left 1
        · intro w9 hSw
          try dsimp only at hSw
          go_simp
          try with_reducible rfl
        try simp only [Act.put, List.getElem_toArray, List.getElem_cons_succ, List.getElem_cons_zero, List.setIfInBounds_toArray, List.set_cons_zero, List.set_cons_succ]
        refine wpAnyH_take (i := 13) (v := ?_) rfl (by kernel_rfl) (by kernel_rfl) (by kernel_rfl) (fun _ _ _ h => h) (Or.inl ⟨by kernel_rfl, ?_⟩) (by assumption) ?_
        rotate_left 1
        · intro w9 hSw
          try dsimp only at hSw
          go_simp
          try with_reducible rfl
        try simp only [Act.put, List.getElem_toArray, List.getElem_cons_succ, List.getElem_cons_zero, List.setIfInBounds_toArray, List.set_cons_zero, List.set_cons_succ]
        refine wpAnyH_take (i := 14) (v := ?_) rfl (by kernel_rfl) (by kernel_rfl) (by kernel_rfl) (fun _ _ _ h => h) (Or.inl ⟨by kernel_rfl, ?_⟩) (by assumption) ?_
        rotate_left 1
        · intro w9 hSw
          try dsimp only at hSw
          go_simp
          try with_reducible rfl
        try simp only [Act.put, List.getElem_toArray, List.getElem_cons_succ, List.getElem_cons_zero, List.setIfInBounds_toArray, List.set_cons_zero, List.set_cons_succ]
        refine wpAnyH_take (i := 15) (v := ?_) rfl (by kernel_rfl) (by kernel_rfl) (by kernel_rfl) (fun _ _ _ h => h) (Or.inl ⟨by kernel_rfl, ?_⟩) (by assumption) ?_
        rotate_left 1
        · intro w9 hSw
          try dsimp only at hSw
          go_simp
          try with_reducible rfl
        try simp only [Act.put, List.getElem_toArray, List.getElem_cons_succ, List.getElem_cons_zero, List.setIfInBounds_toArray, List.set_cons_zero, List.set_cons_succ]
        refine wpAnyH_take (i := 16) (v := ?_) rfl (by kernel_rfl) (by kernel_rfl) (by kernel_rfl) (fun _ _ _ h => h) (Or.inl ⟨by kernel_rfl, ?_⟩) (by assumption) ?_
        rotate_left 1
        · intro w9 hSw
          try dsimp only at hSw
          go_simp
          try with_reducible rfl
        try simp only [Act.put, List.getElem_toArray, List.getElem_cons_succ, List.getElem_cons_zero, List.setIfInBounds_toArray, List.set_cons_zero, List.set_cons_succ]
        refine wpAnyH_take (i := 17) (v := ?_) rfl (by kernel_rfl) (by kernel_rfl) (by kernel_rfl) (fun _ _ _ h => h) (Or.inl ⟨by kernel_rfl, ?_⟩) (by assumption) ?_
        rotate_left 1
        · intro w9 hSw
          try dsimp only at hSw
          go_simp
          try with_reducible rfl
        try simp only [Act.put, List.getElem_toArray, List.getElem_cons_succ, List.getElem_cons_zero, List.setIfInBounds_toArray, List.set_cons_zero, List.set_cons_succ]
        refine wpAnyH_take (i := 18) (v := ?_) rfl (by kernel_rfl) (by kernel_rfl) (by kernel_rfl) (fun _ _ _ h => h) (Or.inl ⟨by kernel_rfl, ?_⟩) (by assumption) ?_
        rotate_left 1
        · intro w9 hSw
          try dsimp only at hSw
          go_simp
          try with_reducible rfl
        try simp only [Act.put, List.getElem_toArray, List.getElem_cons_succ, List.getElem_cons_zero, List.setIfInBounds_toArray, List.set_cons_zero, List.set_cons_succ]
        refine wpAnyH_take (i := 20) (v := ?_) rfl (by kernel_rfl) (by kernel_rfl) (by kernel_rfl) (fun _ _ _ h => h) (Or.inl ⟨by kernel_rfl, ?_⟩) (by assumption) ?_
        rotate_left 1
        · intro w9 hSw
          try dsimp only at hSw
          go_simp
          try with_reducible rfl
        try simp only [Act.put, List.getElem_toArray, List.getElem_cons_succ, List.getElem_cons_zero, List.setIfInBounds_toArray, List.set_cons_zero, List.set_cons_succ]
        refine wpAnyH_take (i := 21) (v := ?_) rfl (by kernel_rfl) (by kernel_rfl) (by kernel_rfl) (fun _ _ _ h => h) (Or.inl ⟨by kernel_rfl, ?_⟩) (by assumption) ?_
        rotate_left 1
        · intro w9 hSw
          try dsimp only at hSw
          go_simp
          try with_reducible rfl
        try simp only [Act.put, List.getElem_toArray, List.getElem_cons_succ, List.getElem_cons_zero, List.setIfInBounds_toArray, List.set_cons_zero, List.set_cons_succ]
        refine wpAnyH_take (i := 22) (v := ?_) rfl (by kernel_rfl) (by kernel_rfl) (by kernel_rfl) (fun _ _ _ h => h) (Or.inl ⟨by kernel_rfl, ?_⟩) (by assumption) ?_
        rotate_left 1
        · intro w9 hSw
          try dsimp only at hSw
          go_simp
          try with_reducible rfl
        try simp only [Act.put, List.getElem_toArray, List.getElem_cons_succ, List.getElem_cons_zero, List.setIfInBounds_toArray, List.set_cons_zero, List.set_cons_succ]
        refine wpAnyH_take (i := 23) (v := ?_) rfl (by kernel_rfl) (by kernel_rfl) (by kernel_rfl) (fun _ _ _ h => h) (Or.inl ⟨by kernel_rfl, ?_⟩) (by assumption) ?_
        rotate_left 1
        · intro w9 hSw
          try dsimp only at hSw
          go_simp
          try with_reducible rfl
        try simp only [Act.put, List.getElem_toArray, List.getElem_cons_succ, List.getElem_cons_zero, List.setIfInBounds_toArray, List.set_cons_zero, List.set_cons_succ]
        refine wpAnyH_take (i := 24) (v := ?_) rfl (by kernel_rfl) (by kernel_rfl) (by kernel_rfl) (fun _ _ _ h => h) (Or.inl ⟨by kernel_rfl, ?_⟩) (by assumption) ?_
        rotate_left 1
        · intro w9 hSw
          try dsimp only at hSw
          go_simp
          try with_reducible rfl
        try simp only [Act.put, List.getElem_toArray, List.getElem_cons_succ, List.getElem_cons_zero, List.setIfInBounds_toArray, List.set_cons_zero, List.set_cons_succ]
        have hB0 : (fun w1 => (Below w.heap.size w w1) ∧ (GR w1 w.heap.size P Q G) ∧ (D2 w1 (w.heap.size + 1) (.int .i64 H) (.slice ya hs.length yc)) ∧ (B3 w1 (w.heap.size + 2) (.slice (some ⟨xb, xo, none⟩) 2 c1) (.slice (some ⟨eb, eo, none⟩) 2 c2) (.slice (some ⟨rb, ro, none⟩) 2 c3)) ∧ (InI B w1 (.slice ya hs.length yc) hs) ∧ (w1.cell? ⟨xb, xo + k, none⟩ = some (.int .i64 xk)) ∧ (w1.cell? ⟨eb, eo + k, none⟩ = some (.int .i64 ek)) ∧ (w1.cell? ⟨rb, ro + k, none⟩ = some (.int .i64 zk)) ∧ (CC w1 xb xo x0 x1) ∧ (CC w1 eb eo e0 e1) ∧ (CC w1 rb ro z0 z1)) wr.drew := ⟨HB_r.out.drew, G_r.out.drew, V_r.out.drew, X_r.out.drew, Y_r.out.dr, hkx, hke, hkr, CX_r.out, CE_r.out, CR_r.out⟩
        refine wpAnyH_part (V := fun i u w1 => cond (Nat.beq i 8) (u = .int .i64 pz) (cond (Nat.beq i 19) (u = .int .i64 rk) (cond (Nat.beq i 25) (u = .int .i64 pw) (cond (Nat.beq i 26) (∃ (b26 : Nat), u = .slice (some ⟨b26, 0, none⟩) 2 2 ∧ (IsInts w1 (some ⟨b26, 0, none⟩) [xk, pw])) (cond (Nat.beq i 27) (u = .int .i64 mv) (cond (Nat.beq i 28) (u = .bool false) (True))))))) (B := fun w1 => (Below w.heap.size w w1) ∧ (GR w1 w.heap.size P Q G) ∧ (D2 w1 (w.heap.size + 1) (.int .i64 H) (.slice ya hs.length yc)) ∧ (B3 w1 (w.heap.size + 2) (.slice (some ⟨xb, xo, none⟩) 2 c1) (.slice (some ⟨eb, eo, none⟩) 2 c2) (.slice (some ⟨rb, ro, none⟩) 2 c3)) ∧ (InI B w1 (.slice ya hs.length yc) hs) ∧ (w1.cell? ⟨xb, xo + k, none⟩ = some (.int .i64 xk)) ∧ (w1.cell? ⟨eb, eo + k, none⟩ = some (.int .i64 ek)) ∧ (w1.cell? ⟨rb, ro + k, none⟩ = some (.int .i64 zk)) ∧ (CC w1 xb xo x0 x1) ∧ (CC w1 eb eo e0 e1) ∧ (CC w1 rb ro z0 z1)) (R := fun w1 w2 => Below w1.heap.size w1 w2) 0 (rs := [8, 19, 25, 26, 27, 28]) (ds := [(8, some 26), (19, some 37), (25, some 43), (26, some 44), (27, some 45), (28, some 46)]) (by kernel_rfl) (by kernel_rfl) (by kernel_rfl) (by kernel_rfl) (by kernel_rfl) ?_ ?_ ?_ hB0 ?_ ?_
        · intro w1 w2 hB hR
          clear hB0
          obtain ⟨b_HBb, b_Gb, b_Vb, b_Xb, b_Yb, b_KX, b_KE, b_KR, b_CXb, b_CEb, b_CRb⟩ := hB
          exact ⟨bt b_HBb hR, b_Gb.below hR, b_Vb.below hR, b_Xb.below hR, b_Yb.below hR, cellUp hR b_KX, cellUp hR b_KE, cellUp hR b_KR, b_CXb.below hR, b_CEb.below hR, b_CRb.below hR⟩
        · clear hB0
          refine Last.cons (fun u w1 w2 hB h hR => ?_) ?_
          · have h1 : u = .int .i64 pz := h
            show u = .int .i64 pz
            exact h1
          refine Last.cons (fun u w1 w2 hB h hR => ?_) ?_
          · have h1 : u = .int .i64 rk := h
            show u = .int .i64 rk
            exact h1
          refine Last.cons (fun u w1 w2 hB h hR => ?_) ?_
          · have h1 : u = .int .i64 pw := h
            show u = .int .i64 pw
            exact h1
          refine Last.cons (fun u w1 w2 hB h hR => ?_) ?_
          · have h1 : ∃ (b26 : Nat), u = .slice (some ⟨b26, 0, none⟩) 2 2 ∧ (IsInts w1 (some ⟨b26, 0, none⟩) [xk, pw]) := h
            show ∃ (b26 : Nat), u = .slice (some ⟨b26, 0, none⟩) 2 2 ∧ (IsInts w2 (some ⟨b26, 0, none⟩) [xk, pw])
            obtain ⟨b26, e, f0⟩ := h1
            exact ⟨b26, e, f0.below hR (Nat.le_refl _)⟩
          refine Last.cons (fun u w1 w2 hB h hR => ?_) ?_
          · have h1 : u = .int .i64 mv := h
            show u = .int .i64 mv
            exact h1
          refine Last.cons (fun u w1 w2 hB h hR => ?_) ?_
          · have h1 : u = .bool false := h
            show u = .bool false
            exact h1
          exact Last.nil
        · intro w1 hB
          clear hB0
          obtain ⟨b_HBb, b_Gb, b_Vb, b_Xb, b_Yb, b_KX, b_KE, b_KR, b_CXb, b_CEb, b_CRb⟩ := hB
          have HBb := Lib.hid (show Below w.heap.size w w1 from b_HBb)
          have Gb := Lib.hid (show GR w1 w.heap.size P Q G from b_Gb)
          have Vb := Lib.hid (show D2 w1 (w.heap.size + 1) (.int .i64 H) (.slice ya hs.length yc) from b_Vb)
          have Xb := Lib.hid (show B3 w1 (w.heap.size + 2) (.slice (some ⟨xb, xo, none⟩) 2 c1) (.slice (some ⟨eb, eo, none⟩) 2 c2) (.slice (some ⟨rb, ro, none⟩) 2 c3) from b_Xb)
          have Yb := Lib.hid (show InI B w1 (.slice ya hs.length yc) hs from b_Yb)
          have KX := Lib.hid (show w1.cell? ⟨xb, xo + k, none⟩ = some (.int .i64 xk) from b_KX)
          have KE := Lib.hid (show w1.cell? ⟨eb, eo + k, none⟩ = some (.int .i64 ek) from b_KE)
          have KR := Lib.hid (show w1.cell? ⟨rb, ro + k, none⟩ = some (.int .i64 zk) from b_KR)
          have CXb := Lib.hid (show CC w1 xb xo x0 x1 from b_CXb)
          have CEb := Lib.hid (show CC w1 eb eo e0 e1 from b_CEb)
          have CRb := Lib.hid (show CC w1 rb ro z0 z1 from b_CRb)
          clear b_HBb b_Gb b_Vb b_Xb b_Yb b_KX b_KE b_KR b_CXb b_CEb b_CRb
          exact ⟨⟨⟨Gb.out.1, Gb.out.2.1, Gb.out.2.2⟩, ⟨Vb.out.1, Vb.out.2⟩⟩, ⟨Xb.out.1, Xb.out.2.1, Xb.out.2.2.1⟩, KX.out, KE.out, KR.out⟩
        · clear hB0 hHeld
          refine Steps.cons rfl (js := []) (by kernel_rfl) rfl (fun v W1 hB hF Q9 K hK => ?_) ?_
          · obtain ⟨b_HBb, b_Gb, b_Vb, b_Xb, b_Yb, b_KX, b_KE, b_KR, b_CXb, b_CEb, b_CRb⟩ := hB
            have HBb := Lib.hid (show Below w.heap.size w W1 from b_HBb)
            have Gb := Lib.hid (show GR W1 w.heap.size P Q G from b_Gb)
            have Vb := Lib.hid (show D2 W1 (w.heap.size + 1) (.int .i64 H) (.slice ya hs.length yc) from b_Vb)
            have Xb := Lib.hid (show B3 W1 (w.heap.size + 2) (.slice (some ⟨xb, xo, none⟩) 2 c1) (.slice (some ⟨eb, eo, none⟩) 2 c2) (.slice (some ⟨rb, ro, none⟩) 2 c3) from b_Xb)
            have Yb := Lib.hid (show InI B W1 (.slice ya hs.length yc) hs from b_Yb)
            have KX := Lib.hid (show W1.cell? ⟨xb, xo + k, none⟩ = some (.int .i64 xk) from b_KX)
            have KE := Lib.hid (show W1.cell? ⟨eb, eo + k, none⟩ = some (.int .i64 ek) from b_KE)
            have KR := Lib.hid (show W1.cell? ⟨rb, ro + k, none⟩ = some (.int .i64 zk) from b_KR)
            have CXb := Lib.hid (show CC W1 xb xo x0 x1 from b_CXb)
            have CEb := Lib.hid (show CC W1 eb eo e0 e1 from b_CEb)
            have CRb := Lib.hid (show CC W1 rb ro z0 z1 from b_CRb)
            clear b_HBb b_Gb b_Vb b_Xb b_Yb b_KX b_KE b_KR b_CXb b_CEb b_CRb
            clear hF
            refine ⟨?_⟩
            simp only [putAll, Act.put, List.setIfInBounds_toArray, List.set_cons_succ, List.set_cons_zero]
            go_simp
            go_at_call 64
            refine (gExp_any P Q G H zk HHr.out.1 HHr.out.2 HZr.out.1 HZr.out.2 HPQ.out.1.1 HPQ.out.1.2 HPQ.out.2.1 HPQ.out.2.2 _).mono ?_
            rw [HPZ.out]
            rintro e' W2 ⟨rfl, hb⟩
            go_wp2_with fail
            have hk := hK.out
            simp only [putAll, Act.put, List.setIfInBounds_toArray, List.set_cons_succ, List.set_cons_zero] at hk
            refine hk _ _ ?_ ?_
            · show (_ : Value) = .int .i64 pz
              exact rfl
            · exact hb
          refine Steps.cons rfl (js := [8]) (by kernel_rfl) rfl (fun v W1 hB hF Q9 K hK => ?_) ?_
          · obtain ⟨b_HBb, b_Gb, b_Vb, b_Xb, b_Yb, b_KX, b_KE, b_KR, b_CXb, b_CEb, b_CRb⟩ := hB
            have HBb := Lib.hid (show Below w.heap.size w W1 from b_HBb)
            have Gb := Lib.hid (show GR W1 w.heap.size P Q G from b_Gb)
            have Vb := Lib.hid (show D2 W1 (w.heap.size + 1) (.int .i64 H) (.slice ya hs.length yc) from b_Vb)
            have Xb := Lib.hid (show B3 W1 (w.heap.size + 2) (.slice (some ⟨xb, xo, none⟩) 2 c1) (.slice (some ⟨eb, eo, none⟩) 2 c2) (.slice (some ⟨rb, ro, none⟩) 2 c3) from b_Xb)
            have Yb := Lib.hid (show InI B W1 (.slice ya hs.length yc) hs from b_Yb)
            have KX := Lib.hid (show W1.cell? ⟨xb, xo + k, none⟩ = some (.int .i64 xk) from b_KX)
            have KE := Lib.hid (show W1.cell? ⟨eb, eo + k, none⟩ = some (.int .i64 ek) from b_KE)
            have KR := Lib.hid (show W1.cell? ⟨rb, ro + k, none⟩ = some (.int .i64 zk) from b_KR)
            have CXb := Lib.hid (show CC W1 xb xo x0 x1 from b_CXb)
            have CEb := Lib.hid (show CC W1 eb eo e0 e1 from b_CEb)
            have CRb := Lib.hid (show CC W1 rb ro z0 z1 from b_CRb)
            clear b_HBb b_Gb b_Vb b_Xb b_Yb b_KX b_KE b_KR b_CXb b_CEb b_CRb
            have hf8 : v 8 = .int .i64 pz := hF.1
            have e8 := hf8
            have E8 := Lib.hid e8
            clear e8 hf8
            clear hF
            refine ⟨?_⟩
            simp only [putAll, Act.put, List.setIfInBounds_toArray, List.set_cons_succ, List.set_cons_zero, E8.out]
            go_simp
            go_at_call 85
            refine (rCase_any P Q G c HG.out HC.out k hk2 _).mono ?_
            rw [HRK.out]
            rintro e' W2 ⟨rfl, hb⟩
            go_wp2_with fail
            have hk := hK.out
            simp only [putAll, Act.put, List.setIfInBounds_toArray, List.set_cons_succ, List.set_cons_zero, E8.out] at hk
            refine hk _ _ ?_ ?_
            · show (_ : Value) = .int .i64 rk
              exact rfl
            · exact hb
          refine Steps.cons rfl (js := [19, 19]) (by kernel_rfl) rfl (fun v W1 hB hF Q9 K hK => ?_) ?_
          · obtain ⟨b_HBb, b_Gb, b_Vb, b_Xb, b_Yb, b_KX, b_KE, b_KR, b_CXb, b_CEb, b_CRb⟩ := hB
            have HBb := Lib.hid (show Below w.heap.size w W1 from b_HBb)
            have Gb := Lib.hid (show GR W1 w.heap.size P Q G from b_Gb)
            have Vb := Lib.hid (show D2 W1 (w.heap.size + 1) (.int .i64 H) (.slice ya hs.length yc) from b_Vb)
            have Xb := Lib.hid (show B3 W1 (w.heap.size + 2) (.slice (some ⟨xb, xo, none⟩) 2 c1) (.slice (some ⟨eb, eo, none⟩) 2 c2) (.slice (some ⟨rb, ro, none⟩) 2 c3) from b_Xb)
            have Yb := Lib.hid (show InI B W1 (.slice ya hs.length yc) hs from b_Yb)
            have KX := Lib.hid (show W1.cell? ⟨xb, xo + k, none⟩ = some (.int .i64 xk) from b_KX)
            have KE := Lib.hid (show W1.cell? ⟨eb, eo + k, none⟩ = some (.int .i64 ek) from b_KE)
            have KR := Lib.hid (show W1.cell? ⟨rb, ro + k, none⟩ = some (.int .i64 zk) from b_KR)
            have CXb := Lib.hid (show CC W1 xb xo x0 x1 from b_CXb)
            have CEb := Lib.hid (show CC W1 eb eo e0 e1 from b_CEb)
            have CRb := Lib.hid (show CC W1 rb ro z0 z1 from b_CRb)
            clear b_HBb b_Gb b_Vb b_Xb b_Yb b_KX b_KE b_KR b_CXb b_CEb b_CRb
            have hf19 : v 19 = .int .i64 rk := hF.1
            have e19 := hf19
            have E19 := Lib.hid e19
            clear e19 hf19
            clear hF
            refine ⟨?_⟩
            simp only [putAll, Act.put, List.setIfInBounds_toArray, List.set_cons_succ, List.set_cons_zero, E19.out]
            go_simp
            go_at_call 64
            refine (gExp_any P Q G rk ek HRr.out.1 HRr.out.2 HEr.out.1 HEr.out.2 HPQ.out.1.1 HPQ.out.1.2 HPQ.out.2.1 HPQ.out.2.2 _).mono ?_
            rw [HPW.out]
            rintro e' W2 ⟨rfl, hb⟩
            go_wp2_with fail
            have hk := hK.out
            simp only [putAll, Act.put, List.setIfInBounds_toArray, List.set_cons_succ, List.set_cons_zero, E19.out] at hk
            refine hk _ _ ?_ ?_
            · show (_ : Value) = .int .i64 pw
              exact rfl
            · exact hb
          refine Steps.cons rfl (js := [25]) (by kernel_rfl) rfl (fun v W1 hB hF Q9 K hK => ?_) ?_
          · obtain ⟨b_HBb, b_Gb, b_Vb, b_Xb, b_Yb, b_KX, b_KE, b_KR, b_CXb, b_CEb, b_CRb⟩ := hB
            have HBb := Lib.hid (show Below w.heap.size w W1 from b_HBb)
            have Gb := Lib.hid (show GR W1 w.heap.size P Q G from b_Gb)
            have Vb := Lib.hid (show D2 W1 (w.heap.size + 1) (.int .i64 H) (.slice ya hs.length yc) from b_Vb)
            have Xb := Lib.hid (show B3 W1 (w.heap.size + 2) (.slice (some ⟨xb, xo, none⟩) 2 c1) (.slice (some ⟨eb, eo, none⟩) 2 c2) (.slice (some ⟨rb, ro, none⟩) 2 c3) from b_Xb)
            have Yb := Lib.hid (show InI B W1 (.slice ya hs.length yc) hs from b_Yb)
            have KX := Lib.hid (show W1.cell? ⟨xb, xo + k, none⟩ = some (.int .i64 xk) from b_KX)
            have KE := Lib.hid (show W1.cell? ⟨eb, eo + k, none⟩ = some (.int .i64 ek) from b_KE)
            have KR := Lib.hid (show W1.cell? ⟨rb, ro + k, none⟩ = some (.int .i64 zk) from b_KR)
            have CXb := Lib.hid (show CC W1 xb xo x0 x1 from b_CXb)
            have CEb := Lib.hid (show CC W1 eb eo e0 e1 from b_CEb)
            have CRb := Lib.hid (show CC W1 rb ro z0 z1 from b_CRb)
            clear b_HBb b_Gb b_Vb b_Xb b_Yb b_KX b_KE b_KR b_CXb b_CEb b_CRb
            have hf25 : v 25 = .int .i64 pw := hF.1
            have e25 := hf25
            have E25 := Lib.hid e25
            clear e25 hf25
            clear hF
            refine ⟨?_⟩
            simp only [putAll, Act.put, List.setIfInBounds_toArray, List.set_cons_succ, List.set_cons_zero, E25.out]
            go_simp
            have hk := hK.out
            simp only [putAll, Act.put, List.setIfInBounds_toArray, List.set_cons_succ, List.set_cons_zero, E25.out] at hk
            refine hk _ _ ?_ ?_
            · show ∃ (b26 : Nat), (_ : Value) = .slice (some ⟨b26, 0, none⟩) 2 2 ∧ (IsInts (W1.alloc (.cells #[.int .i64 xk, .int .i64 pw] 3)) (some ⟨b26, 0, none⟩) [xk, pw])
              exact ⟨_, rfl, ints_spot W1 _ rfl [xk, pw] 3⟩
            · exact (ba _ _)
          refine Steps.cons rfl (js := [26, 25]) (by kernel_rfl) rfl (fun v W1 hB hF Q9 K hK => ?_) ?_
          · obtain ⟨b_HBb, b_Gb, b_Vb, b_Xb, b_Yb, b_KX, b_KE, b_KR, b_CXb, b_CEb, b_CRb⟩ := hB
            have HBb := Lib.hid (show Below w.heap.size w W1 from b_HBb)
            have Gb := Lib.hid (show GR W1 w.heap.size P Q G from b_Gb)
            have Vb := Lib.hid (show D2 W1 (w.heap.size + 1) (.int .i64 H) (.slice ya hs.length yc) from b_Vb)
            have Xb := Lib.hid (show B3 W1 (w.heap.size + 2) (.slice (some ⟨xb, xo, none⟩) 2 c1) (.slice (some ⟨eb, eo, none⟩) 2 c2) (.slice (some ⟨rb, ro, none⟩) 2 c3) from b_Xb)
            have Yb := Lib.hid (show InI B W1 (.slice ya hs.length yc) hs from b_Yb)
            have KX := Lib.hid (show W1.cell? ⟨xb, xo + k, none⟩ = some (.int .i64 xk) from b_KX)
            have KE := Lib.hid (show W1.cell? ⟨eb, eo + k, none⟩ = some (.int .i64 ek) from b_KE)
            have KR := Lib.hid (show W1.cell? ⟨rb, ro + k, none⟩ = some (.int .i64 zk) from b_KR)
            have CXb := Lib.hid (show CC W1 xb xo x0 x1 from b_CXb)
            have CEb := Lib.hid (show CC W1 eb eo e0 e1 from b_CEb)
            have CRb := Lib.hid (show CC W1 rb ro z0 z1 from b_CRb)
            clear b_HBb b_Gb b_Vb b_Xb b_Yb b_KX b_KE b_KR b_CXb b_CEb b_CRb
            have hf26 : ∃ (b26 : Nat), v 26 = .slice (some ⟨b26, 0, none⟩) 2 2 ∧ (IsInts W1 (some ⟨b26, 0, none⟩) [xk, pw]) := hF.1
            obtain ⟨b26, e26, f26_0⟩ := hf26
            have E26 := Lib.hid e26
            have L26 := Lib.hid (show IsInts W1 (some ⟨b26, 0, none⟩) [xk, pw] from f26_0)
            clear e26 f26_0
            have hf25 : v 25 = .int .i64 pw := hF.2.1
            have e25 := hf25
            have E25 := Lib.hid e25
            clear e25 hf25
            clear hF
            refine ⟨?_⟩
            simp only [putAll, Act.put, List.setIfInBounds_toArray, List.set_cons_succ, List.set_cons_zero, E26.out, E25.out]
            go_simp
            go_at_call 74
            refine (gMul_any P Q G _ 2 2 [xk, pw] rfl (by decide) HPQ.out.1.1 HPQ.out.1.2 HPP.out _ L26.out).mono ?_
            rw [EM.out]
            rintro e' W2 ⟨rfl, hb⟩
            go_wp2_with fail
            have hk := hK.out
            simp only [putAll, Act.put, List.setIfInBounds_toArray, List.set_cons_succ, List.set_cons_zero, E26.out, E25.out] at hk
            refine hk _ _ ?_ ?_
            · show (_ : Value) = .int .i64 mv
              exact rfl
            · exact hb
          refine Steps.cons rfl (js := [8, 27]) (by kernel_rfl) rfl (fun v W1 hB hF Q9 K hK => ?_) ?_
          · obtain ⟨b_HBb, b_Gb, b_Vb, b_Xb, b_Yb, b_KX, b_KE, b_KR, b_CXb, b_CEb, b_CRb⟩ := hB
            have HBb := Lib.hid (show Below w.heap.size w W1 from b_HBb)
            have Gb := Lib.hid (show GR W1 w.heap.size P Q G from b_Gb)
            have Vb := Lib.hid (show D2 W1 (w.heap.size + 1) (.int .i64 H) (.slice ya hs.length yc) from b_Vb)
            have Xb := Lib.hid (show B3 W1 (w.heap.size + 2) (.slice (some ⟨xb, xo, none⟩) 2 c1) (.slice (some ⟨eb, eo, none⟩) 2 c2) (.slice (some ⟨rb, ro, none⟩) 2 c3) from b_Xb)
            have Yb := Lib.hid (show InI B W1 (.slice ya hs.length yc) hs from b_Yb)
            have KX := Lib.hid (show W1.cell? ⟨xb, xo + k, none⟩ = some (.int .i64 xk) from b_KX)
            have KE := Lib.hid (show W1.cell? ⟨eb, eo + k, none⟩ = some (.int .i64 ek) from b_KE)
            have KR := Lib.hid (show W1.cell? ⟨rb, ro + k, none⟩ = some (.int .i64 zk) from b_KR)
            have CXb := Lib.hid (show CC W1 xb xo x0 x1 from b_CXb)
            have CEb := Lib.hid (show CC W1 eb eo e0 e1 from b_CEb)
            have CRb := Lib.hid (show CC W1 rb ro z0 z1 from b_CRb)
            clear b_HBb b_Gb b_Vb b_Xb b_Yb b_KX b_KE b_KR b_CXb b_CEb b_CRb
            have hf8 : v 8 = .int .i64 pz := hF.1
            have e8 := hf8
            have E8 := Lib.hid e8
            clear e8 hf8
            have hf27 : v 27 = .int .i64 mv := hF.2.1
            have e27 := hf27
            have E27 := Lib.hid e27
            clear e27 hf27
            clear hF
            refine ⟨?_⟩
            simp only [putAll, Act.put, List.setIfInBounds_toArray, List.set_cons_succ, List.set_cons_zero, E8.out, E27.out]
            go_simp
            have hk := hK.out
            simp only [putAll, Act.put, List.setIfInBounds_toArray, List.set_cons_succ, List.set_cons_zero, E8.out, E27.out] at hk
            refine hk _ _ ?_ ?_
            · show (_ : Value) = .bool false
              exact (congrArg Value.bool HN.out)
            · exact (Below.refl _ _)
          exact Steps.nil
        intro v We hB hF
        clear hB0 hHeld
        obtain ⟨b_HBb, b_Gb, b_Vb, b_Xb, b_Yb, b_KX, b_KE, b_KR, b_CXb, b_CEb, b_CRb⟩ := hB
        have HBb := Lib.hid (show Below w.heap.size w We from b_HBb)
        have Gb := Lib.hid (show GR We w.heap.size P Q G from b_Gb)
        have Vb := Lib.hid (show D2 We (w.heap.size + 1) (.int .i64 H) (.slice ya hs.length yc) from b_Vb)
        have Xb := Lib.hid (show B3 We (w.heap.size + 2) (.slice (some ⟨xb, xo, none⟩) 2 c1) (.slice (some ⟨eb, eo, none⟩) 2 c2) (.slice (some ⟨rb, ro, none⟩) 2 c3) from b_Xb)
        have Yb := Lib.hid (show InI B We (.slice ya hs.length yc) hs from b_Yb)
        have KX := Lib.hid (show We.cell? ⟨xb, xo + k, none⟩ = some (.int .i64 xk) from b_KX)
        have KE := Lib.hid (show We.cell? ⟨eb, eo + k, none⟩ = some (.int .i64 ek) from b_KE)
        have KR := Lib.hid (show We.cell? ⟨rb, ro + k, none⟩ = some (.int .i64 zk) from b_KR)
        have CXb := Lib.hid (show CC We xb xo x0 x1 from b_CXb)
        have CEb := Lib.hid (show CC We eb eo e0 e1 from b_CEb)
        have CRb := Lib.hid (show CC We rb ro z0 z1 from b_CRb)
        clear b_HBb b_Gb b_Vb b_Xb b_Yb b_KX b_KE b_KR b_CXb b_CEb b_CRb
        have hf8 : v 8 = .int .i64 pz := hF.1
        have e8 := hf8
        have E8 := Lib.hid e8
        clear e8 hf8
        have hf19 : v 19 = .int .i64 rk := hF.2.1
        have e19 := hf19
        have E19 := Lib.hid e19
        clear e19 hf19
        have hf25 : v 25 = .int .i64 pw := hF.2.2.1
        have e25 := hf25
        have E25 := Lib.hid e25
        clear e25 hf25
        have hf26 : ∃ (b26 : Nat), v 26 = .slice (some ⟨b26, 0, none⟩) 2 2 ∧ (IsInts We (some ⟨b26, 0, none⟩) [xk, pw]) := hF.2.2.2.1
        obtain ⟨b26, e26, f26_0⟩ := hf26
        have E26 := Lib.hid e26
        have L26 := Lib.hid (show IsInts We (some ⟨b26, 0, none⟩) [xk, pw] from f26_0)
        clear e26 f26_0
        have hf27 : v 27 = .int .i64 mv := hF.2.2.2.2.1
        have e27 := hf27
        have E27 := Lib.hid e27
        clear e27 hf27
        have hf28 : v 28 = .bool false := hF.2.2.2.2.2.1
        have e28 := hf28
        have E28 := Lib.hid e28
        clear e28 hf28
        clear hF
        refine ⟨?_⟩
        simp only [putAll, Act.put, List.setIfInBounds_toArray, List.set_cons_succ, List.set_cons_zero, E8.out, E19.out, E25.out, E26.out, E27.out, E28.out]
        refine wpAnyH_done (by kernel_rfl) ?_ _
        go_wp2
        go_roundw
        case rel => exact ⟨k + 1, by omega, by go_num, HS.out, HBb.out, Gb.out, Vb.out, Xb.out, Yb.out, CXb.out, CEb.out, CRb.out⟩
        case measure => simp only [intOf]; omega
    · obtain rfl : k = 2 := by omega
      have hee := HEE.out
      have hw0 : IntKind.i64.wrap (e0 + e1) = e0 + e1 := by rw [IntKind.wrap_i64]; have := HPQ.out.2; omega
      have hb0 : 0 ≤ e0 + e1 ∧ e0 + e1 ≤ 9000000000000000000 := by have := HPQ.out.2; omega
      obtain ⟨em, hem⟩ : ∃ m, (e0 + e1) % Q = m := ⟨_, rfl⟩
      have E9 := Lib.hid (show rbR P Q G H c [x0, x1] [e0, e1] [z0, z1] (decide ((e0 + e1) % Q = ch)) 0 = decide (em = ch) by rw [he, hem]; rfl)
      have HEM := Lib.hid hem
      clear he hem hee
      go_wp2_with fail
      refine wp_region_held_drew (S := (fun w' => ((w'.cell? ⟨w.heap.size, 0, none⟩ = some (.int .i64 P) ∧ w'.cell? ⟨w.heap.size, 1, none⟩ = some (.int .i64 Q) ∧ w'.cell? ⟨w.heap.size, 2, none⟩ = some (.int .i64 G)) ∧ (w'.cell? ⟨w.heap.size + 1, 0, none⟩ = some (.int .i64 H) ∧ w'.cell? ⟨w.heap.size + 1, 1, none⟩ = some (.slice ya hs.length yc))) ∧ (w'.cell? ⟨w.heap.size + 2, 0, none⟩ = some (.slice (some ⟨xb, xo, none⟩) 2 c1) ∧ w'.cell? ⟨w.heap.size + 2, 1, none⟩ = some (.slice (some ⟨eb, eo, none⟩) 2 c2) ∧ w'.cell? ⟨w.heap.size + 2, 2, none⟩ = some (.slice (some ⟨rb, ro, none⟩) 2 c3)) ∧ (w'.cell? ⟨eb, eo, none⟩ = some (.int .i64 e0) ∧ w'.cell? ⟨eb, eo + 1, none⟩ = some (.int .i64 e1)))) (by kernel_rfl) (show _ from ⟨⟨⟨G_r.out.1, G_r.out.2.1, G_r.out.2.2⟩, ⟨V_r.out.1, V_r.out.2⟩⟩, ⟨X_r.out.1, X_r.out.2.1, X_r.out.2.2.1⟩, ⟨CE_r.out.1, CE_r.out.2⟩⟩) (fun hHeld => ?_)
      refine wpAnyH_take (i := 0) (v := ?_) rfl (by kernel_rfl) (by kernel_rfl) (by kernel_rfl) (fun _ _ _ h => h) (Or.inl ⟨by kernel_rfl, ?_⟩) (by assumption) ?_
      rotate_left 1
      · intro w9 hSw
        try dsimp only at hSw
        go_simp
        try with_reducible rfl
      try simp only [Act.put, List.getElem_toArray, List.getElem_cons_succ, List.getElem_cons_zero, List.setIfInBounds_toArray, List.set_cons_zero, List.set_cons_succ]
      refine wpAnyH_take (i := 1) (v := ?_) rfl (by kernel_rfl) (by kernel_rfl) (by kernel_rfl) (fun _ _ _ h => h) (Or.inl ⟨by kernel_rfl, ?_⟩) (by assumption) ?_
      rotate_left 1
      · intro w9 hSw
        try dsimp only at hSw
        go_simp
        try with_reducible rfl
      try simp only [Act.put, List.getElem_toArray, List.getElem_cons_succ, List.getElem_cons_zero, List.setIfInBounds_toArray, List.set_cons_zero, List.set_cons_succ]
      refine wpAnyH_take (i := 2) (v := ?_) rfl (by kernel_rfl) (by kernel_rfl) (by kernel_rfl) (fun _ _ _ h => h) (Or.inl ⟨by kernel_rfl, ?_⟩) (by assumption) ?_
      rotate_left 1
      · intro w9 hSw
        try dsimp only at hSw
        go_simp
        try with_reducible rfl
      try simp only [Act.put, List.getElem_toArray, List.getElem_cons_succ, List.getElem_cons_zero, List.setIfInBounds_toArray, List.set_cons_zero, List.set_cons_succ]
      refine wpAnyH_take (i := 3) (v := ?_) rfl (by kernel_rfl) (by kernel_rfl) (by kernel_rfl) (fun _ _ _ h => h) (Or.inl ⟨by kernel_rfl, ?_⟩) (by assumption) ?_
      rotate_left 1
      · intro w9 hSw
        try dsimp only at hSw
        go_simp
        try with_reducible rfl
      try simp only [Act.put, List.getElem_toArray, List.getElem_cons_succ, List.getElem_cons_zero, List.setIfInBounds_toArray, List.set_cons_zero, List.set_cons_succ]
      refine wpAnyH_take (i := 4) (v := ?_) rfl (by kernel_rfl) (by kernel_rfl) (by kernel_rfl) (fun _ _ _ h => h) (Or.inl ⟨by kernel_rfl, ?_⟩) (by assumption) ?_
      rotate_left 1
      · intro w9 hSw
        try dsimp only at hSw
        go_simp
        try with_reducible rfl
      try simp only [Act.put, List.getElem_toArray, List.getElem_cons_succ, List.getElem_cons_zero, List.setIfInBounds_toArray, List.set_cons_zero, List.set_cons_succ]
      refine wpAnyH_take (i := 5) (v := ?_) rfl (by kernel_rfl) (by kernel_rfl) (by kernel_rfl) (fun _ _ _ h => h) (Or.inl ⟨by kernel_rfl, ?_⟩) (by assumption) ?_
      rotate_left 1
      · intro w9 hSw
        try dsimp only at hSw
        go_simp
        try with_reducible rfl
      try simp only [Act.put, List.getElem_toArray, List.getElem_cons_succ, List.getElem_cons_zero, List.setIfInBounds_toArray, List.set_cons_zero, List.set_cons_succ]
      refine wpAnyH_take (i := 6) (v := ?_) rfl (by kernel_rfl) (by kernel_rfl) (by kernel_rfl) (fun _ _ _ h => h) (Or.inl ⟨by kernel_rfl, ?_⟩) (by assumption) ?_
      rotate_left 1
      · intro w9 hSw
        try dsimp only at hSw
        go_simp
        try with_reducible rfl
      try simp only [Act.put, List.getElem_toArray, List.getElem_cons_succ, List.getElem_cons_zero, List.setIfInBounds_toArray, List.set_cons_zero, List.set_cons_succ]
      refine wpAnyH_take (i := 7) (v := ?_) rfl (by kernel_rfl) (by kernel_rfl) (by kernel_rfl) (fun _ _ _ h => h) (Or.inl ⟨by kernel_rfl, ?_⟩) (by assumption) ?_
      rotate_left 1
      · intro w9 hSw
        try dsimp only at hSw
        go_simp
        try with_reducible rfl
      try simp only [Act.put, List.getElem_toArray, List.getElem_cons_succ, List.getElem_cons_zero, List.setIfInBounds_toArray, List.set_cons_zero, List.set_cons_succ]
      refine wpAnyH_take (i := 8) (v := ?_) rfl (by kernel_rfl) (by kernel_rfl) (by kernel_rfl) (fun _ _ _ h => h) (Or.inl ⟨by kernel_rfl, ?_⟩) (by assumption) ?_
      rotate_left 1
      · intro w9 hSw
        try dsimp only at hSw
        go_simp
        try with_reducible rfl
      try simp only [Act.put, List.getElem_toArray, List.getElem_cons_succ, List.getElem_cons_zero, List.setIfInBounds_toArray, List.set_cons_zero, List.set_cons_succ]
      refine wpAnyH_take (i := 9) (v := ?_) rfl (by kernel_rfl) (by kernel_rfl) (by kernel_rfl) (fun _ _ _ h => h) (Or.inl ⟨by kernel_rfl, ?_⟩) (by assumption) ?_
      rotate_left 1
      · intro w9 hSw
        try dsimp only at hSw
        go_simp
        try with_reducible rfl
      try simp only [Act.put, List.getElem_toArray, List.getElem_cons_succ, List.getElem_cons_zero, List.setIfInBounds_toArray, List.set_cons_zero, List.set_cons_succ]
      refine wpAnyH_take (i := 10) (v := ?_) rfl (by kernel_rfl) (by kernel_rfl) (by kernel_rfl) (fun _ _ _ h => h) (Or.inl ⟨by kernel_rfl, ?_⟩) (by assumption) ?_
      rotate_left 1
      · intro w9 hSw
        try dsimp only at hSw
        go_simp
        try with_reducible rfl
      try simp only [Act.put, List.getElem_toArray, List.getElem_cons_succ, List.getElem_cons_zero, List.setIfInBounds_toArray, List.set_cons_zero, List.set_cons_succ]
      refine wpAnyH_take (i := 12) (v := ?_) rfl (by kernel_rfl) (by kernel_rfl) (by kernel_rfl) (fun _ _ _ h => h) (Or.inl ⟨by kernel_rfl, ?_⟩) (by assumption) ?_
      rotate_left 1
      · intro w9 hSw
        try dsimp only at hSw
        go_simp
        try with_reducible rfl
      try simp only [Act.put, List.getElem_toArray, List.getElem_cons_succ, List.getElem_cons_zero, List.setIfInBounds_toArray, List.set_cons_zero, List.set_cons_succ]
      refine wpAnyH_take (i := 13) (v := ?_) rfl (by kernel_rfl) (by kernel_rfl) (by kernel_rfl) (fun _ _ _ h => h) (Or.inl ⟨by kernel_rfl, ?_⟩) (by assumption) ?_
      rotate_left 1
      · intro w9 hSw
        try dsimp only at hSw
        go_simp
        try with_reducible rfl
      try simp only [Act.put, List.getElem_toArray, List.getElem_cons_succ, List.getElem_cons_zero, List.setIfInBounds_toArray, List.set_cons_zero, List.set_cons_succ]
      refine wpAnyH_take (i := 14) (v := ?_) rfl (by kernel_rfl) (by kernel_rfl) (by kernel_rfl) (fun _ _ _ h => h) (Or.inl ⟨by kernel_rfl, ?_⟩) (by assumption) ?_
      rotate_left 1
      · intro w9 hSw
        try dsimp only at hSw
        go_simp
        try with_reducible rfl
      try simp only [Act.put, List.getElem_toArray, List.getElem_cons_succ, List.getElem_cons_zero, List.setIfInBounds_toArray, List.set_cons_zero, List.set_cons_succ]
      refine wpAnyH_take (i := 15) (v := ?_) rfl (by kernel_rfl) (by kernel_rfl) (by kernel_rfl) (fun _ _ _ h => h) (Or.inl ⟨by kernel_rfl, ?_⟩) (by assumption) ?_
      rotate_left 1
      · intro w9 hSw
        try dsimp only at hSw
        go_simp
        try with_reducible rfl
      try simp only [Act.put, List.getElem_toArray, List.getElem_cons_succ, List.getElem_cons_zero, List.setIfInBounds_toArray, List.set_cons_zero, List.set_cons_succ]
      refine wpAnyH_take (i := 16) (v := ?_) rfl (by kernel_rfl) (by kernel_rfl) (by kernel_rfl) (fun _ _ _ h => h) (Or.inl ⟨by kernel_rfl, ?_⟩) (by assumption) ?_
      rotate_left 1
      · intro w9 hSw
        try dsimp only at hSw
        go_simp
        try with_reducible rfl
      try simp only [Act.put, List.getElem_toArray, List.getElem_cons_succ, List.getElem_cons_zero, List.setIfInBounds_toArray, List.set_cons_zero, List.set_cons_succ]
      have hB0 : (fun w1 => (Below w.heap.size w w1) ∧ (GR w1 w.heap.size P Q G) ∧ (D2 w1 (w.heap.size + 1) (.int .i64 H) (.slice ya hs.length yc)) ∧ (B3 w1 (w.heap.size + 2) (.slice (some ⟨xb, xo, none⟩) 2 c1) (.slice (some ⟨eb, eo, none⟩) 2 c2) (.slice (some ⟨rb, ro, none⟩) 2 c3)) ∧ (InI B w1 (.slice ya hs.length yc) hs) ∧ (CC w1 xb xo x0 x1) ∧ (CC w1 eb eo e0 e1) ∧ (CC w1 rb ro z0 z1)) wr.drew := ⟨HB_r.out.drew, G_r.out.drew, V_r.out.drew, X_r.out.drew, Y_r.out.dr, CX_r.out, CE_r.out, CR_r.out⟩
      refine wpAnyH_part (V := fun i u w1 => cond (Nat.beq i 11) (u = .int .i64 em) (cond (Nat.beq i 17) (u = .int .i64 ch) (cond (Nat.beq i 18) (u = .bool (decide (em = ch))) (cond (Nat.beq i 19) (u = .bool (decide (em = ch))) (True))))) (B := fun w1 => (Below w.heap.size w w1) ∧ (GR w1 w.heap.size P Q G) ∧ (D2 w1 (w.heap.size + 1) (.int .i64 H) (.slice ya hs.length yc)) ∧ (B3 w1 (w.heap.size + 2) (.slice (some ⟨xb, xo, none⟩) 2 c1) (.slice (some ⟨eb, eo, none⟩) 2 c2) (.slice (some ⟨rb, ro, none⟩) 2 c3)) ∧ (InI B w1 (.slice ya hs.length yc) hs) ∧ (CC w1 xb xo x0 x1) ∧ (CC w1 eb eo e0 e1) ∧ (CC w1 rb ro z0 z1)) (R := fun w1 w2 => Below w1.heap.size w1 w2) 0 (rs := [11, 17, 18, 19]) (ds := [(11, some 58), (17, some 64), (18, some 65), (19, some 8)]) (by kernel_rfl) (by kernel_rfl) (by kernel_rfl) (by kernel_rfl) (by kernel_rfl) ?_ ?_ ?_ hB0 ?_ ?_
      · intro w1 w2 hB hR
        clear hB0
        obtain ⟨b_HBb, b_Gb, b_Vb, b_Xb, b_Yb, b_CXb, b_CEb, b_CRb⟩ := hB
        exact ⟨bt b_HBb hR, b_Gb.below hR, b_Vb.below hR, b_Xb.below hR, b_Yb.below hR, b_CXb.below hR, b_CEb.below hR, b_CRb.below hR⟩
      · clear hB0
        refine Last.cons (fun u w1 w2 hB h hR => ?_) ?_
        · have h1 : u = .int .i64 em := h
          show u = .int .i64 em
          exact h1
        refine Last.cons (fun u w1 w2 hB h hR => ?_) ?_
        · have h1 : u = .int .i64 ch := h
          show u = .int .i64 ch
          exact h1
        refine Last.cons (fun u w1 w2 hB h hR => ?_) ?_
        · have h1 : u = .bool (decide (em = ch)) := h
          show u = .bool (decide (em = ch))
          exact h1
        refine Last.cons (fun u w1 w2 hB h hR => ?_) ?_
        · have h1 : u = .bool (decide (em = ch)) := h
          show u = .bool (decide (em = ch))
          exact h1
        exact Last.nil
      · intro w1 hB
        clear hB0
        obtain ⟨b_HBb, b_Gb, b_Vb, b_Xb, b_Yb, b_CXb, b_CEb, b_CRb⟩ := hB
        have HBb := Lib.hid (show Below w.heap.size w w1 from b_HBb)
        have Gb := Lib.hid (show GR w1 w.heap.size P Q G from b_Gb)
        have Vb := Lib.hid (show D2 w1 (w.heap.size + 1) (.int .i64 H) (.slice ya hs.length yc) from b_Vb)
        have Xb := Lib.hid (show B3 w1 (w.heap.size + 2) (.slice (some ⟨xb, xo, none⟩) 2 c1) (.slice (some ⟨eb, eo, none⟩) 2 c2) (.slice (some ⟨rb, ro, none⟩) 2 c3) from b_Xb)
        have Yb := Lib.hid (show InI B w1 (.slice ya hs.length yc) hs from b_Yb)
        have CXb := Lib.hid (show CC w1 xb xo x0 x1 from b_CXb)
        have CEb := Lib.hid (show CC w1 eb eo e0 e1 from b_CEb)
        have CRb := Lib.hid (show CC w1 rb ro z0 z1 from b_CRb)
        clear b_HBb b_Gb b_Vb b_Xb b_Yb b_CXb b_CEb b_CRb
        exact ⟨⟨⟨Gb.out.1, Gb.out.2.1, Gb.out.2.2⟩, ⟨Vb.out.1, Vb.out.2⟩⟩, ⟨Xb.out.1, Xb.out.2.1, Xb.out.2.2.1⟩, ⟨CEb.out.1, CEb.out.2⟩⟩
      · clear hB0 hHeld
        refine Steps.cons rfl (js := []) (by kernel_rfl) rfl (fun v W1 hB hF Q9 K hK => ?_) ?_
        · obtain ⟨b_HBb, b_Gb, b_Vb, b_Xb, b_Yb, b_CXb, b_CEb, b_CRb⟩ := hB
          have HBb := Lib.hid (show Below w.heap.size w W1 from b_HBb)
          have Gb := Lib.hid (show GR W1 w.heap.size P Q G from b_Gb)
          have Vb := Lib.hid (show D2 W1 (w.heap.size + 1) (.int .i64 H) (.slice ya hs.length yc) from b_Vb)
          have Xb := Lib.hid (show B3 W1 (w.heap.size + 2) (.slice (some ⟨xb, xo, none⟩) 2 c1) (.slice (some ⟨eb, eo, none⟩) 2 c2) (.slice (some ⟨rb, ro, none⟩) 2 c3) from b_Xb)
          have Yb := Lib.hid (show InI B W1 (.slice ya hs.length yc) hs from b_Yb)
          have CXb := Lib.hid (show CC W1 xb xo x0 x1 from b_CXb)
          have CEb := Lib.hid (show CC W1 eb eo e0 e1 from b_CEb)
          have CRb := Lib.hid (show CC W1 rb ro z0 z1 from b_CRb)
          clear b_HBb b_Gb b_Vb b_Xb b_Yb b_CXb b_CEb b_CRb
          clear hF
          refine ⟨?_⟩
          simp only [putAll, Act.put, List.setIfInBounds_toArray, List.set_cons_succ, List.set_cons_zero]
          go_simp
          go_at_call 67
          refine (o_nn (e0 + e1) Q hb0.1 hb0.2 HPQ.out.2.1 HPQ.out.2.2 _).mono ?_
          rw [HEM.out]
          rintro e' w' ⟨rfl, rfl⟩
          go_wp2_with fail
          have hk := hK.out
          simp only [putAll, Act.put, List.setIfInBounds_toArray, List.set_cons_succ, List.set_cons_zero] at hk
          refine hk _ _ ?_ ?_
          · show (_ : Value) = .int .i64 em
            exact rfl
          · exact (Below.refl _ _)
        refine Steps.cons rfl (js := [11]) (by kernel_rfl) rfl (fun v W1 hB hF Q9 K hK => ?_) ?_
        · obtain ⟨b_HBb, b_Gb, b_Vb, b_Xb, b_Yb, b_CXb, b_CEb, b_CRb⟩ := hB
          have HBb := Lib.hid (show Below w.heap.size w W1 from b_HBb)
          have Gb := Lib.hid (show GR W1 w.heap.size P Q G from b_Gb)
          have Vb := Lib.hid (show D2 W1 (w.heap.size + 1) (.int .i64 H) (.slice ya hs.length yc) from b_Vb)
          have Xb := Lib.hid (show B3 W1 (w.heap.size + 2) (.slice (some ⟨xb, xo, none⟩) 2 c1) (.slice (some ⟨eb, eo, none⟩) 2 c2) (.slice (some ⟨rb, ro, none⟩) 2 c3) from b_Xb)
          have Yb := Lib.hid (show InI B W1 (.slice ya hs.length yc) hs from b_Yb)
          have CXb := Lib.hid (show CC W1 xb xo x0 x1 from b_CXb)
          have CEb := Lib.hid (show CC W1 eb eo e0 e1 from b_CEb)
          have CRb := Lib.hid (show CC W1 rb ro z0 z1 from b_CRb)
          clear b_HBb b_Gb b_Vb b_Xb b_Yb b_CXb b_CEb b_CRb
          have hf11 : v 11 = .int .i64 em := hF.1
          have e11 := hf11
          have E11 := Lib.hid e11
          clear e11 hf11
          clear hF
          refine ⟨?_⟩
          simp only [putAll, Act.put, List.setIfInBounds_toArray, List.set_cons_succ, List.set_cons_zero, E11.out]
          go_simp
          go_at_call 86
          refine (rBitChallenge_any P Q G H c x0 x1 HG.out HH.out HC.out HX0.out HX1.out Yb.out CXb.out).mono ?_
          rw [HCH.out]
          rintro e' W2 ⟨rfl, hb⟩
          go_wp2_with fail
          have hk := hK.out
          simp only [putAll, Act.put, List.setIfInBounds_toArray, List.set_cons_succ, List.set_cons_zero, E11.out] at hk
          refine hk _ _ ?_ ?_
          · show (_ : Value) = .int .i64 ch
            exact rfl
          · exact hb
        refine Steps.cons rfl (js := [11, 17]) (by kernel_rfl) rfl (fun v W1 hB hF Q9 K hK => ?_) ?_
        · obtain ⟨b_HBb, b_Gb, b_Vb, b_Xb, b_Yb, b_CXb, b_CEb, b_CRb⟩ := hB
          have HBb := Lib.hid (show Below w.heap.size w W1 from b_HBb)
          have Gb := Lib.hid (show GR W1 w.heap.size P Q G from b_Gb)
          have Vb := Lib.hid (show D2 W1 (w.heap.size + 1) (.int .i64 H) (.slice ya hs.length yc) from b_Vb)
          have Xb := Lib.hid (show B3 W1 (w.heap.size + 2) (.slice (some ⟨xb, xo, none⟩) 2 c1) (.slice (some ⟨eb, eo, none⟩) 2 c2) (.slice (some ⟨rb, ro, none⟩) 2 c3) from b_Xb)
          have Yb := Lib.hid (show InI B W1 (.slice ya hs.length yc) hs from b_Yb)
          have CXb := Lib.hid (show CC W1 xb xo x0 x1 from b_CXb)
          have CEb := Lib.hid (show CC W1 eb eo e0 e1 from b_CEb)
          have CRb := Lib.hid (show CC W1 rb ro z0 z1 from b_CRb)
          clear b_HBb b_Gb b_Vb b_Xb b_Yb b_CXb b_CEb b_CRb
          have hf11 : v 11 = .int .i64 em := hF.1
          have e11 := hf11
          have E11 := Lib.hid e11
          clear e11 hf11
          have hf17 : v 17 = .int .i64 ch := hF.2.1
          have e17 := hf17
          have E17 := Lib.hid e17
          clear e17 hf17
          clear hF
          refine ⟨?_⟩
          simp only [putAll, Act.put, List.setIfInBounds_toArray, List.set_cons_succ, List.set_cons_zero, E11.out, E17.out]
          go_simp
          have hk := hK.out
          simp only [putAll, Act.put, List.setIfInBounds_toArray, List.set_cons_succ, List.set_cons_zero, E11.out, E17.out] at hk
          refine hk _ _ ?_ ?_
          · show (_ : Value) = .bool (decide (em = ch))
            exact rfl
          · exact (Below.refl _ _)
        refine Steps.cons rfl (js := [18, 17, 11, 17, 18]) (by kernel_rfl) rfl (fun v W1 hB hF Q9 K hK => ?_) ?_
        · obtain ⟨b_HBb, b_Gb, b_Vb, b_Xb, b_Yb, b_CXb, b_CEb, b_CRb⟩ := hB
          have HBb := Lib.hid (show Below w.heap.size w W1 from b_HBb)
          have Gb := Lib.hid (show GR W1 w.heap.size P Q G from b_Gb)
          have Vb := Lib.hid (show D2 W1 (w.heap.size + 1) (.int .i64 H) (.slice ya hs.length yc) from b_Vb)
          have Xb := Lib.hid (show B3 W1 (w.heap.size + 2) (.slice (some ⟨xb, xo, none⟩) 2 c1) (.slice (some ⟨eb, eo, none⟩) 2 c2) (.slice (some ⟨rb, ro, none⟩) 2 c3) from b_Xb)
          have Yb := Lib.hid (show InI B W1 (.slice ya hs.length yc) hs from b_Yb)
          have CXb := Lib.hid (show CC W1 xb xo x0 x1 from b_CXb)
          have CEb := Lib.hid (show CC W1 eb eo e0 e1 from b_CEb)
          have CRb := Lib.hid (show CC W1 rb ro z0 z1 from b_CRb)
          clear b_HBb b_Gb b_Vb b_Xb b_Yb b_CXb b_CEb b_CRb
          have hf18 : v 18 = .bool (decide (em = ch)) := hF.1
          have e18 := hf18
          have E18 := Lib.hid e18
          clear e18 hf18
          have hf17 : v 17 = .int .i64 ch := hF.2.1
          have e17 := hf17
          have E17 := Lib.hid e17
          clear e17 hf17
          have hf11 : v 11 = .int .i64 em := hF.2.2.1
          have e11 := hf11
          have E11 := Lib.hid e11
          clear e11 hf11
          clear hF
          refine ⟨?_⟩
          simp only [putAll, Act.put, List.setIfInBounds_toArray, List.set_cons_succ, List.set_cons_zero, E18.out, E17.out, E11.out]
          go_simp
          have hk := hK.out
          simp only [putAll, Act.put, List.setIfInBounds_toArray, List.set_cons_succ, List.set_cons_zero, E18.out, E17.out, E11.out] at hk
          refine hk _ _ ?_ ?_
          · show (_ : Value) = .bool (decide (em = ch))
            exact rfl
          · exact (Below.refl _ _)
        exact Steps.nil
      intro v We hB hF
      clear hB0 hHeld
      obtain ⟨b_HBb, b_Gb, b_Vb, b_Xb, b_Yb, b_CXb, b_CEb, b_CRb⟩ := hB
      have HBb := Lib.hid (show Below w.heap.size w We from b_HBb)
      have Gb := Lib.hid (show GR We w.heap.size P Q G from b_Gb)
      have Vb := Lib.hid (show D2 We (w.heap.size + 1) (.int .i64 H) (.slice ya hs.length yc) from b_Vb)
      have Xb := Lib.hid (show B3 We (w.heap.size + 2) (.slice (some ⟨xb, xo, none⟩) 2 c1) (.slice (some ⟨eb, eo, none⟩) 2 c2) (.slice (some ⟨rb, ro, none⟩) 2 c3) from b_Xb)
      have Yb := Lib.hid (show InI B We (.slice ya hs.length yc) hs from b_Yb)
      have CXb := Lib.hid (show CC We xb xo x0 x1 from b_CXb)
      have CEb := Lib.hid (show CC We eb eo e0 e1 from b_CEb)
      have CRb := Lib.hid (show CC We rb ro z0 z1 from b_CRb)
      clear b_HBb b_Gb b_Vb b_Xb b_Yb b_CXb b_CEb b_CRb
      have hf11 : v 11 = .int .i64 em := hF.1
      have e11 := hf11
      have E11 := Lib.hid e11
      clear e11 hf11
      have hf17 : v 17 = .int .i64 ch := hF.2.1
      have e17 := hf17
      have E17 := Lib.hid e17
      clear e17 hf17
      have hf18 : v 18 = .bool (decide (em = ch)) := hF.2.2.1
      have e18 := hf18
      have E18 := Lib.hid e18
      clear e18 hf18
      have hf19 : v 19 = .bool (decide (em = ch)) := hF.2.2.2.1
      have e19 := hf19
      have E19 := Lib.hid e19
      clear e19 hf19
      clear hF
      refine ⟨?_⟩
      simp only [putAll, Act.put, List.setIfInBounds_toArray, List.set_cons_succ, List.set_cons_zero, E11.out, E17.out, E18.out, E19.out]
      refine wpAnyH_done (by kernel_rfl) ?_ _
      go_wp2
      go_ret
      refine ⟨?_, HBb.out⟩
      rw [E9.out]
      rfl

set_option maxRecDepth 100000 in
set_option maxHeartbeats 3200000 in
theorem sVerifyBit_any (P Q G H c : Int) {B C : Nat} {y v : Value} {hs : List Int} {p : PrD} (hl : hs.length ≤ 1048576) (hpn : p.n ≤ 1048576) {w : World} (hy : InI B w y hs) (hP : InP C w v p) :
    Calls Try.prog 24 #[gv P Q G, .agg #[.int .i64 H, y], .int .i64 c, v] w fun e w' => e = .returned (.tuple #[.bool (vbV P Q G H hs c p), .bool (vbB P Q G H hs c)]) ∧ Below w.heap.size w w' := by
  obtain ⟨ya, yc, rfl⟩ := hy.shape
  obtain ⟨a1, c1, a2, c2, a3, c3, rfl, _, _, _⟩ := hP.parts
  have G_9 := Lib.hid ((gr_at w (w.heap.size) (by simp) P Q G 32).below (ba (w.alloc (.cells #[.int .i64 P, .int .i64 Q, .int .i64 G] 32)) (.cells #[.int .i64 H, .slice ya hs.length yc] 34)))
  have V_9 := Lib.hid (d2_at (w.alloc (.cells #[.int .i64 P, .int .i64 Q, .int .i64 G] 32)) (w.heap.size + 1) (by simp) (.int .i64 H) (.slice ya hs.length yc) 34)
  have HB_9 := Lib.hid (show Below w.heap.size w ((w.alloc (.cells #[.int .i64 P, .int .i64 Q, .int .i64 G] 32)).alloc (.cells #[.int .i64 H, .slice ya hs.length yc] 34)) from bt (ba _ _) (ba _ _))
  have hv := b3_new ((w.alloc (.cells #[.int .i64 P, .int .i64 Q, .int .i64 G] 32)).alloc (.cells #[.int .i64 H, .slice ya hs.length yc] 34)) (.slice a1 p.c.length c1) (.slice a2 p.h.length c2) (.slice a3 p.r.length c3) 29
  rw [show ((w.alloc (.cells #[.int .i64 P, .int .i64 Q, .int .i64 G] 32)).alloc (.cells #[.int .i64 H, .slice ya hs.length yc] 34)).heap.size = w.heap.size + 2 by simp] at hv
  have X_0 := Lib.hid hv
  have G_0 := Lib.hid (G_9.out.below (ba _ (.cells #[.slice a1 p.c.length c1, .slice a2 p.h.length c2, .slice a3 p.r.length c3] 29)))
  have V_0 := Lib.hid (V_9.out.below (ba _ (.cells #[.slice a1 p.c.length c1, .slice a2 p.h.length c2, .slice a3 p.r.length c3] 29)))
  have HB_0 := Lib.hid (bt HB_9.out (ba _ (.cells #[.slice a1 p.c.length c1, .slice a2 p.h.length c2, .slice a3 p.r.length c3] 29)))
  have Y_0 := Lib.hid (hy.below HB_0.out)
  have PP_0 := Lib.hid (hP.below HB_0.out)
  clear hv hP hy G_9 V_9 HB_9
  cases h0 : bsB P Q G H hs
  · have K0 := Lib.hid (show bsB P Q G H hs = false from h0)
    have E1 := Lib.hid (show vbB P Q G H hs c = false by simp [vbB, ← el_list1, h0])
    have E2 := Lib.hid (show vbV P Q G H hs c p = false by simp only [vbV, E1.out, Bool.false_and])
    rw [E1.out, E2.out]
    clear h0
    obtain ⟨gG0, gG1, gG2⟩ := G_0.out
    obtain ⟨bX0, bX1, bX2, _⟩ := X_0.out
    obtain ⟨cV0, cV1⟩ := V_0.out
    go_enter Try.func24, Try.ntmps24
    go_wp2_with fail
    refine (l9Good_any P Q G H (by omega) Y_0.out).mono ?_
    rw [K0.out]
    rintro e v1 ⟨rfl, hb⟩
    have HB_1 := Lib.hid (bt HB_0.out hb)
    have G_1 := Lib.hid (G_0.out.below hb)
    have V_1 := Lib.hid (V_0.out.below hb)
    have X_1 := Lib.hid (X_0.out.below hb)
    have Y_1 := Lib.hid (Y_0.out.below hb)
    have PP_1 := Lib.hid (PP_0.out.below hb)
    clear hb gG0 gG1 gG2 bX0 bX1 bX2 cV0 cV1
    obtain ⟨gG0, gG1, gG2⟩ := G_1.out
    obtain ⟨bX0, bX1, bX2, _⟩ := X_1.out
    obtain ⟨cV0, cV1⟩ := V_1.out
    go_wp2
    go_ret2
    exact ⟨rfl, HB_1.out⟩
  have K0 := Lib.hid (show bsB P Q G H hs = true from h0)
  have hgd := bs_good h0
  have hmo := good_mo hgd
  have hH0 := bs_H h0
  cases h1 : allEl P Q [c]
  · have K1 := Lib.hid (show allEl P Q [c] = false from h1)
    have E1 := Lib.hid (show vbB P Q G H hs c = false by simp [vbB, ← el_list1, h0, h1])
    have E2 := Lib.hid (show vbV P Q G H hs c p = false by simp only [vbV, E1.out, Bool.false_and])
    rw [E1.out, E2.out]
    clear h0 h1
    obtain ⟨gG0, gG1, gG2⟩ := G_0.out
    obtain ⟨bX0, bX1, bX2, _⟩ := X_0.out
    obtain ⟨cV0, cV1⟩ := V_0.out
    go_enter Try.func24, Try.ntmps24
    go_wp2_with fail
    refine (l9Good_any P Q G H (by omega) Y_0.out).mono ?_
    rw [K0.out]
    rintro e v1 ⟨rfl, hb⟩
    have HB_1 := Lib.hid (bt HB_0.out hb)
    have G_1 := Lib.hid (G_0.out.below hb)
    have V_1 := Lib.hid (V_0.out.below hb)
    have X_1 := Lib.hid (X_0.out.below hb)
    have Y_1 := Lib.hid (Y_0.out.below hb)
    have PP_1 := Lib.hid (PP_0.out.below hb)
    clear hb gG0 gG1 gG2 bX0 bX1 bX2 cV0 cV1
    obtain ⟨gG0, gG1, gG2⟩ := G_1.out
    obtain ⟨bX0, bX1, bX2, _⟩ := X_1.out
    obtain ⟨cV0, cV1⟩ := V_1.out
    go_wp2_with fail
    refine (gIs_any P Q G hmo _ 1 1 [c] rfl (by decide) _ (ints_lit v1 [c] 3)).mono ?_
    rw [K1.out]
    rintro e v2 ⟨rfl, hb0⟩
    have hb := bt (ba v1 _) hb0
    clear hb0
    have HB_2 := Lib.hid (bt HB_1.out hb)
    have G_2 := Lib.hid (G_1.out.below hb)
    have V_2 := Lib.hid (V_1.out.below hb)
    have X_2 := Lib.hid (X_1.out.below hb)
    have Y_2 := Lib.hid (Y_1.out.below hb)
    have PP_2 := Lib.hid (PP_1.out.below hb)
    clear hb gG0 gG1 gG2 bX0 bX1 bX2 cV0 cV1
    obtain ⟨gG0, gG1, gG2⟩ := G_2.out
    obtain ⟨bX0, bX1, bX2, _⟩ := X_2.out
    obtain ⟨cV0, cV1⟩ := V_2.out
    go_wp2
    go_ret2
    exact ⟨rfl, HB_2.out⟩
  have K1 := Lib.hid (show allEl P Q [c] = true from h1)
  have E1 := Lib.hid (show vbB P Q G H hs c = true by simp [vbB, ← el_list1, h0, h1])
  rw [E1.out]
  have hce : elB P Q c = true := by rw [← el_list1]; exact h1
  have E2 := Lib.hid (show vbV P Q G H hs c p = rbV P Q G H c p by unfold vbV; rw [E1.out, Bool.true_and])
  rw [E2.out]
  have HG := Lib.hid hgd
  have HH := Lib.hid hH0
  have HCE := Lib.hid hce
  clear h0 h1 hgd hH0 hce
  obtain ⟨gG0, gG1, gG2⟩ := G_0.out
  obtain ⟨bX0, bX1, bX2, _⟩ := X_0.out
  obtain ⟨cV0, cV1⟩ := V_0.out
  go_enter Try.func24, Try.ntmps24
  go_wp2_with fail
  refine (l9Good_any P Q G H (by omega) Y_0.out).mono ?_
  rw [K0.out]
  rintro e v1 ⟨rfl, hb⟩
  have HB_1 := Lib.hid (bt HB_0.out hb)
  have G_1 := Lib.hid (G_0.out.below hb)
  have V_1 := Lib.hid (V_0.out.below hb)
  have X_1 := Lib.hid (X_0.out.below hb)
  have Y_1 := Lib.hid (Y_0.out.below hb)
  have PP_1 := Lib.hid (PP_0.out.below hb)
  clear hb gG0 gG1 gG2 bX0 bX1 bX2 cV0 cV1
  obtain ⟨gG0, gG1, gG2⟩ := G_1.out
  obtain ⟨bX0, bX1, bX2, _⟩ := X_1.out
  obtain ⟨cV0, cV1⟩ := V_1.out
  go_wp2_with fail
  refine (gIs_any P Q G hmo _ 1 1 [c] rfl (by decide) _ (ints_lit v1 [c] 3)).mono ?_
  rw [K1.out]
  rintro e v2 ⟨rfl, hb0⟩
  have hb := bt (ba v1 _) hb0
  clear hb0
  have HB_2 := Lib.hid (bt HB_1.out hb)
  have G_2 := Lib.hid (G_1.out.below hb)
  have V_2 := Lib.hid (V_1.out.below hb)
  have X_2 := Lib.hid (X_1.out.below hb)
  have Y_2 := Lib.hid (Y_1.out.below hb)
  have PP_2 := Lib.hid (PP_1.out.below hb)
  clear hb gG0 gG1 gG2 bX0 bX1 bX2 cV0 cV1
  obtain ⟨gG0, gG1, gG2⟩ := G_2.out
  obtain ⟨bX0, bX1, bX2, _⟩ := X_2.out
  obtain ⟨cV0, cV1⟩ := V_2.out
  go_wp2_with fail
  refine (rIsBit_any P Q G H c HG.out HH.out HCE.out hpn Y_2.out PP_2.out).mono ?_
  rintro e' v9 ⟨rfl, hb9⟩
  have HB_9 := Lib.hid (bt HB_2.out hb9)
  clear hb9
  go_wp2
  go_ret2
  exact ⟨rfl, HB_9.out⟩

end Go.Proofs.Ytblclghbabhdlaa

/- Chapter 10, the reference: the verdict on a sum. -/
namespace Go.Proofs.Ytblclghbabhdlaa
open Go.RowKit
set_option linter.unusedVariables false
set_option linter.unusedSimpArgs false

theorem nMod_ng (a m : Int) (h0 : -m < a) (h1 : a < m) (h2 : 2 ≤ m) (h3 : m ≤ 2000000000) (w : World) :
    Calls Try.prog 67 #[.int .i64 a, .int .i64 m] w fun e w' => e = .returned (.int .i64 (a % m)) ∧ w = w' := by
  have e : (if a < 0 then a + m else a) = a % m := by
    split
    · rw [← Int.add_emod_right, Int.emod_eq_of_lt (by omega) (by omega)]
    · rw [Int.emod_eq_of_lt (by omega) (by omega)]
  have h := nMod_any a m h0 h1 h2 h3 w
  rwa [e] at h
theorem gExp_ng (P Q G x e : Int) (h1 : 0 ≤ x) (h2 : x ≤ 2000000000) (h3 : 0 ≤ e) (h4 : e < Q) (h5 : 2 ≤ P) (h6 : P ≤ 2000000000) (h7 : 2 ≤ Q) (h8 : Q ≤ 2000000000) (w : World) :
    Calls Try.prog 64 #[gv P Q G, .int .i64 x, .int .i64 (-e)] w fun e' w' => e' = .returned (.int .i64 (Num.pow x ((-e) % Q) P)) ∧ Below w.heap.size w w' := by
  have hr : 0 ≤ (-e) % Q ∧ (-e) % Q < Q := ⟨Int.emod_nonneg _ (by omega), Int.emod_lt_of_pos _ (by omega)⟩
  have HM := Lib.hid (nMod_ng (-e) Q (by omega) (by omega) h7 h8)
  generalize hk : (-e) % Q = k at hr HM ⊢
  clear hk
  go_enter Try.func64, Try.ntmps64
  go_wp2_with fail
  go_quiet (first | (go_at_call 67; refine quietly (HM.out _)) | (go_at_call 90; refine quietly (nPower_any _ _ _ h1 h2 hr.1 (by omega) h5 h6 _)))
  go_wp2
  go_ret
  exact ⟨rfl, below_drewN (ba _ _) _⟩
theorem mul_rng {P : Int} (hP : 2 ≤ P) (a b : Int) : 0 ≤ a * b % P ∧ a * b % P < P := ⟨Int.emod_nonneg _ (by omega), Int.emod_lt_of_pos _ (by omega)⟩
theorem pair_rng {P a b : Int} (h : 0 ≤ a ∧ a < P) (k : 0 ≤ b ∧ b < P) : ∀ z ∈ [a, b], 0 ≤ z ∧ z < P := fun z hz => by
  simp only [List.mem_cons, List.not_mem_nil, or_false] at hz
  rcases hz with rfl | rfl
  · exact h
  · exact k

theorem in_one {Q t : Int} : allIn [t] 0 (Q - 1) = exB Q t := by simp [allIn, exB]
theorem vs_eq {P Q G H t : Int} {hs cs : List Int} : vsB P Q G H hs cs t = (bsB P Q G H hs && (inB (cs.length : Int) 1 24 && (allEl P Q cs && allIn [t] 0 (Q - 1)))) := by
  unfold vsB
  rw [in_one]
  congr 1
  congr 1
  rw [Bool.eq_iff_iff, inB_true, decide_eq_true_eq]
  omega

set_option maxRecDepth 100000 in
set_option maxHeartbeats 3200000 in
theorem sVerifySum_off (P Q G H t : Int) {B C D : Nat} {y u v : Value} {hs cs : List Int} {p : PrD} (hl : hs.length ≤ 1048576) (hcs : cs.length ≤ 1048576) (hpn : p.n ≤ 1048576) (hfo : foV P Q p 1 1 1 = false) {w : World} (hy : InI B w y hs) (hu : InI D w u cs) (hP : InP C w v p) :
    Calls Try.prog 36 #[gv P Q G, .agg #[.int .i64 H, y], u, .int .i64 t, v] w fun e w' => e = .returned (.tuple #[.bool (vsV P Q G H hs cs t p), .bool (vsB P Q G H hs cs t)]) ∧ Below w.heap.size w w' := by
  have HFO := Lib.hid hfo
  clear hfo
  obtain ⟨ua, uc, rfl⟩ := hu.shape
  obtain ⟨ya, yc, rfl⟩ := hy.shape
  obtain ⟨a1, c1, a2, c2, a3, c3, rfl, _, _, _⟩ := hP.parts
  have G_9 := Lib.hid ((gr_at w (w.heap.size) (by simp) P Q G 32).below (ba (w.alloc (.cells #[.int .i64 P, .int .i64 Q, .int .i64 G] 32)) (.cells #[.int .i64 H, .slice ya hs.length yc] 34)))
  have V_9 := Lib.hid (d2_at (w.alloc (.cells #[.int .i64 P, .int .i64 Q, .int .i64 G] 32)) (w.heap.size + 1) (by simp) (.int .i64 H) (.slice ya hs.length yc) 34)
  have HB_9 := Lib.hid (show Below w.heap.size w ((w.alloc (.cells #[.int .i64 P, .int .i64 Q, .int .i64 G] 32)).alloc (.cells #[.int .i64 H, .slice ya hs.length yc] 34)) from bt (ba _ _) (ba _ _))
  have hv := b3_new ((w.alloc (.cells #[.int .i64 P, .int .i64 Q, .int .i64 G] 32)).alloc (.cells #[.int .i64 H, .slice ya hs.length yc] 34)) (.slice a1 p.c.length c1) (.slice a2 p.h.length c2) (.slice a3 p.r.length c3) 29
  rw [show ((w.alloc (.cells #[.int .i64 P, .int .i64 Q, .int .i64 G] 32)).alloc (.cells #[.int .i64 H, .slice ya hs.length yc] 34)).heap.size = w.heap.size + 2 by simp] at hv
  have X_0 := Lib.hid hv
  have G_0 := Lib.hid (G_9.out.below (ba _ (.cells #[.slice a1 p.c.length c1, .slice a2 p.h.length c2, .slice a3 p.r.length c3] 29)))
  have V_0 := Lib.hid (V_9.out.below (ba _ (.cells #[.slice a1 p.c.length c1, .slice a2 p.h.length c2, .slice a3 p.r.length c3] 29)))
  have HB_0 := Lib.hid (bt HB_9.out (ba _ (.cells #[.slice a1 p.c.length c1, .slice a2 p.h.length c2, .slice a3 p.r.length c3] 29)))
  have Y_0 := Lib.hid (hy.below HB_0.out)
  have PP_0 := Lib.hid (hP.below HB_0.out)
  have U_0 := Lib.hid (hu.below HB_0.out)
  clear hu hv hP hy G_9 V_9 HB_9
  cases h0 : bsB P Q G H hs
  · have K0 := Lib.hid (show bsB P Q G H hs = false from h0)
    have E1 := Lib.hid (show vsB P Q G H hs cs t = false by rw [vs_eq]; simp [h0])
    have E2 := Lib.hid (show vsV P Q G H hs cs t p = false by simp only [vsV, E1.out, Bool.false_and])
    rw [E1.out, E2.out]
    clear h0
    obtain ⟨gG0, gG1, gG2⟩ := G_0.out
    obtain ⟨bX0, bX1, bX2, _⟩ := X_0.out
    obtain ⟨cV0, cV1⟩ := V_0.out
    go_enter Try.func36, Try.ntmps36
    go_wp2_with fail
    refine (l9Good_any P Q G H (by omega) Y_0.out).mono ?_
    rw [K0.out]
    rintro e v1 ⟨rfl, hb⟩
    have HB_1 := Lib.hid (bt HB_0.out hb)
    have G_1 := Lib.hid (G_0.out.below hb)
    have V_1 := Lib.hid (V_0.out.below hb)
    have X_1 := Lib.hid (X_0.out.below hb)
    have Y_1 := Lib.hid (Y_0.out.below hb)
    have U_1 := Lib.hid (U_0.out.below hb)
    have PP_1 := Lib.hid (PP_0.out.below hb)
    clear hb gG0 gG1 gG2 bX0 bX1 bX2 cV0 cV1
    obtain ⟨gG0, gG1, gG2⟩ := G_1.out
    obtain ⟨bX0, bX1, bX2, _⟩ := X_1.out
    obtain ⟨cV0, cV1⟩ := V_1.out
    go_wp2
    go_ret2
    exact ⟨rfl, HB_1.out⟩
  have K0 := Lib.hid (show bsB P Q G H hs = true from h0)
  have hgd := bs_good h0
  have hmo := good_mo hgd
  have hgr := good_rng hgd
  have hH0 := bs_H h0
  cases h1 : inB (cs.length : Int) 1 24
  · have K1 := Lib.hid (show inB (cs.length : Int) 1 24 = false from h1)
    have E1 := Lib.hid (show vsB P Q G H hs cs t = false by rw [vs_eq]; simp [h0, h1])
    have E2 := Lib.hid (show vsV P Q G H hs cs t p = false by simp only [vsV, E1.out, Bool.false_and])
    rw [E1.out, E2.out]
    clear h0 h1
    obtain ⟨gG0, gG1, gG2⟩ := G_0.out
    obtain ⟨bX0, bX1, bX2, _⟩ := X_0.out
    obtain ⟨cV0, cV1⟩ := V_0.out
    go_enter Try.func36, Try.ntmps36
    go_wp2_with fail
    refine (l9Good_any P Q G H (by omega) Y_0.out).mono ?_
    rw [K0.out]
    rintro e v1 ⟨rfl, hb⟩
    have HB_1 := Lib.hid (bt HB_0.out hb)
    have G_1 := Lib.hid (G_0.out.below hb)
    have V_1 := Lib.hid (V_0.out.below hb)
    have X_1 := Lib.hid (X_0.out.below hb)
    have Y_1 := Lib.hid (Y_0.out.below hb)
    have U_1 := Lib.hid (U_0.out.below hb)
    have PP_1 := Lib.hid (PP_0.out.below hb)
    clear hb gG0 gG1 gG2 bX0 bX1 bX2 cV0 cV1
    obtain ⟨gG0, gG1, gG2⟩ := G_1.out
    obtain ⟨bX0, bX1, bX2, _⟩ := X_1.out
    obtain ⟨cV0, cV1⟩ := V_1.out
    go_wp2_with fail
    refine (l1In_any (cs.length : Int) 1 24 _).mono ?_
    rw [K1.out]
    rintro e w' ⟨rfl, rfl⟩
    go_wp2
    go_ret2
    exact ⟨rfl, HB_1.out⟩
  have K1 := Lib.hid (show inB (cs.length : Int) 1 24 = true from h1)
  cases h2 : allEl P Q cs
  · have K2 := Lib.hid (show allEl P Q cs = false from h2)
    have E1 := Lib.hid (show vsB P Q G H hs cs t = false by rw [vs_eq]; simp [h0, h1, h2])
    have E2 := Lib.hid (show vsV P Q G H hs cs t p = false by simp only [vsV, E1.out, Bool.false_and])
    rw [E1.out, E2.out]
    clear h0 h1 h2
    obtain ⟨gG0, gG1, gG2⟩ := G_0.out
    obtain ⟨bX0, bX1, bX2, _⟩ := X_0.out
    obtain ⟨cV0, cV1⟩ := V_0.out
    go_enter Try.func36, Try.ntmps36
    go_wp2_with fail
    refine (l9Good_any P Q G H (by omega) Y_0.out).mono ?_
    rw [K0.out]
    rintro e v1 ⟨rfl, hb⟩
    have HB_1 := Lib.hid (bt HB_0.out hb)
    have G_1 := Lib.hid (G_0.out.below hb)
    have V_1 := Lib.hid (V_0.out.below hb)
    have X_1 := Lib.hid (X_0.out.below hb)
    have Y_1 := Lib.hid (Y_0.out.below hb)
    have U_1 := Lib.hid (U_0.out.below hb)
    have PP_1 := Lib.hid (PP_0.out.below hb)
    clear hb gG0 gG1 gG2 bX0 bX1 bX2 cV0 cV1
    obtain ⟨gG0, gG1, gG2⟩ := G_1.out
    obtain ⟨bX0, bX1, bX2, _⟩ := X_1.out
    obtain ⟨cV0, cV1⟩ := V_1.out
    go_wp2_with fail
    refine (l1In_any (cs.length : Int) 1 24 _).mono ?_
    rw [K1.out]
    rintro e w' ⟨rfl, rfl⟩
    go_wp2_with fail
    refine (gIs_any P Q G hmo ua cs.length uc cs rfl (by omega) _ (U_1.out.ints).1).mono ?_
    rw [K2.out]
    rintro e v2 ⟨rfl, hb⟩
    have HB_2 := Lib.hid (bt HB_1.out hb)
    have G_2 := Lib.hid (G_1.out.below hb)
    have V_2 := Lib.hid (V_1.out.below hb)
    have X_2 := Lib.hid (X_1.out.below hb)
    have Y_2 := Lib.hid (Y_1.out.below hb)
    have U_2 := Lib.hid (U_1.out.below hb)
    have PP_2 := Lib.hid (PP_1.out.below hb)
    clear hb gG0 gG1 gG2 bX0 bX1 bX2 cV0 cV1
    obtain ⟨gG0, gG1, gG2⟩ := G_2.out
    obtain ⟨bX0, bX1, bX2, _⟩ := X_2.out
    obtain ⟨cV0, cV1⟩ := V_2.out
    go_wp2
    go_ret2
    exact ⟨rfl, HB_2.out⟩
  have K2 := Lib.hid (show allEl P Q cs = true from h2)
  cases h3 : allIn [t] 0 (Q - 1)
  · have K3 := Lib.hid (show allIn [t] 0 (Q - 1) = false from h3)
    have E1 := Lib.hid (show vsB P Q G H hs cs t = false by rw [vs_eq]; simp [h0, h1, h2, h3])
    have E2 := Lib.hid (show vsV P Q G H hs cs t p = false by simp only [vsV, E1.out, Bool.false_and])
    rw [E1.out, E2.out]
    clear h0 h1 h2 h3
    obtain ⟨gG0, gG1, gG2⟩ := G_0.out
    obtain ⟨bX0, bX1, bX2, _⟩ := X_0.out
    obtain ⟨cV0, cV1⟩ := V_0.out
    go_enter Try.func36, Try.ntmps36
    go_wp2_with fail
    refine (l9Good_any P Q G H (by omega) Y_0.out).mono ?_
    rw [K0.out]
    rintro e v1 ⟨rfl, hb⟩
    have HB_1 := Lib.hid (bt HB_0.out hb)
    have G_1 := Lib.hid (G_0.out.below hb)
    have V_1 := Lib.hid (V_0.out.below hb)
    have X_1 := Lib.hid (X_0.out.below hb)
    have Y_1 := Lib.hid (Y_0.out.below hb)
    have U_1 := Lib.hid (U_0.out.below hb)
    have PP_1 := Lib.hid (PP_0.out.below hb)
    clear hb gG0 gG1 gG2 bX0 bX1 bX2 cV0 cV1
    obtain ⟨gG0, gG1, gG2⟩ := G_1.out
    obtain ⟨bX0, bX1, bX2, _⟩ := X_1.out
    obtain ⟨cV0, cV1⟩ := V_1.out
    go_wp2_with fail
    refine (l1In_any (cs.length : Int) 1 24 _).mono ?_
    rw [K1.out]
    rintro e w' ⟨rfl, rfl⟩
    go_wp2_with fail
    refine (gIs_any P Q G hmo ua cs.length uc cs rfl (by omega) _ (U_1.out.ints).1).mono ?_
    rw [K2.out]
    rintro e v2 ⟨rfl, hb⟩
    have HB_2 := Lib.hid (bt HB_1.out hb)
    have G_2 := Lib.hid (G_1.out.below hb)
    have V_2 := Lib.hid (V_1.out.below hb)
    have X_2 := Lib.hid (X_1.out.below hb)
    have Y_2 := Lib.hid (Y_1.out.below hb)
    have U_2 := Lib.hid (U_1.out.below hb)
    have PP_2 := Lib.hid (PP_1.out.below hb)
    clear hb gG0 gG1 gG2 bX0 bX1 bX2 cV0 cV1
    obtain ⟨gG0, gG1, gG2⟩ := G_2.out
    obtain ⟨bX0, bX1, bX2, _⟩ := X_2.out
    obtain ⟨cV0, cV1⟩ := V_2.out
    go_wp2_with fail
    refine (gExps_any P Q G ⟨by omega, by omega⟩ _ 1 1 [t] rfl (by decide) _ (ints_lit v2 [t] 3)).mono ?_
    rw [K3.out]
    rintro e v3 ⟨rfl, hb0⟩
    have hb := bt (ba v2 _) hb0
    clear hb0
    have HB_3 := Lib.hid (bt HB_2.out hb)
    have G_3 := Lib.hid (G_2.out.below hb)
    have V_3 := Lib.hid (V_2.out.below hb)
    have X_3 := Lib.hid (X_2.out.below hb)
    have Y_3 := Lib.hid (Y_2.out.below hb)
    have U_3 := Lib.hid (U_2.out.below hb)
    have PP_3 := Lib.hid (PP_2.out.below hb)
    clear hb gG0 gG1 gG2 bX0 bX1 bX2 cV0 cV1
    obtain ⟨gG0, gG1, gG2⟩ := G_3.out
    obtain ⟨bX0, bX1, bX2, _⟩ := X_3.out
    obtain ⟨cV0, cV1⟩ := V_3.out
    go_wp2
    go_ret2
    exact ⟨rfl, HB_3.out⟩
  have K3 := Lib.hid (show allIn [t] 0 (Q - 1) = true from h3)
  have E1 := Lib.hid (show vsB P Q G H hs cs t = true by rw [vs_eq]; simp [h0, h1, h2, h3])
  have E2 := Lib.hid (show vsV P Q G H hs cs t p = false by unfold vsV suV; rw [HFO.out, Bool.false_and, Bool.and_false])
  rw [E1.out, E2.out]
  have HG := Lib.hid hgd
  have K9 := Lib.hid (show foB P Q p 1 1 1 = false by rw [show foB P Q p 1 1 1 = foV P Q p 1 1 1 from fo_nat (a := 1) (b := 1) (c := 1)]; exact HFO.out)
  clear h0 h1 h2 h3 hgd hH0
  obtain ⟨gG0, gG1, gG2⟩ := G_0.out
  obtain ⟨bX0, bX1, bX2, _⟩ := X_0.out
  obtain ⟨cV0, cV1⟩ := V_0.out
  go_enter Try.func36, Try.ntmps36
  go_wp2_with fail
  refine (l9Good_any P Q G H (by omega) Y_0.out).mono ?_
  rw [K0.out]
  rintro e v1 ⟨rfl, hb⟩
  have HB_1 := Lib.hid (bt HB_0.out hb)
  have G_1 := Lib.hid (G_0.out.below hb)
  have V_1 := Lib.hid (V_0.out.below hb)
  have X_1 := Lib.hid (X_0.out.below hb)
  have Y_1 := Lib.hid (Y_0.out.below hb)
  have U_1 := Lib.hid (U_0.out.below hb)
  have PP_1 := Lib.hid (PP_0.out.below hb)
  clear hb gG0 gG1 gG2 bX0 bX1 bX2 cV0 cV1
  obtain ⟨gG0, gG1, gG2⟩ := G_1.out
  obtain ⟨bX0, bX1, bX2, _⟩ := X_1.out
  obtain ⟨cV0, cV1⟩ := V_1.out
  go_wp2_with fail
  refine (l1In_any (cs.length : Int) 1 24 _).mono ?_
  rw [K1.out]
  rintro e w' ⟨rfl, rfl⟩
  go_wp2_with fail
  refine (gIs_any P Q G hmo ua cs.length uc cs rfl (by omega) _ (U_1.out.ints).1).mono ?_
  rw [K2.out]
  rintro e v2 ⟨rfl, hb⟩
  have HB_2 := Lib.hid (bt HB_1.out hb)
  have G_2 := Lib.hid (G_1.out.below hb)
  have V_2 := Lib.hid (V_1.out.below hb)
  have X_2 := Lib.hid (X_1.out.below hb)
  have Y_2 := Lib.hid (Y_1.out.below hb)
  have U_2 := Lib.hid (U_1.out.below hb)
  have PP_2 := Lib.hid (PP_1.out.below hb)
  clear hb gG0 gG1 gG2 bX0 bX1 bX2 cV0 cV1
  obtain ⟨gG0, gG1, gG2⟩ := G_2.out
  obtain ⟨bX0, bX1, bX2, _⟩ := X_2.out
  obtain ⟨cV0, cV1⟩ := V_2.out
  go_wp2_with fail
  refine (gExps_any P Q G ⟨by omega, by omega⟩ _ 1 1 [t] rfl (by decide) _ (ints_lit v2 [t] 3)).mono ?_
  rw [K3.out]
  rintro e v3 ⟨rfl, hb0⟩
  have hb := bt (ba v2 _) hb0
  clear hb0
  have HB_3 := Lib.hid (bt HB_2.out hb)
  have G_3 := Lib.hid (G_2.out.below hb)
  have V_3 := Lib.hid (V_2.out.below hb)
  have X_3 := Lib.hid (X_2.out.below hb)
  have Y_3 := Lib.hid (Y_2.out.below hb)
  have U_3 := Lib.hid (U_2.out.below hb)
  have PP_3 := Lib.hid (PP_2.out.below hb)
  clear hb gG0 gG1 gG2 bX0 bX1 bX2 cV0 cV1
  obtain ⟨gG0, gG1, gG2⟩ := G_3.out
  obtain ⟨bX0, bX1, bX2, _⟩ := X_3.out
  obtain ⟨cV0, cV1⟩ := V_3.out
  go_wp2_with fail
  refine (l9Form_any P Q G 1 1 1 HG.out hpn PP_3.out).mono ?_
  rw [K9.out]
  rintro e' v9 ⟨rfl, hb9⟩
  have HB_9 := Lib.hid (bt HB_3.out hb9)
  clear hb9
  go_wp2
  go_ret2
  exact ⟨rfl, HB_9.out⟩

set_option maxRecDepth 100000 in
set_option maxHeartbeats 6400000 in
theorem sVerifySum_on (P Q G H t x e z : Int) {B C D xb xo eb eo rb ro c1 c2 c3 : Nat} {y u : Value} {hs cs : List Int} (hl : hs.length ≤ 1048576) (hcs : cs.length ≤ 1048576) (hfo : foV P Q ⟨[x], [e], [z]⟩ 1 1 1 = true) {w : World} (hy : InI B w y hs) (hu : InI D w u cs) (hP : InP C w (pv3 (some ⟨xb, xo, none⟩) 1 c1 (some ⟨eb, eo, none⟩) 1 c2 (some ⟨rb, ro, none⟩) 1 c3) ⟨[x], [e], [z]⟩) (hcx : C1o w xb xo x) (hce : C1o w eb eo e) (hcr : C1o w rb ro z) :
    Calls Try.prog 36 #[gv P Q G, .agg #[.int .i64 H, y], u, .int .i64 t, pv3 (some ⟨xb, xo, none⟩) 1 c1 (some ⟨eb, eo, none⟩) 1 c2 (some ⟨rb, ro, none⟩) 1 c3] w fun er w' => er = .returned (.tuple #[.bool (vsV P Q G H hs cs t ⟨[x], [e], [z]⟩), .bool (vsB P Q G H hs cs t)]) ∧ Below w.heap.size w w' := by
  have HFO := Lib.hid hfo
  clear hfo
  obtain ⟨ua, uc, rfl⟩ := hu.shape
  obtain ⟨ya, yc, rfl⟩ := hy.shape
  have G_9 := Lib.hid ((gr_at w (w.heap.size) (by simp) P Q G 32).below (ba (w.alloc (.cells #[.int .i64 P, .int .i64 Q, .int .i64 G] 32)) (.cells #[.int .i64 H, .slice ya hs.length yc] 34)))
  have V_9 := Lib.hid (d2_at (w.alloc (.cells #[.int .i64 P, .int .i64 Q, .int .i64 G] 32)) (w.heap.size + 1) (by simp) (.int .i64 H) (.slice ya hs.length yc) 34)
  have HB_9 := Lib.hid (show Below w.heap.size w ((w.alloc (.cells #[.int .i64 P, .int .i64 Q, .int .i64 G] 32)).alloc (.cells #[.int .i64 H, .slice ya hs.length yc] 34)) from bt (ba _ _) (ba _ _))
  have hv := b3_new ((w.alloc (.cells #[.int .i64 P, .int .i64 Q, .int .i64 G] 32)).alloc (.cells #[.int .i64 H, .slice ya hs.length yc] 34)) (.slice (some ⟨xb, xo, none⟩) 1 c1) (.slice (some ⟨eb, eo, none⟩) 1 c2) (.slice (some ⟨rb, ro, none⟩) 1 c3) 29
  rw [show ((w.alloc (.cells #[.int .i64 P, .int .i64 Q, .int .i64 G] 32)).alloc (.cells #[.int .i64 H, .slice ya hs.length yc] 34)).heap.size = w.heap.size + 2 by simp] at hv
  have X_0 := Lib.hid hv
  have G_0 := Lib.hid (G_9.out.below (ba _ (.cells #[.slice (some ⟨xb, xo, none⟩) 1 c1, .slice (some ⟨eb, eo, none⟩) 1 c2, .slice (some ⟨rb, ro, none⟩) 1 c3] 29)))
  have V_0 := Lib.hid (V_9.out.below (ba _ (.cells #[.slice (some ⟨xb, xo, none⟩) 1 c1, .slice (some ⟨eb, eo, none⟩) 1 c2, .slice (some ⟨rb, ro, none⟩) 1 c3] 29)))
  have HB_0 := Lib.hid (bt HB_9.out (ba _ (.cells #[.slice (some ⟨xb, xo, none⟩) 1 c1, .slice (some ⟨eb, eo, none⟩) 1 c2, .slice (some ⟨rb, ro, none⟩) 1 c3] 29)))
  have Y_0 := Lib.hid (hy.below HB_0.out)
  have U_0 := Lib.hid (hu.below HB_0.out)
  have PP_0 := Lib.hid (hP.below HB_0.out)
  have CX_0 := Lib.hid (hcx.below HB_0.out)
  have CE_0 := Lib.hid (hce.below HB_0.out)
  have CR_0 := Lib.hid (hcr.below HB_0.out)
  clear hv hP hy hu hcx hce hcr G_9 V_9 HB_9
  cases h0 : bsB P Q G H hs
  · have K0 := Lib.hid (show bsB P Q G H hs = false from h0)
    have E1 := Lib.hid (show vsB P Q G H hs cs t = false by rw [vs_eq]; simp [h0])
    have E2 := Lib.hid (show vsV P Q G H hs cs t ⟨[x], [e], [z]⟩ = false by simp only [vsV, E1.out, Bool.false_and])
    rw [E1.out, E2.out]
    clear h0
    obtain ⟨gG0, gG1, gG2⟩ := G_0.out
    obtain ⟨bX0, bX1, bX2, _⟩ := X_0.out
    obtain ⟨cV0, cV1⟩ := V_0.out
    go_enter Try.func36, Try.ntmps36
    go_wp2_with fail
    refine (l9Good_any P Q G H (by omega) Y_0.out).mono ?_
    rw [K0.out]
    rintro e v1 ⟨rfl, hb⟩
    have HB_1 := Lib.hid (bt HB_0.out hb)
    have G_1 := Lib.hid (G_0.out.below hb)
    have V_1 := Lib.hid (V_0.out.below hb)
    have X_1 := Lib.hid (X_0.out.below hb)
    have Y_1 := Lib.hid (Y_0.out.below hb)
    have U_1 := Lib.hid (U_0.out.below hb)
    have PP_1 := Lib.hid (PP_0.out.below hb)
    have CX_1 := Lib.hid (CX_0.out.below hb)
    have CE_1 := Lib.hid (CE_0.out.below hb)
    have CR_1 := Lib.hid (CR_0.out.below hb)
    clear hb gG0 gG1 gG2 bX0 bX1 bX2 cV0 cV1
    obtain ⟨gG0, gG1, gG2⟩ := G_1.out
    obtain ⟨bX0, bX1, bX2, _⟩ := X_1.out
    obtain ⟨cV0, cV1⟩ := V_1.out
    go_wp2
    go_ret2
    exact ⟨rfl, HB_1.out⟩
  have K0 := Lib.hid (show bsB P Q G H hs = true from h0)
  have hgd := bs_good h0
  have hmo := good_mo hgd
  have hgr := good_rng hgd
  have hH0 := bs_H h0
  cases h1 : inB (cs.length : Int) 1 24
  · have K1 := Lib.hid (show inB (cs.length : Int) 1 24 = false from h1)
    have E1 := Lib.hid (show vsB P Q G H hs cs t = false by rw [vs_eq]; simp [h0, h1])
    have E2 := Lib.hid (show vsV P Q G H hs cs t ⟨[x], [e], [z]⟩ = false by simp only [vsV, E1.out, Bool.false_and])
    rw [E1.out, E2.out]
    clear h0 h1
    obtain ⟨gG0, gG1, gG2⟩ := G_0.out
    obtain ⟨bX0, bX1, bX2, _⟩ := X_0.out
    obtain ⟨cV0, cV1⟩ := V_0.out
    go_enter Try.func36, Try.ntmps36
    go_wp2_with fail
    refine (l9Good_any P Q G H (by omega) Y_0.out).mono ?_
    rw [K0.out]
    rintro e v1 ⟨rfl, hb⟩
    have HB_1 := Lib.hid (bt HB_0.out hb)
    have G_1 := Lib.hid (G_0.out.below hb)
    have V_1 := Lib.hid (V_0.out.below hb)
    have X_1 := Lib.hid (X_0.out.below hb)
    have Y_1 := Lib.hid (Y_0.out.below hb)
    have U_1 := Lib.hid (U_0.out.below hb)
    have PP_1 := Lib.hid (PP_0.out.below hb)
    have CX_1 := Lib.hid (CX_0.out.below hb)
    have CE_1 := Lib.hid (CE_0.out.below hb)
    have CR_1 := Lib.hid (CR_0.out.below hb)
    clear hb gG0 gG1 gG2 bX0 bX1 bX2 cV0 cV1
    obtain ⟨gG0, gG1, gG2⟩ := G_1.out
    obtain ⟨bX0, bX1, bX2, _⟩ := X_1.out
    obtain ⟨cV0, cV1⟩ := V_1.out
    go_wp2_with fail
    refine (l1In_any (cs.length : Int) 1 24 _).mono ?_
    rw [K1.out]
    rintro e w' ⟨rfl, rfl⟩
    go_wp2
    go_ret2
    exact ⟨rfl, HB_1.out⟩
  have K1 := Lib.hid (show inB (cs.length : Int) 1 24 = true from h1)
  cases h2 : allEl P Q cs
  · have K2 := Lib.hid (show allEl P Q cs = false from h2)
    have E1 := Lib.hid (show vsB P Q G H hs cs t = false by rw [vs_eq]; simp [h0, h1, h2])
    have E2 := Lib.hid (show vsV P Q G H hs cs t ⟨[x], [e], [z]⟩ = false by simp only [vsV, E1.out, Bool.false_and])
    rw [E1.out, E2.out]
    clear h0 h1 h2
    obtain ⟨gG0, gG1, gG2⟩ := G_0.out
    obtain ⟨bX0, bX1, bX2, _⟩ := X_0.out
    obtain ⟨cV0, cV1⟩ := V_0.out
    go_enter Try.func36, Try.ntmps36
    go_wp2_with fail
    refine (l9Good_any P Q G H (by omega) Y_0.out).mono ?_
    rw [K0.out]
    rintro e v1 ⟨rfl, hb⟩
    have HB_1 := Lib.hid (bt HB_0.out hb)
    have G_1 := Lib.hid (G_0.out.below hb)
    have V_1 := Lib.hid (V_0.out.below hb)
    have X_1 := Lib.hid (X_0.out.below hb)
    have Y_1 := Lib.hid (Y_0.out.below hb)
    have U_1 := Lib.hid (U_0.out.below hb)
    have PP_1 := Lib.hid (PP_0.out.below hb)
    have CX_1 := Lib.hid (CX_0.out.below hb)
    have CE_1 := Lib.hid (CE_0.out.below hb)
    have CR_1 := Lib.hid (CR_0.out.below hb)
    clear hb gG0 gG1 gG2 bX0 bX1 bX2 cV0 cV1
    obtain ⟨gG0, gG1, gG2⟩ := G_1.out
    obtain ⟨bX0, bX1, bX2, _⟩ := X_1.out
    obtain ⟨cV0, cV1⟩ := V_1.out
    go_wp2_with fail
    refine (l1In_any (cs.length : Int) 1 24 _).mono ?_
    rw [K1.out]
    rintro e w' ⟨rfl, rfl⟩
    go_wp2_with fail
    refine (gIs_any P Q G hmo ua cs.length uc cs rfl (by omega) _ (U_1.out.ints).1).mono ?_
    rw [K2.out]
    rintro e v2 ⟨rfl, hb⟩
    have HB_2 := Lib.hid (bt HB_1.out hb)
    have G_2 := Lib.hid (G_1.out.below hb)
    have V_2 := Lib.hid (V_1.out.below hb)
    have X_2 := Lib.hid (X_1.out.below hb)
    have Y_2 := Lib.hid (Y_1.out.below hb)
    have U_2 := Lib.hid (U_1.out.below hb)
    have PP_2 := Lib.hid (PP_1.out.below hb)
    have CX_2 := Lib.hid (CX_1.out.below hb)
    have CE_2 := Lib.hid (CE_1.out.below hb)
    have CR_2 := Lib.hid (CR_1.out.below hb)
    clear hb gG0 gG1 gG2 bX0 bX1 bX2 cV0 cV1
    obtain ⟨gG0, gG1, gG2⟩ := G_2.out
    obtain ⟨bX0, bX1, bX2, _⟩ := X_2.out
    obtain ⟨cV0, cV1⟩ := V_2.out
    go_wp2
    go_ret2
    exact ⟨rfl, HB_2.out⟩
  have K2 := Lib.hid (show allEl P Q cs = true from h2)
  cases h3 : allIn [t] 0 (Q - 1)
  · have K3 := Lib.hid (show allIn [t] 0 (Q - 1) = false from h3)
    have E1 := Lib.hid (show vsB P Q G H hs cs t = false by rw [vs_eq]; simp [h0, h1, h2, h3])
    have E2 := Lib.hid (show vsV P Q G H hs cs t ⟨[x], [e], [z]⟩ = false by simp only [vsV, E1.out, Bool.false_and])
    rw [E1.out, E2.out]
    clear h0 h1 h2 h3
    obtain ⟨gG0, gG1, gG2⟩ := G_0.out
    obtain ⟨bX0, bX1, bX2, _⟩ := X_0.out
    obtain ⟨cV0, cV1⟩ := V_0.out
    go_enter Try.func36, Try.ntmps36
    go_wp2_with fail
    refine (l9Good_any P Q G H (by omega) Y_0.out).mono ?_
    rw [K0.out]
    rintro e v1 ⟨rfl, hb⟩
    have HB_1 := Lib.hid (bt HB_0.out hb)
    have G_1 := Lib.hid (G_0.out.below hb)
    have V_1 := Lib.hid (V_0.out.below hb)
    have X_1 := Lib.hid (X_0.out.below hb)
    have Y_1 := Lib.hid (Y_0.out.below hb)
    have U_1 := Lib.hid (U_0.out.below hb)
    have PP_1 := Lib.hid (PP_0.out.below hb)
    have CX_1 := Lib.hid (CX_0.out.below hb)
    have CE_1 := Lib.hid (CE_0.out.below hb)
    have CR_1 := Lib.hid (CR_0.out.below hb)
    clear hb gG0 gG1 gG2 bX0 bX1 bX2 cV0 cV1
    obtain ⟨gG0, gG1, gG2⟩ := G_1.out
    obtain ⟨bX0, bX1, bX2, _⟩ := X_1.out
    obtain ⟨cV0, cV1⟩ := V_1.out
    go_wp2_with fail
    refine (l1In_any (cs.length : Int) 1 24 _).mono ?_
    rw [K1.out]
    rintro e w' ⟨rfl, rfl⟩
    go_wp2_with fail
    refine (gIs_any P Q G hmo ua cs.length uc cs rfl (by omega) _ (U_1.out.ints).1).mono ?_
    rw [K2.out]
    rintro e v2 ⟨rfl, hb⟩
    have HB_2 := Lib.hid (bt HB_1.out hb)
    have G_2 := Lib.hid (G_1.out.below hb)
    have V_2 := Lib.hid (V_1.out.below hb)
    have X_2 := Lib.hid (X_1.out.below hb)
    have Y_2 := Lib.hid (Y_1.out.below hb)
    have U_2 := Lib.hid (U_1.out.below hb)
    have PP_2 := Lib.hid (PP_1.out.below hb)
    have CX_2 := Lib.hid (CX_1.out.below hb)
    have CE_2 := Lib.hid (CE_1.out.below hb)
    have CR_2 := Lib.hid (CR_1.out.below hb)
    clear hb gG0 gG1 gG2 bX0 bX1 bX2 cV0 cV1
    obtain ⟨gG0, gG1, gG2⟩ := G_2.out
    obtain ⟨bX0, bX1, bX2, _⟩ := X_2.out
    obtain ⟨cV0, cV1⟩ := V_2.out
    go_wp2_with fail
    refine (gExps_any P Q G ⟨by omega, by omega⟩ _ 1 1 [t] rfl (by decide) _ (ints_lit v2 [t] 3)).mono ?_
    rw [K3.out]
    rintro e v3 ⟨rfl, hb0⟩
    have hb := bt (ba v2 _) hb0
    clear hb0
    have HB_3 := Lib.hid (bt HB_2.out hb)
    have G_3 := Lib.hid (G_2.out.below hb)
    have V_3 := Lib.hid (V_2.out.below hb)
    have X_3 := Lib.hid (X_2.out.below hb)
    have Y_3 := Lib.hid (Y_2.out.below hb)
    have U_3 := Lib.hid (U_2.out.below hb)
    have PP_3 := Lib.hid (PP_2.out.below hb)
    have CX_3 := Lib.hid (CX_2.out.below hb)
    have CE_3 := Lib.hid (CE_2.out.below hb)
    have CR_3 := Lib.hid (CR_2.out.below hb)
    clear hb gG0 gG1 gG2 bX0 bX1 bX2 cV0 cV1
    obtain ⟨gG0, gG1, gG2⟩ := G_3.out
    obtain ⟨bX0, bX1, bX2, _⟩ := X_3.out
    obtain ⟨cV0, cV1⟩ := V_3.out
    go_wp2
    go_ret2
    exact ⟨rfl, HB_3.out⟩
  have K3 := Lib.hid (show allIn [t] 0 (Q - 1) = true from h3)
  have E1 := Lib.hid (show vsB P Q G H hs cs t = true by rw [vs_eq]; simp [h0, h1, h2, h3])
  rw [E1.out]
  obtain ⟨_, _, _, fx, fe, fz⟩ := foV_true.1 HFO.out
  simp only at fx fe fz
  have hme := els_mul hgd h2
  have htt : 0 ≤ t ∧ t < Q := exB_true.1 (by rw [← in_one]; exact h3)
  have hxe : elB P Q x = true := by simpa [allEl] using fx
  have her := in_single fe
  have hzr := in_single fz
  have hxr := el_rng hxe
  have hcl : cs.length ≤ 24 := by have := inB_true.1 h1; omega
  have ESV : vsV P Q G H hs cs t ⟨[x], [e], [z]⟩ = (decide (e = chX P Q G sumL [H, mulFrom P 1 cs, t, x]) && decide (Num.pow H z P = x * Num.pow (mulFrom P 1 cs * Num.pow G ((-t) % Q) P % P) e P % P)) := by
    unfold vsV suV
    rw [E1.out, HFO.out]; rfl
  obtain ⟨sv, hsv⟩ : ∃ s, vsV P Q G H hs cs t ⟨[x], [e], [z]⟩ = s := ⟨_, rfl⟩
  rw [hsv] at ESV ⊢
  have HMC := Lib.hid (fun (ad : Option Addr) (cap : Nat) (W : World) (hz : IsInts W ad cs) => gMul_any P Q G ad cs.length cap cs rfl (by omega) hmo.1.1 hmo.1.2 (fun z hz => by have := els_range h2 z hz; omega) W hz)
  obtain ⟨c, hcv⟩ : ∃ c, mulFrom P 1 cs = c := ⟨_, rfl⟩
  rw [hcv] at ESV HMC hme
  have hcr := el_rng hme
  have hpg := pow_lt G ((-t) % Q) P hmo.1.1
  have em1 := mul_two (b := Num.pow G ((-t) % Q) P) hcr.1 hcr.2
  have hp1 := pair_rng hcr hpg
  have hyr := mul_rng hmo.1.1 c (Num.pow G ((-t) % Q) P)
  obtain ⟨pg, hpge⟩ : ∃ k, Num.pow G ((-t) % Q) P = k := ⟨_, rfl⟩
  rw [hpge] at em1 hp1 hyr ESV
  obtain ⟨yv, hyv⟩ : ∃ k, c * pg % P = k := ⟨_, rfl⟩
  rw [hyv] at em1 hyr ESV
  have hpw := pow_lt yv e P hmo.1.1
  have em2 := mul_two (b := Num.pow yv e P) hxr.1 hxr.2
  have hp2 := pair_rng hxr hpw
  obtain ⟨pw, hpwe⟩ : ∃ k, Num.pow yv e P = k := ⟨_, rfl⟩
  rw [hpwe] at em2 hp2 ESV
  obtain ⟨mv, hmv⟩ : ∃ k, x * pw % P = k := ⟨_, rfl⟩
  rw [hmv] at em2 ESV
  obtain ⟨pz, hpz⟩ : ∃ k, Num.pow H z P = k := ⟨_, rfl⟩
  rw [hpz] at ESV
  obtain ⟨ch, hch⟩ : ∃ k, chX P Q G sumL [H, c, t, x] = k := ⟨_, rfl⟩
  rw [hch] at ESV
  have HG := Lib.hid hgd
  have HH := Lib.hid hH0
  have HC := Lib.hid hme
  have HX := Lib.hid hxe
  have HPQ := Lib.hid (And.intro hmo.1 hgr.2.1)
  have HHr := Lib.hid (el_sm hgd hH0)
  have HGr := Lib.hid (el_sm hgd (good_el hgd))
  have HZr := Lib.hid hzr
  have HTr := Lib.hid htt
  have HEr := Lib.hid her
  have HYr := Lib.hid (show 0 ≤ yv ∧ yv ≤ 2000000000 by have := hmo.1; omega)
  have HPZ := Lib.hid hpz
  have HPG := Lib.hid hpge
  have HPW := Lib.hid hpwe
  have EM1 := Lib.hid em1
  have EM2 := Lib.hid em2
  have HP1 := Lib.hid hp1
  have HP2 := Lib.hid hp2
  have HCH := Lib.hid hch
  have HSV := Lib.hid ESV
  have hng : IntKind.i64.wrap (-t) = -t := by rw [IntKind.wrap_i64]; have := hgr.2.1; omega
  have hng0 : IntKind.i64.wrap (0 - t) = -t := by rw [IntKind.wrap_i64]; have := hgr.2.1; omega
  have HN1 := Lib.hid hng
  have HN0 := Lib.hid hng0
  have K9 := Lib.hid (show foB P Q ⟨[x], [e], [z]⟩ 1 1 1 = true by rw [show foB P Q ⟨[x], [e], [z]⟩ 1 1 1 = foV P Q ⟨[x], [e], [z]⟩ 1 1 1 from fo_nat (a := 1) (b := 1) (c := 1)]; exact HFO.out)
  clear h0 h1 h2 h3 hgd hH0 hme htt hxe her hzr hxr hcl ESV hcv hcr hpg em1 hp1 hyr hpge hyv hpw em2 hp2 hpwe hmv hpz hch hsv fx fe fz hng hng0
  obtain ⟨gG0, gG1, gG2⟩ := G_0.out
  obtain ⟨bX0, bX1, bX2, _⟩ := X_0.out
  obtain ⟨cV0, cV1⟩ := V_0.out
  go_enter Try.func36, Try.ntmps36
  go_wp2_with fail
  refine (l9Good_any P Q G H (by omega) Y_0.out).mono ?_
  rw [K0.out]
  rintro e v1 ⟨rfl, hb⟩
  have HB_1 := Lib.hid (bt HB_0.out hb)
  have G_1 := Lib.hid (G_0.out.below hb)
  have V_1 := Lib.hid (V_0.out.below hb)
  have X_1 := Lib.hid (X_0.out.below hb)
  have Y_1 := Lib.hid (Y_0.out.below hb)
  have U_1 := Lib.hid (U_0.out.below hb)
  have PP_1 := Lib.hid (PP_0.out.below hb)
  have CX_1 := Lib.hid (CX_0.out.below hb)
  have CE_1 := Lib.hid (CE_0.out.below hb)
  have CR_1 := Lib.hid (CR_0.out.below hb)
  clear hb gG0 gG1 gG2 bX0 bX1 bX2 cV0 cV1
  obtain ⟨gG0, gG1, gG2⟩ := G_1.out
  obtain ⟨bX0, bX1, bX2, _⟩ := X_1.out
  obtain ⟨cV0, cV1⟩ := V_1.out
  go_wp2_with fail
  refine (l1In_any (cs.length : Int) 1 24 _).mono ?_
  rw [K1.out]
  rintro e w' ⟨rfl, rfl⟩
  go_wp2_with fail
  refine (gIs_any P Q G hmo ua cs.length uc cs rfl (by omega) _ (U_1.out.ints).1).mono ?_
  rw [K2.out]
  rintro e v2 ⟨rfl, hb⟩
  have HB_2 := Lib.hid (bt HB_1.out hb)
  have G_2 := Lib.hid (G_1.out.below hb)
  have V_2 := Lib.hid (V_1.out.below hb)
  have X_2 := Lib.hid (X_1.out.below hb)
  have Y_2 := Lib.hid (Y_1.out.below hb)
  have U_2 := Lib.hid (U_1.out.below hb)
  have PP_2 := Lib.hid (PP_1.out.below hb)
  have CX_2 := Lib.hid (CX_1.out.below hb)
  have CE_2 := Lib.hid (CE_1.out.below hb)
  have CR_2 := Lib.hid (CR_1.out.below hb)
  clear hb gG0 gG1 gG2 bX0 bX1 bX2 cV0 cV1
  obtain ⟨gG0, gG1, gG2⟩ := G_2.out
  obtain ⟨bX0, bX1, bX2, _⟩ := X_2.out
  obtain ⟨cV0, cV1⟩ := V_2.out
  go_wp2_with fail
  refine (gExps_any P Q G ⟨by omega, by omega⟩ _ 1 1 [t] rfl (by decide) _ (ints_lit v2 [t] 3)).mono ?_
  rw [K3.out]
  rintro e v3 ⟨rfl, hb0⟩
  have hb := bt (ba v2 _) hb0
  clear hb0
  have HB_3 := Lib.hid (bt HB_2.out hb)
  have G_3 := Lib.hid (G_2.out.below hb)
  have V_3 := Lib.hid (V_2.out.below hb)
  have X_3 := Lib.hid (X_2.out.below hb)
  have Y_3 := Lib.hid (Y_2.out.below hb)
  have U_3 := Lib.hid (U_2.out.below hb)
  have PP_3 := Lib.hid (PP_2.out.below hb)
  have CX_3 := Lib.hid (CX_2.out.below hb)
  have CE_3 := Lib.hid (CE_2.out.below hb)
  have CR_3 := Lib.hid (CR_2.out.below hb)
  clear hb gG0 gG1 gG2 bX0 bX1 bX2 cV0 cV1
  obtain ⟨gG0, gG1, gG2⟩ := G_3.out
  obtain ⟨bX0, bX1, bX2, _⟩ := X_3.out
  obtain ⟨cV0, cV1⟩ := V_3.out
  go_wp2_with fail
  refine (l9Form_any P Q G 1 1 1 HG.out (by simp [PrD.n]) PP_3.out).mono ?_
  rw [K9.out]
  rintro e' v9 ⟨rfl, hb⟩
  have HB_9 := Lib.hid (bt HB_3.out hb)
  have G_9 := Lib.hid (G_3.out.below hb)
  have V_9 := Lib.hid (V_3.out.below hb)
  have X_9 := Lib.hid (X_3.out.below hb)
  have CX_9 := Lib.hid (CX_3.out.below hb)
  have CE_9 := Lib.hid (CE_3.out.below hb)
  have CR_9 := Lib.hid (CR_3.out.below hb)
  have Y_9 := Lib.hid (Y_3.out.below hb)
  have U_9 := Lib.hid (U_3.out.below hb)
  clear hb
  clear gG0 gG1 gG2 bX0 bX1 bX2 cV0 cV1
  obtain ⟨g0, g1, g2⟩ := G_9.out
  go_wp2_with fail
  refine (HMC.out ua uc _ (U_9.out.ints).1).mono ?_
  rintro e' v10 ⟨rfl, hb⟩
  have HB_10 := Lib.hid (bt HB_9.out hb)
  have G_10 := Lib.hid (G_9.out.below hb)
  have V_10 := Lib.hid (V_9.out.below hb)
  have X_10 := Lib.hid (X_9.out.below hb)
  have CX_10 := Lib.hid (CX_9.out.below hb)
  have CE_10 := Lib.hid (CE_9.out.below hb)
  have CR_10 := Lib.hid (CR_9.out.below hb)
  have Y_10 := Lib.hid (Y_9.out.below hb)
  have U_10 := Lib.hid (U_9.out.below hb)
  clear hb
  clear g0 g1 g2
  go_wp2_with fail
  have hbd : Below v10.heap.size v10 v10.drew := (Below.refl _ v10).drew
  have HB_s := Lib.hid (bt HB_10.out hbd)
  have G_s := Lib.hid (G_10.out.below hbd)
  have V_s := Lib.hid (V_10.out.below hbd)
  have X_s := Lib.hid (X_10.out.below hbd)
  have CX_s := Lib.hid (CX_10.out.below hbd)
  have CE_s := Lib.hid (CE_10.out.below hbd)
  have CR_s := Lib.hid (CR_10.out.below hbd)
  clear hbd
  refine wp_region_held_drew (S := (fun w' => ((w'.cell? ⟨w.heap.size, 0, none⟩ = some (.int .i64 P) ∧ w'.cell? ⟨w.heap.size, 1, none⟩ = some (.int .i64 Q) ∧ w'.cell? ⟨w.heap.size, 2, none⟩ = some (.int .i64 G)) ∧ (w'.cell? ⟨w.heap.size + 1, 0, none⟩ = some (.int .i64 H) ∧ w'.cell? ⟨w.heap.size + 1, 1, none⟩ = some (.slice ya hs.length yc))) ∧ (w'.cell? ⟨w.heap.size + 2, 0, none⟩ = some (.slice (some ⟨xb, xo, none⟩) 1 c1) ∧ w'.cell? ⟨w.heap.size + 2, 1, none⟩ = some (.slice (some ⟨eb, eo, none⟩) 1 c2) ∧ w'.cell? ⟨w.heap.size + 2, 2, none⟩ = some (.slice (some ⟨rb, ro, none⟩) 1 c3)) ∧ w'.cell? ⟨xb, xo, none⟩ = some (.int .i64 x) ∧ w'.cell? ⟨eb, eo, none⟩ = some (.int .i64 e) ∧ w'.cell? ⟨rb, ro, none⟩ = some (.int .i64 z))) (by kernel_rfl) (show _ from ⟨⟨⟨G_10.out.1, G_10.out.2.1, G_10.out.2.2⟩, ⟨V_10.out.1, V_10.out.2⟩⟩, ⟨X_10.out.1, X_10.out.2.1, X_10.out.2.2.1⟩, CX_10.out, CE_10.out, CR_10.out⟩) (fun hHeld => ?_)
  generalize hW0 : v10.drew = Ws at *
  clear hW0
  refine wpAnyH_take (i := 0) (v := ?_) rfl (by kernel_rfl) (by kernel_rfl) (by kernel_rfl) (fun _ _ _ h => h) (Or.inl ⟨by kernel_rfl, ?_⟩) (by assumption) ?_
  rotate_left 1
  · intro w9 hSw
    try dsimp only at hSw
    go_simp
    try with_reducible rfl
  try simp only [Act.put, List.getElem_toArray, List.getElem_cons_succ, List.getElem_cons_zero, List.setIfInBounds_toArray, List.set_cons_zero, List.set_cons_succ]
  refine wpAnyH_take (i := 1) (v := ?_) rfl (by kernel_rfl) (by kernel_rfl) (by kernel_rfl) (fun _ _ _ h => h) (Or.inl ⟨by kernel_rfl, ?_⟩) (by assumption) ?_
  rotate_left 1
  · intro w9 hSw
    try dsimp only at hSw
    go_simp
    try with_reducible rfl
  try simp only [Act.put, List.getElem_toArray, List.getElem_cons_succ, List.getElem_cons_zero, List.setIfInBounds_toArray, List.set_cons_zero, List.set_cons_succ]
  refine wpAnyH_take (i := 2) (v := ?_) rfl (by kernel_rfl) (by kernel_rfl) (by kernel_rfl) (fun _ _ _ h => h) (Or.inl ⟨by kernel_rfl, ?_⟩) (by assumption) ?_
  rotate_left 1
  · intro w9 hSw
    try dsimp only at hSw
    go_simp
    try with_reducible rfl
  try simp only [Act.put, List.getElem_toArray, List.getElem_cons_succ, List.getElem_cons_zero, List.setIfInBounds_toArray, List.set_cons_zero, List.set_cons_succ]
  refine wpAnyH_take (i := 3) (v := ?_) rfl (by kernel_rfl) (by kernel_rfl) (by kernel_rfl) (fun _ _ _ h => h) (Or.inl ⟨by kernel_rfl, ?_⟩) (by assumption) ?_
  rotate_left 1
  · intro w9 hSw
    try dsimp only at hSw
    go_simp
    try with_reducible rfl
  try simp only [Act.put, List.getElem_toArray, List.getElem_cons_succ, List.getElem_cons_zero, List.setIfInBounds_toArray, List.set_cons_zero, List.set_cons_succ]
  refine wpAnyH_take (i := 4) (v := ?_) rfl (by kernel_rfl) (by kernel_rfl) (by kernel_rfl) (fun _ _ _ h => h) (Or.inl ⟨by kernel_rfl, ?_⟩) (by assumption) ?_
  rotate_left 1
  · intro w9 hSw
    try dsimp only at hSw
    go_simp
    try with_reducible rfl
  try simp only [Act.put, List.getElem_toArray, List.getElem_cons_succ, List.getElem_cons_zero, List.setIfInBounds_toArray, List.set_cons_zero, List.set_cons_succ]
  refine wpAnyH_take (i := 5) (v := ?_) rfl (by kernel_rfl) (by kernel_rfl) (by kernel_rfl) (fun _ _ _ h => h) (Or.inl ⟨by kernel_rfl, ?_⟩) (by assumption) ?_
  rotate_left 1
  · intro w9 hSw
    try dsimp only at hSw
    go_simp
    try with_reducible rfl
  try simp only [Act.put, List.getElem_toArray, List.getElem_cons_succ, List.getElem_cons_zero, List.setIfInBounds_toArray, List.set_cons_zero, List.set_cons_succ]
  refine wpAnyH_take (i := 6) (v := ?_) rfl (by kernel_rfl) (by kernel_rfl) (by kernel_rfl) (fun _ _ _ h => h) (Or.inl ⟨by kernel_rfl, ?_⟩) (by assumption) ?_
  rotate_left 1
  · intro w9 hSw
    try dsimp only at hSw
    go_simp
    try with_reducible rfl
  try simp only [Act.put, List.getElem_toArray, List.getElem_cons_succ, List.getElem_cons_zero, List.setIfInBounds_toArray, List.set_cons_zero, List.set_cons_succ]
  refine wpAnyH_take (i := 7) (v := ?_) rfl (by kernel_rfl) (by kernel_rfl) (by kernel_rfl) (fun _ _ _ h => h) (Or.inl ⟨by kernel_rfl, ?_⟩) (by assumption) ?_
  rotate_left 1
  · intro w9 hSw
    try dsimp only at hSw
    go_simp
    try with_reducible rfl
  try simp only [Act.put, List.getElem_toArray, List.getElem_cons_succ, List.getElem_cons_zero, List.setIfInBounds_toArray, List.set_cons_zero, List.set_cons_succ]
  refine wpAnyH_take (i := 8) (v := ?_) rfl (by kernel_rfl) (by kernel_rfl) (by kernel_rfl) (fun _ _ _ h => h) (Or.inl ⟨by kernel_rfl, ?_⟩) (by assumption) ?_
  rotate_left 1
  · intro w9 hSw
    try dsimp only at hSw
    go_simp
    try with_reducible rfl
  try simp only [Act.put, List.getElem_toArray, List.getElem_cons_succ, List.getElem_cons_zero, List.setIfInBounds_toArray, List.set_cons_zero, List.set_cons_succ]
  refine wpAnyH_take (i := 9) (v := ?_) rfl (by kernel_rfl) (by kernel_rfl) (by kernel_rfl) (fun _ _ _ h => h) (Or.inl ⟨by kernel_rfl, ?_⟩) (by assumption) ?_
  rotate_left 1
  · intro w9 hSw
    try dsimp only at hSw
    go_simp
    try with_reducible rfl
  try simp only [Act.put, List.getElem_toArray, List.getElem_cons_succ, List.getElem_cons_zero, List.setIfInBounds_toArray, List.set_cons_zero, List.set_cons_succ]
  refine wpAnyH_done (by kernel_rfl) ?_ _
  obtain ⟨g0, g1, g2⟩ := G_s.out
  obtain ⟨d0, d1⟩ := V_s.out
  go_wp2_with fail
  refine (rSumChallenge_any P Q G H c t x HG.out HH.out HC.out HTr.out HX.out _).mono ?_
  rw [HCH.out]
  rintro e' Wz ⟨rfl, hb⟩
  have HB_r := Lib.hid (bt HB_s.out hb)
  have G_r := Lib.hid (G_s.out.below hb)
  have V_r := Lib.hid (V_s.out.below hb)
  have X_r := Lib.hid (X_s.out.below hb)
  have CX_r := Lib.hid (CX_s.out.below hb)
  have CE_r := Lib.hid (CE_s.out.below hb)
  have CR_r := Lib.hid (CR_s.out.below hb)
  clear hb
  clear g0 g1 g2 d0 d1
  by_cases hcmp : e = ch
  · have ES := Lib.hid (show sv = decide (pz = mv) by rw [HSV.out, decide_eq_true hcmp, Bool.true_and])
    have hq : (e == ch) = true := by simp [hcmp]
    have hq2 : (e != ch) = false := by simp [hcmp]
    clear hcmp
    go_wp2_with fail
    clear hq hq2
    have hng := HN1.out
    have hng0 := HN0.out
    refine wp_region_held_drew (S := (fun w' => ((w'.cell? ⟨w.heap.size, 0, none⟩ = some (.int .i64 P) ∧ w'.cell? ⟨w.heap.size, 1, none⟩ = some (.int .i64 Q) ∧ w'.cell? ⟨w.heap.size, 2, none⟩ = some (.int .i64 G)) ∧ (w'.cell? ⟨w.heap.size + 1, 0, none⟩ = some (.int .i64 H) ∧ w'.cell? ⟨w.heap.size + 1, 1, none⟩ = some (.slice ya hs.length yc))) ∧ (w'.cell? ⟨w.heap.size + 2, 0, none⟩ = some (.slice (some ⟨xb, xo, none⟩) 1 c1) ∧ w'.cell? ⟨w.heap.size + 2, 1, none⟩ = some (.slice (some ⟨eb, eo, none⟩) 1 c2) ∧ w'.cell? ⟨w.heap.size + 2, 2, none⟩ = some (.slice (some ⟨rb, ro, none⟩) 1 c3)) ∧ w'.cell? ⟨xb, xo, none⟩ = some (.int .i64 x) ∧ w'.cell? ⟨eb, eo, none⟩ = some (.int .i64 e) ∧ w'.cell? ⟨rb, ro, none⟩ = some (.int .i64 z))) (by kernel_rfl) (show _ from ⟨⟨⟨G_r.out.1, G_r.out.2.1, G_r.out.2.2⟩, ⟨V_r.out.1, V_r.out.2⟩⟩, ⟨X_r.out.1, X_r.out.2.1, X_r.out.2.2.1⟩, CX_r.out, CE_r.out, CR_r.out⟩) (fun hHeld => ?_)
    refine wpAnyH_take (i := 0) (v := ?_) rfl (by kernel_rfl) (by kernel_rfl) (by kernel_rfl) (fun _ _ _ h => h) (Or.inl ⟨by kernel_rfl, ?_⟩) (by assumption) ?_
    rotate_left 1
    · intro w9 hSw
      try dsimp only at hSw
      go_simp
      try with_reducible rfl
    try simp only [Act.put, List.getElem_toArray, List.getElem_cons_succ, List.getElem_cons_zero, List.setIfInBounds_toArray, List.set_cons_zero, List.set_cons_succ]
    refine wpAnyH_take (i := 1) (v := ?_) rfl (by kernel_rfl) (by kernel_rfl) (by kernel_rfl) (fun _ _ _ h => h) (Or.inl ⟨by kernel_rfl, ?_⟩) (by assumption) ?_
    rotate_left 1
    · intro w9 hSw
      try dsimp only at hSw
      go_simp
      try with_reducible rfl
    try simp only [Act.put, List.getElem_toArray, List.getElem_cons_succ, List.getElem_cons_zero, List.setIfInBounds_toArray, List.set_cons_zero, List.set_cons_succ]
    refine wpAnyH_take (i := 2) (v := ?_) rfl (by kernel_rfl) (by kernel_rfl) (by kernel_rfl) (fun _ _ _ h => h) (Or.inl ⟨by kernel_rfl, ?_⟩) (by assumption) ?_
    rotate_left 1
    · intro w9 hSw
      try dsimp only at hSw
      go_simp
      try with_reducible rfl
    try simp only [Act.put, List.getElem_toArray, List.getElem_cons_succ, List.getElem_cons_zero, List.setIfInBounds_toArray, List.set_cons_zero, List.set_cons_succ]
    refine wpAnyH_take (i := 3) (v := ?_) rfl (by kernel_rfl) (by kernel_rfl) (by kernel_rfl) (fun _ _ _ h => h) (Or.inl ⟨by kernel_rfl, ?_⟩) (by assumption) ?_
    rotate_left 1
    · intro w9 hSw
      try dsimp only at hSw
      go_simp
      try with_reducible rfl
    try simp only [Act.put, List.getElem_toArray, List.getElem_cons_succ, List.getElem_cons_zero, List.setIfInBounds_toArray, List.set_cons_zero, List.set_cons_succ]
    refine wpAnyH_take (i := 4) (v := ?_) rfl (by kernel_rfl) (by kernel_rfl) (by kernel_rfl) (fun _ _ _ h => h) (Or.inl ⟨by kernel_rfl, ?_⟩) (by assumption) ?_
    rotate_left 1
    · intro w9 hSw
      try dsimp only at hSw
      go_simp
      try with_reducible rfl
    try simp only [Act.put, List.getElem_toArray, List.getElem_cons_succ, List.getElem_cons_zero, List.setIfInBounds_toArray, List.set_cons_zero, List.set_cons_succ]
    refine wpAnyH_take (i := 5) (v := ?_) rfl (by kernel_rfl) (by kernel_rfl) (by kernel_rfl) (fun _ _ _ h => h) (Or.inl ⟨by kernel_rfl, ?_⟩) (by assumption) ?_
    rotate_left 1
    · intro w9 hSw
      try dsimp only at hSw
      go_simp
      try with_reducible rfl
    try simp only [Act.put, List.getElem_toArray, List.getElem_cons_succ, List.getElem_cons_zero, List.setIfInBounds_toArray, List.set_cons_zero, List.set_cons_succ]
    refine wpAnyH_take (i := 6) (v := ?_) rfl (by kernel_rfl) (by kernel_rfl) (by kernel_rfl) (fun _ _ _ h => h) (Or.inl ⟨by kernel_rfl, ?_⟩) (by assumption) ?_
    rotate_left 1
    · intro w9 hSw
      try dsimp only at hSw
      go_simp
      try with_reducible rfl
    try simp only [Act.put, List.getElem_toArray, List.getElem_cons_succ, List.getElem_cons_zero, List.setIfInBounds_toArray, List.set_cons_zero, List.set_cons_succ]
    refine wpAnyH_take (i := 8) (v := ?_) rfl (by kernel_rfl) (by kernel_rfl) (by kernel_rfl) (fun _ _ _ h => h) (Or.inl ⟨by kernel_rfl, ?_⟩) (by assumption) ?_
    rotate_left 1
    · intro w9 hSw
      try dsimp only at hSw
      go_simp
      try with_reducible rfl
    try simp only [Act.put, List.getElem_toArray, List.getElem_cons_succ, List.getElem_cons_zero, List.setIfInBounds_toArray, List.set_cons_zero, List.set_cons_succ]
    refine wpAnyH_take (i := 9) (v := ?_) rfl (by kernel_rfl) (by kernel_rfl) (by kernel_rfl) (fun _ _ _ h => h) (Or.inl ⟨by kernel_rfl, ?_⟩) (by assumption) ?_
    rotate_left 1
    · intro w9 hSw
      try dsimp only at hSw
      go_simp
      try with_reducible rfl
    try simp only [Act.put, List.getElem_toArray, List.getElem_cons_succ, List.getElem_cons_zero, List.setIfInBounds_toArray, List.set_cons_zero, List.set_cons_succ]
    refine wpAnyH_take (i := 10) (v := ?_) rfl (by kernel_rfl) (by kernel_rfl) (by kernel_rfl) (fun _ _ _ h => h) (Or.inl ⟨by kernel_rfl, ?_⟩) (by assumption) ?_
    rotate_left 1
    · intro w9 hSw
      try dsimp only at hSw
      go_simp
      try with_reducible rfl
    try simp only [Act.put, List.getElem_toArray, List.getElem_cons_succ, List.getElem_cons_zero, List.setIfInBounds_toArray, List.set_cons_zero, List.set_cons_succ]
    refine wpAnyH_take (i := 11) (v := ?_) rfl (by kernel_rfl) (by kernel_rfl) (by kernel_rfl) (fun _ _ _ h => h) (Or.inl ⟨by kernel_rfl, ?_⟩) (by assumption) ?_
    rotate_left 1
    · intro w9 hSw
      try dsimp only at hSw
      go_simp
      try with_reducible rfl
    try simp only [Act.put, List.getElem_toArray, List.getElem_cons_succ, List.getElem_cons_zero, List.setIfInBounds_toArray, List.set_cons_zero, List.set_cons_succ]
    refine wpAnyH_take (i := 12) (v := ?_) rfl (by kernel_rfl) (by kernel_rfl) (by kernel_rfl) (fun _ _ _ h => h) (Or.inl ⟨by kernel_rfl, ?_⟩) (by assumption) ?_
    rotate_left 1
    · intro w9 hSw
      try dsimp only at hSw
      go_simp
      try with_reducible rfl
    try simp only [Act.put, List.getElem_toArray, List.getElem_cons_succ, List.getElem_cons_zero, List.setIfInBounds_toArray, List.set_cons_zero, List.set_cons_succ]
    refine wpAnyH_take (i := 13) (v := ?_) rfl (by kernel_rfl) (by kernel_rfl) (by kernel_rfl) (fun _ _ _ h => h) (Or.inl ⟨by kernel_rfl, ?_⟩) (by assumption) ?_
    rotate_left 1
    · intro w9 hSw
      try dsimp only at hSw
      go_simp
      try with_reducible rfl
    try simp only [Act.put, List.getElem_toArray, List.getElem_cons_succ, List.getElem_cons_zero, List.setIfInBounds_toArray, List.set_cons_zero, List.set_cons_succ]
    refine wpAnyH_take (i := 14) (v := ?_) rfl (by kernel_rfl) (by kernel_rfl) (by kernel_rfl) (fun _ _ _ h => h) (Or.inl ⟨by kernel_rfl, ?_⟩) (by assumption) ?_
    rotate_left 1
    · intro w9 hSw
      try dsimp only at hSw
      go_simp
      try with_reducible rfl
    try simp only [Act.put, List.getElem_toArray, List.getElem_cons_succ, List.getElem_cons_zero, List.setIfInBounds_toArray, List.set_cons_zero, List.set_cons_succ]
    refine wpAnyH_take (i := 15) (v := ?_) rfl (by kernel_rfl) (by kernel_rfl) (by kernel_rfl) (fun _ _ _ h => h) (Or.inl ⟨by kernel_rfl, ?_⟩) (by assumption) ?_
    rotate_left 1
    · intro w9 hSw
      try dsimp only at hSw
      go_simp
      try with_reducible rfl
    try simp only [Act.put, List.getElem_toArray, List.getElem_cons_succ, List.getElem_cons_zero, List.setIfInBounds_toArray, List.set_cons_zero, List.set_cons_succ]
    refine wpAnyH_take (i := 16) (v := ?_) rfl (by kernel_rfl) (by kernel_rfl) (by kernel_rfl) (fun _ _ _ h => h) (Or.inl ⟨by kernel_rfl, ?_⟩) (by assumption) ?_
    rotate_left 1
    · intro w9 hSw
      try dsimp only at hSw
      go_simp
      try with_reducible rfl
    try simp only [Act.put, List.getElem_toArray, List.getElem_cons_succ, List.getElem_cons_zero, List.setIfInBounds_toArray, List.set_cons_zero, List.set_cons_succ]
    refine wpAnyH_take (i := 17) (v := ?_) rfl (by kernel_rfl) (by kernel_rfl) (by kernel_rfl) (fun _ _ _ h => h) (Or.inl ⟨by kernel_rfl, ?_⟩) (by assumption) ?_
    rotate_left 1
    · intro w9 hSw
      try dsimp only at hSw
      go_simp
      try with_reducible rfl
    try simp only [Act.put, List.getElem_toArray, List.getElem_cons_succ, List.getElem_cons_zero, List.setIfInBounds_toArray, List.set_cons_zero, List.set_cons_succ]
    refine wpAnyH_take (i := 21) (v := ?_) rfl (by kernel_rfl) (by kernel_rfl) (by kernel_rfl) (fun _ _ _ h => h) (Or.inl ⟨by kernel_rfl, ?_⟩) (by assumption) ?_
    rotate_left 1
    · intro w9 hSw
      try dsimp only at hSw
      go_simp
      try with_reducible rfl
    try simp only [Act.put, List.getElem_toArray, List.getElem_cons_succ, List.getElem_cons_zero, List.setIfInBounds_toArray, List.set_cons_zero, List.set_cons_succ]
    have hB0 : (fun w1 => (Below w.heap.size w w1) ∧ (GR w1 w.heap.size P Q G) ∧ (D2 w1 (w.heap.size + 1) (.int .i64 H) (.slice ya hs.length yc)) ∧ (B3 w1 (w.heap.size + 2) (.slice (some ⟨xb, xo, none⟩) 1 c1) (.slice (some ⟨eb, eo, none⟩) 1 c2) (.slice (some ⟨rb, ro, none⟩) 1 c3)) ∧ (C1o w1 xb xo x) ∧ (C1o w1 eb eo e) ∧ (C1o w1 rb ro z)) Wz.drew := ⟨HB_r.out.drew, G_r.out.drew, V_r.out.drew, X_r.out.drew, CX_r.out, CE_r.out, CR_r.out⟩
    refine wpAnyH_part (V := fun i u w1 => cond (Nat.beq i 7) (u = .int .i64 pz) (cond (Nat.beq i 18) (u = .int .i64 pg) (cond (Nat.beq i 19) (∃ (b19 : Nat), u = .slice (some ⟨b19, 0, none⟩) 2 2 ∧ (IsInts w1 (some ⟨b19, 0, none⟩) [c, pg])) (cond (Nat.beq i 20) (u = .int .i64 yv) (cond (Nat.beq i 22) (u = .int .i64 pw) (cond (Nat.beq i 23) (∃ (b23 : Nat), u = .slice (some ⟨b23, 0, none⟩) 2 2 ∧ (IsInts w1 (some ⟨b23, 0, none⟩) [x, pw])) (cond (Nat.beq i 24) (u = .int .i64 mv) (cond (Nat.beq i 25) (u = .bool (decide (pz = mv))) (cond (Nat.beq i 26) (u = .bool (decide (pz = mv))) (cond (Nat.beq i 27) (u = .bool true) (True))))))))))) (B := fun w1 => (Below w.heap.size w w1) ∧ (GR w1 w.heap.size P Q G) ∧ (D2 w1 (w.heap.size + 1) (.int .i64 H) (.slice ya hs.length yc)) ∧ (B3 w1 (w.heap.size + 2) (.slice (some ⟨xb, xo, none⟩) 1 c1) (.slice (some ⟨eb, eo, none⟩) 1 c2) (.slice (some ⟨rb, ro, none⟩) 1 c3)) ∧ (C1o w1 xb xo x) ∧ (C1o w1 eb eo e) ∧ (C1o w1 rb ro z)) (R := fun w1 w2 => Below w1.heap.size w1 w2) 0 (rs := [7, 18, 19, 20, 22, 23, 24, 25, 26, 27]) (ds := [(7, some 68), (18, some 79), (19, some 80), (20, some 81), (22, some 83), (23, some 84), (24, some 85), (25, some 86), (26, some 10), (27, some 11)]) (by kernel_rfl) (by kernel_rfl) (by kernel_rfl) (by kernel_rfl) (by kernel_rfl) ?_ ?_ ?_ hB0 ?_ ?_
    · intro w1 w2 hB hR
      clear hB0
      obtain ⟨b_HBb, b_Gb, b_Vb, b_Xb, b_CXb, b_CEb, b_CRb⟩ := hB
      exact ⟨bt b_HBb hR, b_Gb.below hR, b_Vb.below hR, b_Xb.below hR, b_CXb.below hR, b_CEb.below hR, b_CRb.below hR⟩
    · clear hB0
      refine Last.cons (fun u w1 w2 hB h hR => ?_) ?_
      · have h1 : u = .int .i64 pz := h
        show u = .int .i64 pz
        exact h1
      refine Last.cons (fun u w1 w2 hB h hR => ?_) ?_
      · have h1 : u = .int .i64 pg := h
        show u = .int .i64 pg
        exact h1
      refine Last.cons (fun u w1 w2 hB h hR => ?_) ?_
      · have h1 : ∃ (b19 : Nat), u = .slice (some ⟨b19, 0, none⟩) 2 2 ∧ (IsInts w1 (some ⟨b19, 0, none⟩) [c, pg]) := h
        show ∃ (b19 : Nat), u = .slice (some ⟨b19, 0, none⟩) 2 2 ∧ (IsInts w2 (some ⟨b19, 0, none⟩) [c, pg])
        obtain ⟨b19, e, f0⟩ := h1
        exact ⟨b19, e, f0.below hR (Nat.le_refl _)⟩
      refine Last.cons (fun u w1 w2 hB h hR => ?_) ?_
      · have h1 : u = .int .i64 yv := h
        show u = .int .i64 yv
        exact h1
      refine Last.cons (fun u w1 w2 hB h hR => ?_) ?_
      · have h1 : u = .int .i64 pw := h
        show u = .int .i64 pw
        exact h1
      refine Last.cons (fun u w1 w2 hB h hR => ?_) ?_
      · have h1 : ∃ (b23 : Nat), u = .slice (some ⟨b23, 0, none⟩) 2 2 ∧ (IsInts w1 (some ⟨b23, 0, none⟩) [x, pw]) := h
        show ∃ (b23 : Nat), u = .slice (some ⟨b23, 0, none⟩) 2 2 ∧ (IsInts w2 (some ⟨b23, 0, none⟩) [x, pw])
        obtain ⟨b23, e, f0⟩ := h1
        exact ⟨b23, e, f0.below hR (Nat.le_refl _)⟩
      refine Last.cons (fun u w1 w2 hB h hR => ?_) ?_
      · have h1 : u = .int .i64 mv := h
        show u = .int .i64 mv
        exact h1
      refine Last.cons (fun u w1 w2 hB h hR => ?_) ?_
      · have h1 : u = .bool (decide (pz = mv)) := h
        show u = .bool (decide (pz = mv))
        exact h1
      refine Last.cons (fun u w1 w2 hB h hR => ?_) ?_
      · have h1 : u = .bool (decide (pz = mv)) := h
        show u = .bool (decide (pz = mv))
        exact h1
      refine Last.cons (fun u w1 w2 hB h hR => ?_) ?_
      · have h1 : u = .bool true := h
        show u = .bool true
        exact h1
      exact Last.nil
    · intro w1 hB
      clear hB0
      obtain ⟨b_HBb, b_Gb, b_Vb, b_Xb, b_CXb, b_CEb, b_CRb⟩ := hB
      have HBb := Lib.hid (show Below w.heap.size w w1 from b_HBb)
      have Gb := Lib.hid (show GR w1 w.heap.size P Q G from b_Gb)
      have Vb := Lib.hid (show D2 w1 (w.heap.size + 1) (.int .i64 H) (.slice ya hs.length yc) from b_Vb)
      have Xb := Lib.hid (show B3 w1 (w.heap.size + 2) (.slice (some ⟨xb, xo, none⟩) 1 c1) (.slice (some ⟨eb, eo, none⟩) 1 c2) (.slice (some ⟨rb, ro, none⟩) 1 c3) from b_Xb)
      have CXb := Lib.hid (show C1o w1 xb xo x from b_CXb)
      have CEb := Lib.hid (show C1o w1 eb eo e from b_CEb)
      have CRb := Lib.hid (show C1o w1 rb ro z from b_CRb)
      clear b_HBb b_Gb b_Vb b_Xb b_CXb b_CEb b_CRb
      exact ⟨⟨⟨Gb.out.1, Gb.out.2.1, Gb.out.2.2⟩, ⟨Vb.out.1, Vb.out.2⟩⟩, ⟨Xb.out.1, Xb.out.2.1, Xb.out.2.2.1⟩, CXb.out, CEb.out, CRb.out⟩
    · clear hB0 hHeld
      refine Steps.cons rfl (js := []) (by kernel_rfl) rfl (fun v W1 hB hF Q9 K hK => ?_) ?_
      · obtain ⟨b_HBb, b_Gb, b_Vb, b_Xb, b_CXb, b_CEb, b_CRb⟩ := hB
        have HBb := Lib.hid (show Below w.heap.size w W1 from b_HBb)
        have Gb := Lib.hid (show GR W1 w.heap.size P Q G from b_Gb)
        have Vb := Lib.hid (show D2 W1 (w.heap.size + 1) (.int .i64 H) (.slice ya hs.length yc) from b_Vb)
        have Xb := Lib.hid (show B3 W1 (w.heap.size + 2) (.slice (some ⟨xb, xo, none⟩) 1 c1) (.slice (some ⟨eb, eo, none⟩) 1 c2) (.slice (some ⟨rb, ro, none⟩) 1 c3) from b_Xb)
        have CXb := Lib.hid (show C1o W1 xb xo x from b_CXb)
        have CEb := Lib.hid (show C1o W1 eb eo e from b_CEb)
        have CRb := Lib.hid (show C1o W1 rb ro z from b_CRb)
        clear b_HBb b_Gb b_Vb b_Xb b_CXb b_CEb b_CRb
        clear hF
        refine ⟨?_⟩
        simp only [putAll, Act.put, List.setIfInBounds_toArray, List.set_cons_succ, List.set_cons_zero]
        go_simp
        go_at_call 64
        refine (gExp_any P Q G H z HHr.out.1 HHr.out.2 HZr.out.1 HZr.out.2 HPQ.out.1.1 HPQ.out.1.2 HPQ.out.2.1 HPQ.out.2.2 _).mono ?_
        rw [HPZ.out]
        rintro e' W2 ⟨rfl, hb⟩
        go_wp2_with fail
        have hk := hK.out
        simp only [putAll, Act.put, List.setIfInBounds_toArray, List.set_cons_succ, List.set_cons_zero] at hk
        refine hk _ _ ?_ ?_
        · show (_ : Value) = .int .i64 pz
          exact rfl
        · exact hb
      refine Steps.cons rfl (js := [7]) (by kernel_rfl) rfl (fun v W1 hB hF Q9 K hK => ?_) ?_
      · obtain ⟨b_HBb, b_Gb, b_Vb, b_Xb, b_CXb, b_CEb, b_CRb⟩ := hB
        have HBb := Lib.hid (show Below w.heap.size w W1 from b_HBb)
        have Gb := Lib.hid (show GR W1 w.heap.size P Q G from b_Gb)
        have Vb := Lib.hid (show D2 W1 (w.heap.size + 1) (.int .i64 H) (.slice ya hs.length yc) from b_Vb)
        have Xb := Lib.hid (show B3 W1 (w.heap.size + 2) (.slice (some ⟨xb, xo, none⟩) 1 c1) (.slice (some ⟨eb, eo, none⟩) 1 c2) (.slice (some ⟨rb, ro, none⟩) 1 c3) from b_Xb)
        have CXb := Lib.hid (show C1o W1 xb xo x from b_CXb)
        have CEb := Lib.hid (show C1o W1 eb eo e from b_CEb)
        have CRb := Lib.hid (show C1o W1 rb ro z from b_CRb)
        clear b_HBb b_Gb b_Vb b_Xb b_CXb b_CEb b_CRb
        have hf7 : v 7 = .int .i64 pz := hF.1
        have e7 := hf7
        have E7 := Lib.hid e7
        clear e7 hf7
        clear hF
        refine ⟨?_⟩
        simp only [putAll, Act.put, List.setIfInBounds_toArray, List.set_cons_succ, List.set_cons_zero, E7.out]
        go_simp
        go_at_call 64
        refine (gExp_ng P Q G G t HGr.out.1 HGr.out.2 HTr.out.1 HTr.out.2 HPQ.out.1.1 HPQ.out.1.2 HPQ.out.2.1 HPQ.out.2.2 _).mono ?_
        rw [HPG.out]
        rintro e' W2 ⟨rfl, hb⟩
        go_wp2_with fail
        have hk := hK.out
        simp only [putAll, Act.put, List.setIfInBounds_toArray, List.set_cons_succ, List.set_cons_zero, E7.out] at hk
        refine hk _ _ ?_ ?_
        · show (_ : Value) = .int .i64 pg
          exact rfl
        · exact hb
      refine Steps.cons rfl (js := [18]) (by kernel_rfl) rfl (fun v W1 hB hF Q9 K hK => ?_) ?_
      · obtain ⟨b_HBb, b_Gb, b_Vb, b_Xb, b_CXb, b_CEb, b_CRb⟩ := hB
        have HBb := Lib.hid (show Below w.heap.size w W1 from b_HBb)
        have Gb := Lib.hid (show GR W1 w.heap.size P Q G from b_Gb)
        have Vb := Lib.hid (show D2 W1 (w.heap.size + 1) (.int .i64 H) (.slice ya hs.length yc) from b_Vb)
        have Xb := Lib.hid (show B3 W1 (w.heap.size + 2) (.slice (some ⟨xb, xo, none⟩) 1 c1) (.slice (some ⟨eb, eo, none⟩) 1 c2) (.slice (some ⟨rb, ro, none⟩) 1 c3) from b_Xb)
        have CXb := Lib.hid (show C1o W1 xb xo x from b_CXb)
        have CEb := Lib.hid (show C1o W1 eb eo e from b_CEb)
        have CRb := Lib.hid (show C1o W1 rb ro z from b_CRb)
        clear b_HBb b_Gb b_Vb b_Xb b_CXb b_CEb b_CRb
        have hf18 : v 18 = .int .i64 pg := hF.1
        have e18 := hf18
        have E18 := Lib.hid e18
        clear e18 hf18
        clear hF
        refine ⟨?_⟩
        simp only [putAll, Act.put, List.setIfInBounds_toArray, List.set_cons_succ, List.set_cons_zero, E18.out]
        go_simp
        have hk := hK.out
        simp only [putAll, Act.put, List.setIfInBounds_toArray, List.set_cons_succ, List.set_cons_zero, E18.out] at hk
        refine hk _ _ ?_ ?_
        · show ∃ (b19 : Nat), (_ : Value) = .slice (some ⟨b19, 0, none⟩) 2 2 ∧ (IsInts (W1.alloc (.cells #[.int .i64 c, .int .i64 pg] 3)) (some ⟨b19, 0, none⟩) [c, pg])
          exact ⟨_, rfl, ints_spot W1 _ rfl [c, pg] 3⟩
        · exact (ba _ _)
      refine Steps.cons rfl (js := [19, 18]) (by kernel_rfl) rfl (fun v W1 hB hF Q9 K hK => ?_) ?_
      · obtain ⟨b_HBb, b_Gb, b_Vb, b_Xb, b_CXb, b_CEb, b_CRb⟩ := hB
        have HBb := Lib.hid (show Below w.heap.size w W1 from b_HBb)
        have Gb := Lib.hid (show GR W1 w.heap.size P Q G from b_Gb)
        have Vb := Lib.hid (show D2 W1 (w.heap.size + 1) (.int .i64 H) (.slice ya hs.length yc) from b_Vb)
        have Xb := Lib.hid (show B3 W1 (w.heap.size + 2) (.slice (some ⟨xb, xo, none⟩) 1 c1) (.slice (some ⟨eb, eo, none⟩) 1 c2) (.slice (some ⟨rb, ro, none⟩) 1 c3) from b_Xb)
        have CXb := Lib.hid (show C1o W1 xb xo x from b_CXb)
        have CEb := Lib.hid (show C1o W1 eb eo e from b_CEb)
        have CRb := Lib.hid (show C1o W1 rb ro z from b_CRb)
        clear b_HBb b_Gb b_Vb b_Xb b_CXb b_CEb b_CRb
        have hf19 : ∃ (b19 : Nat), v 19 = .slice (some ⟨b19, 0, none⟩) 2 2 ∧ (IsInts W1 (some ⟨b19, 0, none⟩) [c, pg]) := hF.1
        obtain ⟨b19, e19, f19_0⟩ := hf19
        have E19 := Lib.hid e19
        have L19 := Lib.hid (show IsInts W1 (some ⟨b19, 0, none⟩) [c, pg] from f19_0)
        clear e19 f19_0
        have hf18 : v 18 = .int .i64 pg := hF.2.1
        have e18 := hf18
        have E18 := Lib.hid e18
        clear e18 hf18
        clear hF
        refine ⟨?_⟩
        simp only [putAll, Act.put, List.setIfInBounds_toArray, List.set_cons_succ, List.set_cons_zero, E19.out, E18.out]
        go_simp
        go_at_call 74
        refine (gMul_any P Q G _ 2 2 [c, pg] rfl (by decide) HPQ.out.1.1 HPQ.out.1.2 HP1.out _ L19.out).mono ?_
        rw [EM1.out]
        rintro e' W2 ⟨rfl, hb⟩
        go_wp2_with fail
        have hk := hK.out
        simp only [putAll, Act.put, List.setIfInBounds_toArray, List.set_cons_succ, List.set_cons_zero, E19.out, E18.out] at hk
        refine hk _ _ ?_ ?_
        · show (_ : Value) = .int .i64 yv
          exact rfl
        · exact hb
      refine Steps.cons rfl (js := [20, 20]) (by kernel_rfl) rfl (fun v W1 hB hF Q9 K hK => ?_) ?_
      · obtain ⟨b_HBb, b_Gb, b_Vb, b_Xb, b_CXb, b_CEb, b_CRb⟩ := hB
        have HBb := Lib.hid (show Below w.heap.size w W1 from b_HBb)
        have Gb := Lib.hid (show GR W1 w.heap.size P Q G from b_Gb)
        have Vb := Lib.hid (show D2 W1 (w.heap.size + 1) (.int .i64 H) (.slice ya hs.length yc) from b_Vb)
        have Xb := Lib.hid (show B3 W1 (w.heap.size + 2) (.slice (some ⟨xb, xo, none⟩) 1 c1) (.slice (some ⟨eb, eo, none⟩) 1 c2) (.slice (some ⟨rb, ro, none⟩) 1 c3) from b_Xb)
        have CXb := Lib.hid (show C1o W1 xb xo x from b_CXb)
        have CEb := Lib.hid (show C1o W1 eb eo e from b_CEb)
        have CRb := Lib.hid (show C1o W1 rb ro z from b_CRb)
        clear b_HBb b_Gb b_Vb b_Xb b_CXb b_CEb b_CRb
        have hf20 : v 20 = .int .i64 yv := hF.1
        have e20 := hf20
        have E20 := Lib.hid e20
        clear e20 hf20
        clear hF
        refine ⟨?_⟩
        simp only [putAll, Act.put, List.setIfInBounds_toArray, List.set_cons_succ, List.set_cons_zero, E20.out]
        go_simp
        go_at_call 64
        refine (gExp_any P Q G yv e HYr.out.1 HYr.out.2 HEr.out.1 HEr.out.2 HPQ.out.1.1 HPQ.out.1.2 HPQ.out.2.1 HPQ.out.2.2 _).mono ?_
        rw [HPW.out]
        rintro e' W2 ⟨rfl, hb⟩
        go_wp2_with fail
        have hk := hK.out
        simp only [putAll, Act.put, List.setIfInBounds_toArray, List.set_cons_succ, List.set_cons_zero, E20.out] at hk
        refine hk _ _ ?_ ?_
        · show (_ : Value) = .int .i64 pw
          exact rfl
        · exact hb
      refine Steps.cons rfl (js := [22]) (by kernel_rfl) rfl (fun v W1 hB hF Q9 K hK => ?_) ?_
      · obtain ⟨b_HBb, b_Gb, b_Vb, b_Xb, b_CXb, b_CEb, b_CRb⟩ := hB
        have HBb := Lib.hid (show Below w.heap.size w W1 from b_HBb)
        have Gb := Lib.hid (show GR W1 w.heap.size P Q G from b_Gb)
        have Vb := Lib.hid (show D2 W1 (w.heap.size + 1) (.int .i64 H) (.slice ya hs.length yc) from b_Vb)
        have Xb := Lib.hid (show B3 W1 (w.heap.size + 2) (.slice (some ⟨xb, xo, none⟩) 1 c1) (.slice (some ⟨eb, eo, none⟩) 1 c2) (.slice (some ⟨rb, ro, none⟩) 1 c3) from b_Xb)
        have CXb := Lib.hid (show C1o W1 xb xo x from b_CXb)
        have CEb := Lib.hid (show C1o W1 eb eo e from b_CEb)
        have CRb := Lib.hid (show C1o W1 rb ro z from b_CRb)
        clear b_HBb b_Gb b_Vb b_Xb b_CXb b_CEb b_CRb
        have hf22 : v 22 = .int .i64 pw := hF.1
        have e22 := hf22
        have E22 := Lib.hid e22
        clear e22 hf22
        clear hF
        refine ⟨?_⟩
        simp only [putAll, Act.put, List.setIfInBounds_toArray, List.set_cons_succ, List.set_cons_zero, E22.out]
        go_simp
        have hk := hK.out
        simp only [putAll, Act.put, List.setIfInBounds_toArray, List.set_cons_succ, List.set_cons_zero, E22.out] at hk
        refine hk _ _ ?_ ?_
        · show ∃ (b23 : Nat), (_ : Value) = .slice (some ⟨b23, 0, none⟩) 2 2 ∧ (IsInts (W1.alloc (.cells #[.int .i64 x, .int .i64 pw] 3)) (some ⟨b23, 0, none⟩) [x, pw])
          exact ⟨_, rfl, ints_spot W1 _ rfl [x, pw] 3⟩
        · exact (ba _ _)
      refine Steps.cons rfl (js := [23, 22]) (by kernel_rfl) rfl (fun v W1 hB hF Q9 K hK => ?_) ?_
      · obtain ⟨b_HBb, b_Gb, b_Vb, b_Xb, b_CXb, b_CEb, b_CRb⟩ := hB
        have HBb := Lib.hid (show Below w.heap.size w W1 from b_HBb)
        have Gb := Lib.hid (show GR W1 w.heap.size P Q G from b_Gb)
        have Vb := Lib.hid (show D2 W1 (w.heap.size + 1) (.int .i64 H) (.slice ya hs.length yc) from b_Vb)
        have Xb := Lib.hid (show B3 W1 (w.heap.size + 2) (.slice (some ⟨xb, xo, none⟩) 1 c1) (.slice (some ⟨eb, eo, none⟩) 1 c2) (.slice (some ⟨rb, ro, none⟩) 1 c3) from b_Xb)
        have CXb := Lib.hid (show C1o W1 xb xo x from b_CXb)
        have CEb := Lib.hid (show C1o W1 eb eo e from b_CEb)
        have CRb := Lib.hid (show C1o W1 rb ro z from b_CRb)
        clear b_HBb b_Gb b_Vb b_Xb b_CXb b_CEb b_CRb
        have hf23 : ∃ (b23 : Nat), v 23 = .slice (some ⟨b23, 0, none⟩) 2 2 ∧ (IsInts W1 (some ⟨b23, 0, none⟩) [x, pw]) := hF.1
        obtain ⟨b23, e23, f23_0⟩ := hf23
        have E23 := Lib.hid e23
        have L23 := Lib.hid (show IsInts W1 (some ⟨b23, 0, none⟩) [x, pw] from f23_0)
        clear e23 f23_0
        have hf22 : v 22 = .int .i64 pw := hF.2.1
        have e22 := hf22
        have E22 := Lib.hid e22
        clear e22 hf22
        clear hF
        refine ⟨?_⟩
        simp only [putAll, Act.put, List.setIfInBounds_toArray, List.set_cons_succ, List.set_cons_zero, E23.out, E22.out]
        go_simp
        go_at_call 74
        refine (gMul_any P Q G _ 2 2 [x, pw] rfl (by decide) HPQ.out.1.1 HPQ.out.1.2 HP2.out _ L23.out).mono ?_
        rw [EM2.out]
        rintro e' W2 ⟨rfl, hb⟩
        go_wp2_with fail
        have hk := hK.out
        simp only [putAll, Act.put, List.setIfInBounds_toArray, List.set_cons_succ, List.set_cons_zero, E23.out, E22.out] at hk
        refine hk _ _ ?_ ?_
        · show (_ : Value) = .int .i64 mv
          exact rfl
        · exact hb
      refine Steps.cons rfl (js := [7, 24]) (by kernel_rfl) rfl (fun v W1 hB hF Q9 K hK => ?_) ?_
      · obtain ⟨b_HBb, b_Gb, b_Vb, b_Xb, b_CXb, b_CEb, b_CRb⟩ := hB
        have HBb := Lib.hid (show Below w.heap.size w W1 from b_HBb)
        have Gb := Lib.hid (show GR W1 w.heap.size P Q G from b_Gb)
        have Vb := Lib.hid (show D2 W1 (w.heap.size + 1) (.int .i64 H) (.slice ya hs.length yc) from b_Vb)
        have Xb := Lib.hid (show B3 W1 (w.heap.size + 2) (.slice (some ⟨xb, xo, none⟩) 1 c1) (.slice (some ⟨eb, eo, none⟩) 1 c2) (.slice (some ⟨rb, ro, none⟩) 1 c3) from b_Xb)
        have CXb := Lib.hid (show C1o W1 xb xo x from b_CXb)
        have CEb := Lib.hid (show C1o W1 eb eo e from b_CEb)
        have CRb := Lib.hid (show C1o W1 rb ro z from b_CRb)
        clear b_HBb b_Gb b_Vb b_Xb b_CXb b_CEb b_CRb
        have hf7 : v 7 = .int .i64 pz := hF.1
        have e7 := hf7
        have E7 := Lib.hid e7
        clear e7 hf7
        have hf24 : v 24 = .int .i64 mv := hF.2.1
        have e24 := hf24
        have E24 := Lib.hid e24
        clear e24 hf24
        clear hF
        refine ⟨?_⟩
        simp only [putAll, Act.put, List.setIfInBounds_toArray, List.set_cons_succ, List.set_cons_zero, E7.out, E24.out]
        go_simp
        have hk := hK.out
        simp only [putAll, Act.put, List.setIfInBounds_toArray, List.set_cons_succ, List.set_cons_zero, E7.out, E24.out] at hk
        refine hk _ _ ?_ ?_
        · show (_ : Value) = .bool (decide (pz = mv))
          exact rfl
        · exact (Below.refl _ _)
      refine Steps.cons rfl (js := [25, 24, 7, 18, 19, 20, 22, 23, 24, 25]) (by kernel_rfl) rfl (fun v W1 hB hF Q9 K hK => ?_) ?_
      · obtain ⟨b_HBb, b_Gb, b_Vb, b_Xb, b_CXb, b_CEb, b_CRb⟩ := hB
        have HBb := Lib.hid (show Below w.heap.size w W1 from b_HBb)
        have Gb := Lib.hid (show GR W1 w.heap.size P Q G from b_Gb)
        have Vb := Lib.hid (show D2 W1 (w.heap.size + 1) (.int .i64 H) (.slice ya hs.length yc) from b_Vb)
        have Xb := Lib.hid (show B3 W1 (w.heap.size + 2) (.slice (some ⟨xb, xo, none⟩) 1 c1) (.slice (some ⟨eb, eo, none⟩) 1 c2) (.slice (some ⟨rb, ro, none⟩) 1 c3) from b_Xb)
        have CXb := Lib.hid (show C1o W1 xb xo x from b_CXb)
        have CEb := Lib.hid (show C1o W1 eb eo e from b_CEb)
        have CRb := Lib.hid (show C1o W1 rb ro z from b_CRb)
        clear b_HBb b_Gb b_Vb b_Xb b_CXb b_CEb b_CRb
        have hf25 : v 25 = .bool (decide (pz = mv)) := hF.1
        have e25 := hf25
        have E25 := Lib.hid e25
        clear e25 hf25
        have hf24 : v 24 = .int .i64 mv := hF.2.1
        have e24 := hf24
        have E24 := Lib.hid e24
        clear e24 hf24
        have hf7 : v 7 = .int .i64 pz := hF.2.2.1
        have e7 := hf7
        have E7 := Lib.hid e7
        clear e7 hf7
        have hf18 : v 18 = .int .i64 pg := hF.2.2.2.1
        have e18 := hf18
        have E18 := Lib.hid e18
        clear e18 hf18
        have hf19 : ∃ (b19 : Nat), v 19 = .slice (some ⟨b19, 0, none⟩) 2 2 ∧ (IsInts W1 (some ⟨b19, 0, none⟩) [c, pg]) := hF.2.2.2.2.1
        obtain ⟨b19, e19, f19_0⟩ := hf19
        have E19 := Lib.hid e19
        have L19 := Lib.hid (show IsInts W1 (some ⟨b19, 0, none⟩) [c, pg] from f19_0)
        clear e19 f19_0
        have hf20 : v 20 = .int .i64 yv := hF.2.2.2.2.2.1
        have e20 := hf20
        have E20 := Lib.hid e20
        clear e20 hf20
        have hf22 : v 22 = .int .i64 pw := hF.2.2.2.2.2.2.1
        have e22 := hf22
        have E22 := Lib.hid e22
        clear e22 hf22
        have hf23 : ∃ (b23 : Nat), v 23 = .slice (some ⟨b23, 0, none⟩) 2 2 ∧ (IsInts W1 (some ⟨b23, 0, none⟩) [x, pw]) := hF.2.2.2.2.2.2.2.1
        obtain ⟨b23, e23, f23_0⟩ := hf23
        have E23 := Lib.hid e23
        have L23 := Lib.hid (show IsInts W1 (some ⟨b23, 0, none⟩) [x, pw] from f23_0)
        clear e23 f23_0
        clear hF
        refine ⟨?_⟩
        simp only [putAll, Act.put, List.setIfInBounds_toArray, List.set_cons_succ, List.set_cons_zero, E25.out, E24.out, E7.out, E18.out, E19.out, E20.out, E22.out, E23.out]
        go_simp
        have hk := hK.out
        simp only [putAll, Act.put, List.setIfInBounds_toArray, List.set_cons_succ, List.set_cons_zero, E25.out, E24.out, E7.out, E18.out, E19.out, E20.out, E22.out, E23.out] at hk
        refine hk _ _ ?_ ?_
        · show (_ : Value) = .bool (decide (pz = mv))
          exact rfl
        · exact (Below.refl _ _)
      refine Steps.cons rfl (js := [26, 7, 18, 19, 20, 22, 23, 24, 25, 26]) (by kernel_rfl) rfl (fun v W1 hB hF Q9 K hK => ?_) ?_
      · obtain ⟨b_HBb, b_Gb, b_Vb, b_Xb, b_CXb, b_CEb, b_CRb⟩ := hB
        have HBb := Lib.hid (show Below w.heap.size w W1 from b_HBb)
        have Gb := Lib.hid (show GR W1 w.heap.size P Q G from b_Gb)
        have Vb := Lib.hid (show D2 W1 (w.heap.size + 1) (.int .i64 H) (.slice ya hs.length yc) from b_Vb)
        have Xb := Lib.hid (show B3 W1 (w.heap.size + 2) (.slice (some ⟨xb, xo, none⟩) 1 c1) (.slice (some ⟨eb, eo, none⟩) 1 c2) (.slice (some ⟨rb, ro, none⟩) 1 c3) from b_Xb)
        have CXb := Lib.hid (show C1o W1 xb xo x from b_CXb)
        have CEb := Lib.hid (show C1o W1 eb eo e from b_CEb)
        have CRb := Lib.hid (show C1o W1 rb ro z from b_CRb)
        clear b_HBb b_Gb b_Vb b_Xb b_CXb b_CEb b_CRb
        have hf26 : v 26 = .bool (decide (pz = mv)) := hF.1
        have e26 := hf26
        have E26 := Lib.hid e26
        clear e26 hf26
        have hf7 : v 7 = .int .i64 pz := hF.2.1
        have e7 := hf7
        have E7 := Lib.hid e7
        clear e7 hf7
        have hf18 : v 18 = .int .i64 pg := hF.2.2.1
        have e18 := hf18
        have E18 := Lib.hid e18
        clear e18 hf18
        have hf19 : ∃ (b19 : Nat), v 19 = .slice (some ⟨b19, 0, none⟩) 2 2 ∧ (IsInts W1 (some ⟨b19, 0, none⟩) [c, pg]) := hF.2.2.2.1
        obtain ⟨b19, e19, f19_0⟩ := hf19
        have E19 := Lib.hid e19
        have L19 := Lib.hid (show IsInts W1 (some ⟨b19, 0, none⟩) [c, pg] from f19_0)
        clear e19 f19_0
        have hf20 : v 20 = .int .i64 yv := hF.2.2.2.2.1
        have e20 := hf20
        have E20 := Lib.hid e20
        clear e20 hf20
        have hf22 : v 22 = .int .i64 pw := hF.2.2.2.2.2.1
        have e22 := hf22
        have E22 := Lib.hid e22
        clear e22 hf22
        have hf23 : ∃ (b23 : Nat), v 23 = .slice (some ⟨b23, 0, none⟩) 2 2 ∧ (IsInts W1 (some ⟨b23, 0, none⟩) [x, pw]) := hF.2.2.2.2.2.2.1
        obtain ⟨b23, e23, f23_0⟩ := hf23
        have E23 := Lib.hid e23
        have L23 := Lib.hid (show IsInts W1 (some ⟨b23, 0, none⟩) [x, pw] from f23_0)
        clear e23 f23_0
        have hf24 : v 24 = .int .i64 mv := hF.2.2.2.2.2.2.2.1
        have e24 := hf24
        have E24 := Lib.hid e24
        clear e24 hf24
        have hf25 : v 25 = .bool (decide (pz = mv)) := hF.2.2.2.2.2.2.2.2.1
        have e25 := hf25
        have E25 := Lib.hid e25
        clear e25 hf25
        clear hF
        refine ⟨?_⟩
        simp only [putAll, Act.put, List.setIfInBounds_toArray, List.set_cons_succ, List.set_cons_zero, E26.out, E7.out, E18.out, E19.out, E20.out, E22.out, E23.out, E24.out, E25.out]
        go_simp
        have hk := hK.out
        simp only [putAll, Act.put, List.setIfInBounds_toArray, List.set_cons_succ, List.set_cons_zero, E26.out, E7.out, E18.out, E19.out, E20.out, E22.out, E23.out, E24.out, E25.out] at hk
        refine hk _ _ ?_ ?_
        · show (_ : Value) = .bool true
          exact rfl
        · exact (Below.refl _ _)
      exact Steps.nil
    intro v We hB hF
    clear hB0 hHeld
    obtain ⟨b_HBb, b_Gb, b_Vb, b_Xb, b_CXb, b_CEb, b_CRb⟩ := hB
    have HBb := Lib.hid (show Below w.heap.size w We from b_HBb)
    have Gb := Lib.hid (show GR We w.heap.size P Q G from b_Gb)
    have Vb := Lib.hid (show D2 We (w.heap.size + 1) (.int .i64 H) (.slice ya hs.length yc) from b_Vb)
    have Xb := Lib.hid (show B3 We (w.heap.size + 2) (.slice (some ⟨xb, xo, none⟩) 1 c1) (.slice (some ⟨eb, eo, none⟩) 1 c2) (.slice (some ⟨rb, ro, none⟩) 1 c3) from b_Xb)
    have CXb := Lib.hid (show C1o We xb xo x from b_CXb)
    have CEb := Lib.hid (show C1o We eb eo e from b_CEb)
    have CRb := Lib.hid (show C1o We rb ro z from b_CRb)
    clear b_HBb b_Gb b_Vb b_Xb b_CXb b_CEb b_CRb
    have hf7 : v 7 = .int .i64 pz := hF.1
    have e7 := hf7
    have E7 := Lib.hid e7
    clear e7 hf7
    have hf18 : v 18 = .int .i64 pg := hF.2.1
    have e18 := hf18
    have E18 := Lib.hid e18
    clear e18 hf18
    have hf19 : ∃ (b19 : Nat), v 19 = .slice (some ⟨b19, 0, none⟩) 2 2 ∧ (IsInts We (some ⟨b19, 0, none⟩) [c, pg]) := hF.2.2.1
    obtain ⟨b19, e19, f19_0⟩ := hf19
    have E19 := Lib.hid e19
    have L19 := Lib.hid (show IsInts We (some ⟨b19, 0, none⟩) [c, pg] from f19_0)
    clear e19 f19_0
    have hf20 : v 20 = .int .i64 yv := hF.2.2.2.1
    have e20 := hf20
    have E20 := Lib.hid e20
    clear e20 hf20
    have hf22 : v 22 = .int .i64 pw := hF.2.2.2.2.1
    have e22 := hf22
    have E22 := Lib.hid e22
    clear e22 hf22
    have hf23 : ∃ (b23 : Nat), v 23 = .slice (some ⟨b23, 0, none⟩) 2 2 ∧ (IsInts We (some ⟨b23, 0, none⟩) [x, pw]) := hF.2.2.2.2.2.1
    obtain ⟨b23, e23, f23_0⟩ := hf23
    have E23 := Lib.hid e23
    have L23 := Lib.hid (show IsInts We (some ⟨b23, 0, none⟩) [x, pw] from f23_0)
    clear e23 f23_0
    have hf24 : v 24 = .int .i64 mv := hF.2.2.2.2.2.2.1
    have e24 := hf24
    have E24 := Lib.hid e24
    clear e24 hf24
    have hf25 : v 25 = .bool (decide (pz = mv)) := hF.2.2.2.2.2.2.2.1
    have e25 := hf25
    have E25 := Lib.hid e25
    clear e25 hf25
    have hf26 : v 26 = .bool (decide (pz = mv)) := hF.2.2.2.2.2.2.2.2.1
    have e26 := hf26
    have E26 := Lib.hid e26
    clear e26 hf26
    have hf27 : v 27 = .bool true := hF.2.2.2.2.2.2.2.2.2.1
    have e27 := hf27
    have E27 := Lib.hid e27
    clear e27 hf27
    clear hF
    refine ⟨?_⟩
    simp only [putAll, Act.put, List.setIfInBounds_toArray, List.set_cons_succ, List.set_cons_zero, E7.out, E18.out, E19.out, E20.out, E22.out, E23.out, E24.out, E25.out, E26.out, E27.out]
    refine wpAnyH_done (by kernel_rfl) ?_ _
    go_wp2
    go_ret2
    refine ⟨?_, HBb.out⟩
    rw [ES.out]
    rfl
  · have ES := Lib.hid (show sv = false by rw [HSV.out, decide_eq_false hcmp, Bool.false_and])
    have hq : (e == ch) = false := by simpa using hcmp
    have hq2 : (e != ch) = true := by simpa using hcmp
    clear hcmp
    go_wp2
    go_ret2
    refine ⟨?_, HB_r.out⟩
    rw [ES.out]
    rfl

theorem sVerifySum_any (P Q G H t : Int) {B C D : Nat} {y u v : Value} {hs cs : List Int} {p : PrD} (hl : hs.length ≤ 1048576) (hcs : cs.length ≤ 1048576) (hpn : p.n ≤ 1048576) {w : World} (hy : InI B w y hs) (hu : InI D w u cs) (hP : InP C w v p) :
    Calls Try.prog 36 #[gv P Q G, .agg #[.int .i64 H, y], u, .int .i64 t, v] w fun e w' => e = .returned (.tuple #[.bool (vsV P Q G H hs cs t p), .bool (vsB P Q G H hs cs t)]) ∧ Below w.heap.size w w' := by
  cases h0 : foV P Q p 1 1 1
  · exact sVerifySum_off P Q G H t hl hcs hpn h0 hy hu hP
  · obtain ⟨a1, c1, a2, c2, a3, c3, rfl, _, _, _⟩ := hP.parts
    obtain ⟨f1, f2, f3, _, _, _⟩ := foV_true.1 h0
    obtain ⟨pc, ph, pr⟩ := p
    simp only at f1 f2 f3 h0 hP ⊢
    obtain ⟨x, rfl⟩ := one_list f1
    obtain ⟨e, rfl⟩ := one_list f2
    obtain ⟨z, rfl⟩ := one_list f3
    obtain ⟨xb, xo, rfl, hcx⟩ := (inP_c hP).oneC
    obtain ⟨eb, eo, rfl, hce⟩ := (inP_h hP).oneC
    obtain ⟨rb, ro, rfl, hcr⟩ := (inP_r hP).oneC
    exact sVerifySum_on P Q G H t x e z hl hcs h0 hy hu hP hcx hce hcr

end Go.Proofs.Ytblclghbabhdlaa

