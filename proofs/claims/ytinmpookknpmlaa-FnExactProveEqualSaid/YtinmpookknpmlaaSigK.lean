/- Sigma proofs: ProveKnowledge and ProveEqual of both. -/
import Derived.Test.YtinmpookknpmlaaSigM
namespace Go.Proofs.Ytinmpookknpmlaa
open Go.RowKit
set_option linter.unusedVariables false
set_option linter.unusedSimpArgs false

theorem know4_lit (W : World) (a x c : Int) (t1 t2 t3 t4 : TypeId) :
    InS (((W.alloc (.cells #[.int .i64 a] t1)).alloc (.cells #[.slice (some ⟨W.heap.size, 0, none⟩) 1 1] t2)).alloc (.cells #[.int .i64 x] t3)).heap.size ((((W.alloc (.cells #[.int .i64 a] t1)).alloc (.cells #[.slice (some ⟨W.heap.size, 0, none⟩) 1 1] t2)).alloc (.cells #[.int .i64 x] t3)).alloc (.cells #[.int .i64 c] t4)) (.slice (some ⟨W.heap.size + 1, 0, none⟩) 1 1) [[a]] ∧ InI (((W.alloc (.cells #[.int .i64 a] t1)).alloc (.cells #[.slice (some ⟨W.heap.size, 0, none⟩) 1 1] t2)).alloc (.cells #[.int .i64 x] t3)).heap.size ((((W.alloc (.cells #[.int .i64 a] t1)).alloc (.cells #[.slice (some ⟨W.heap.size, 0, none⟩) 1 1] t2)).alloc (.cells #[.int .i64 x] t3)).alloc (.cells #[.int .i64 c] t4)) (.slice (some ⟨W.heap.size + 2, 0, none⟩) 1 1) [x] ∧ InI ((((W.alloc (.cells #[.int .i64 a] t1)).alloc (.cells #[.slice (some ⟨W.heap.size, 0, none⟩) 1 1] t2)).alloc (.cells #[.int .i64 x] t3)).alloc (.cells #[.int .i64 c] t4)).heap.size ((((W.alloc (.cells #[.int .i64 a] t1)).alloc (.cells #[.slice (some ⟨W.heap.size, 0, none⟩) 1 1] t2)).alloc (.cells #[.int .i64 x] t3)).alloc (.cells #[.int .i64 c] t4)) (.slice (some ⟨W.heap.size + 3, 0, none⟩) 1 1) [c] := by
  have hk := know_lit W a x t1 t2 t3
  have e4 := one_new (((W.alloc (.cells #[.int .i64 a] t1)).alloc (.cells #[.slice (some ⟨W.heap.size, 0, none⟩) 1 1] t2)).alloc (.cells #[.int .i64 x] t3)) (.int .i64 c) t4
  rw [show (((W.alloc (.cells #[.int .i64 a] t1)).alloc (.cells #[.slice (some ⟨W.heap.size, 0, none⟩) 1 1] t2)).alloc (.cells #[.int .i64 x] t3)).heap.size = W.heap.size + 3 by simp] at e4
  exact ⟨hk.1.below (ba _ _), hk.2.below (ba _ _), one_in e4⟩

set_option maxRecDepth 100000 in
set_option maxHeartbeats 3200000 in
theorem provK_any (P Q G a x c : Int) (s : ByteArray) (hs : s.size ≤ 1048576) (w : World) :
    Calls Try.prog 55 #[gv P Q G, .string s, .int .i64 a, .int .i64 x, .int .i64 c] w (AnsQ w.heap.size w (plV P Q G s [[a]] [x] [c]) (plB P Q G s [[a]] [x] [c])) := by
  have G_0 := Lib.hid ((gr_new w P Q G 32).below (ba _ (.cells #[.slice none 0 0, .slice none 0 0, .slice none 0 0] 36)))
  have hb3 := b3_new (w.alloc (.cells #[.int .i64 P, .int .i64 Q, .int .i64 G] 32)) (.slice none 0 0) (.slice none 0 0) (.slice none 0 0) 36
  rw [show (w.alloc (.cells #[.int .i64 P, .int .i64 Q, .int .i64 G] 32)).heap.size = w.heap.size + 1 by simp] at hb3
  have Z_0 := Lib.hid hb3
  have HB_0 := Lib.hid (bt (ba w (.cells #[.int .i64 P, .int .i64 Q, .int .i64 G] 32)) (ba _ (.cells #[.slice none 0 0, .slice none 0 0, .slice none 0 0] 36)))
  clear hb3
  generalize hrs : ([[a]] : List (List Int)) = rs
  generalize hxs : ([x] : List Int) = xs
  generalize hcs : ([c] : List Int) = cs
  have HRS := Lib.hid hrs
  have HXS := Lib.hid hxs
  have HCS := Lib.hid hcs
  clear hrs hxs hcs
  obtain ⟨p, hp⟩ : ∃ p, plV P Q G s rs xs cs = p := ⟨_, rfl⟩
  obtain ⟨ok, hk0⟩ : ∃ k, plB P Q G s rs xs cs = k := ⟨_, rfl⟩
  have HP := Lib.hid hp
  have HO := Lib.hid hk0
  rw [hp, hk0]
  clear hp hk0
  have hl : rs.length ≤ 1048576 := by rw [← HRS.out]; simp
  have hxl : xs.length ≤ 1048576 := by rw [← HXS.out]; simp
  have hcl : cs.length ≤ 1048576 := by rw [← HCS.out]; simp
  have HRL := Lib.hid (show ∀ z ∈ rs, z.length ≤ 17592186044416 from by rw [← HRS.out]; intro z hz; rw [List.mem_singleton.1 hz]; simp)
  go_enter Try.func55, Try.ntmps55
  generalize hW : (w.alloc (.cells #[.int .i64 P, .int .i64 Q, .int .i64 G] 32)).alloc (.cells #[.slice none 0 0, .slice none 0 0, .slice none 0 0] 36) = W at *
  have HB4 := Lib.hid (bt HB_0.out (bt (bt (bt (ba W (.cells #[.int .i64 a] 3)) (ba _ (.cells #[.slice (some ⟨W.heap.size, 0, none⟩) 1 1] 25))) (ba _ (.cells #[.int .i64 x] 3))) (ba _ (.cells #[.int .i64 c] 3))))
  have Z4 := Lib.hid (Z_0.out.below (bt (bt (bt (ba W (.cells #[.int .i64 a] 3)) (ba _ (.cells #[.slice (some ⟨W.heap.size, 0, none⟩) 1 1] 25))) (ba _ (.cells #[.int .i64 x] 3))) (ba _ (.cells #[.int .i64 c] 3))))
  have hk := know4_lit W a x c 3 25 3 3
  rw [HRS.out, HXS.out, HCS.out] at hk
  have HKL := Lib.hid hk
  clear hk
  obtain ⟨g0, g1, g2⟩ := G_0.out
  obtain ⟨y0, y1, y2, _⟩ := Z4.out
  go_wp2_with fail
  refine (provL_any P Q G s hs hl HRL.out hxl hcl HKL.out.1 HKL.out.2.1 HKL.out.2.2).mono ?_
  rw [HP.out, HO.out]
  rintro e v9 ⟨qa, qb, qc, rfl, hq, hb⟩
  obtain ⟨a1, c1, a2, c2, a3, c3, hsh, _⟩ := hq.toIn.parts
  simp only [Value.agg.injEq, Array.mk.injEq, List.cons.injEq, and_true] at hsh
  obtain ⟨rfl, rfl, rfl⟩ := hsh
  have HB_9 := Lib.hid (bt HB4.out hb)
  have hz9 := Z4.out.below hb
  have lz9 := Z4.out.lt
  have lb4 := HB4.out.size
  have AQ := Lib.hid hq
  have Z_9 := Lib.hid hz9
  clear hq hb hz9 y0 y1 y2 g0 g1 g2
  obtain ⟨y0, y1, y2, yf⟩ := Z_9.out
  have yf0 := yf 0
  have yf1 := yf 1
  have yf2 := yf 2
  clear yf
  go_wp2
  (try simp only [Exit.inBlock, Exit.then])
  refine bodyPost_ret (v := .tuple #[.agg #[.slice a1 p.c.length c1, .slice a2 p.h.length c2, .slice a3 p.r.length c3], .bool ok]) ?_ rfl ?_
  · rw [results_cell_tmp rfl]; go_simp
  · have hm5 := mid3 v9 (w.heap.size + 1) (.slice a1 p.c.length c1) (.slice a2 p.h.length c2) (.slice a3 p.r.length c3)
    have h1 := OwQ.mid AQ.out hm5 (.inr (by omega))
    exact ⟨_, _, _, rfl, OwQ.wide h1 (by omega) hm5.size, HB_9.out.trans (hm5.toBelow (by omega) HB_9.out.size)⟩

set_option maxRecDepth 100000 in
set_option maxHeartbeats 3200000 in
theorem sProvK_any (P Q G a x c : Int) (s : ByteArray) (hs : s.size ≤ 1048576) (w : World) :
    Calls Try.prog 54 #[gv P Q G, .string s, .int .i64 a, .int .i64 x, .int .i64 c] w (AnsN w (plV P Q G s [[a]] [x] [c]) (plB P Q G s [[a]] [x] [c])) := by
  have G_0 := Lib.hid ((gr_new w P Q G 32).below (ba _ (.cells #[.slice none 0 0, .slice none 0 0, .slice none 0 0] 36)))
  have hb3 := b3_new (w.alloc (.cells #[.int .i64 P, .int .i64 Q, .int .i64 G] 32)) (.slice none 0 0) (.slice none 0 0) (.slice none 0 0) 36
  rw [show (w.alloc (.cells #[.int .i64 P, .int .i64 Q, .int .i64 G] 32)).heap.size = w.heap.size + 1 by simp] at hb3
  have Z_0 := Lib.hid hb3
  have HB_0 := Lib.hid (bt (ba w (.cells #[.int .i64 P, .int .i64 Q, .int .i64 G] 32)) (ba _ (.cells #[.slice none 0 0, .slice none 0 0, .slice none 0 0] 36)))
  clear hb3
  generalize hrs : ([[a]] : List (List Int)) = rs
  generalize hxs : ([x] : List Int) = xs
  generalize hcs : ([c] : List Int) = cs
  have HRS := Lib.hid hrs
  have HXS := Lib.hid hxs
  have HCS := Lib.hid hcs
  clear hrs hxs hcs
  obtain ⟨p, hp⟩ : ∃ p, plV P Q G s rs xs cs = p := ⟨_, rfl⟩
  obtain ⟨ok, hk0⟩ : ∃ k, plB P Q G s rs xs cs = k := ⟨_, rfl⟩
  have HP := Lib.hid hp
  have HO := Lib.hid hk0
  rw [hp, hk0]
  clear hp hk0
  have hl : rs.length ≤ 1048576 := by rw [← HRS.out]; simp
  have hxl : xs.length ≤ 1048576 := by rw [← HXS.out]; simp
  have hcl : cs.length ≤ 1048576 := by rw [← HCS.out]; simp
  have HRL := Lib.hid (show ∀ z ∈ rs, z.length ≤ 17592186044416 from by rw [← HRS.out]; intro z hz; rw [List.mem_singleton.1 hz]; simp)
  go_enter Try.func54, Try.ntmps54
  generalize hW : (w.alloc (.cells #[.int .i64 P, .int .i64 Q, .int .i64 G] 32)).alloc (.cells #[.slice none 0 0, .slice none 0 0, .slice none 0 0] 36) = W at *
  have HB4 := Lib.hid (bt HB_0.out (bt (bt (bt (ba W (.cells #[.int .i64 a] 3)) (ba _ (.cells #[.slice (some ⟨W.heap.size, 0, none⟩) 1 1] 25))) (ba _ (.cells #[.int .i64 x] 3))) (ba _ (.cells #[.int .i64 c] 3))))
  have Z4 := Lib.hid (Z_0.out.below (bt (bt (bt (ba W (.cells #[.int .i64 a] 3)) (ba _ (.cells #[.slice (some ⟨W.heap.size, 0, none⟩) 1 1] 25))) (ba _ (.cells #[.int .i64 x] 3))) (ba _ (.cells #[.int .i64 c] 3))))
  have hk := know4_lit W a x c 3 25 3 3
  rw [HRS.out, HXS.out, HCS.out] at hk
  have HKL := Lib.hid hk
  clear hk
  obtain ⟨g0, g1, g2⟩ := G_0.out
  obtain ⟨y0, y1, y2, _⟩ := Z4.out
  go_wp2_with fail
  refine (sProvL_any P Q G s hs hl HRL.out hxl hcl HKL.out.1 HKL.out.2.1 HKL.out.2.2).mono ?_
  rw [HP.out, HO.out]
  rintro e v9 ⟨qa, qb, qc, rfl, hq, hb⟩
  obtain ⟨a1, c1, a2, c2, a3, c3, hsh, _⟩ := hq.toIn.parts
  simp only [Value.agg.injEq, Array.mk.injEq, List.cons.injEq, and_true] at hsh
  obtain ⟨rfl, rfl, rfl⟩ := hsh
  have HB_9 := Lib.hid (bt HB4.out hb)
  have hz9 := Z4.out.below hb
  have lz9 := Z4.out.lt
  have lb4 := HB4.out.size
  have AQ := Lib.hid hq
  have Z_9 := Lib.hid hz9
  clear hq hb hz9 y0 y1 y2 g0 g1 g2
  obtain ⟨y0, y1, y2, yf⟩ := Z_9.out
  have yf0 := yf 0
  have yf1 := yf 1
  have yf2 := yf 2
  clear yf
  go_wp2
  (try simp only [Exit.inBlock, Exit.then])
  refine bodyPost_ret (v := .tuple #[.agg #[.slice a1 p.c.length c1, .slice a2 p.h.length c2, .slice a3 p.r.length c3], .bool ok]) ?_ rfl ?_
  · rw [results_cell_tmp rfl]; go_simp
  · have hm5 := mid3 v9 (w.heap.size + 1) (.slice a1 p.c.length c1) (.slice a2 p.h.length c2) (.slice a3 p.r.length c3)
    have h1 := OwP.mid AQ.out hm5 (.inr (by omega))
    exact ⟨_, _, _, rfl, OwP.wide h1 (by omega) hm5.size, HB_9.out.trans (hm5.toBelow (by omega) HB_9.out.size)⟩

end Go.Proofs.Ytinmpookknpmlaa

/- Sigma proofs: ProveEqual of both. -/
namespace Go.Proofs.Ytinmpookknpmlaa
open Go.RowKit
set_option linter.unusedVariables false
set_option linter.unusedSimpArgs false


/-! ### ProveEqual -/
def peB (P Q G : Int) (s : ByteArray) (a b c d x cn : Int) : Bool := teV P Q G a b c d x && plB P Q G s [[a], [c]] [x] [cn]
def peV (P Q G : Int) (s : ByteArray) (a b c d x cn : Int) : PrD := if peB P Q G s a b c d x cn then spP P Q G s [[a], [c]] [x] [cn] else nilP
theorem pe_off {P Q G : Int} {s : ByteArray} {a b c d x cn : Int} (h : peB P Q G s a b c d x cn = false) : peV P Q G s a b c d x cn = nilP := by simp [peV, h]
theorem pe_pl {P Q G : Int} {s : ByteArray} {a b c d x cn : Int} (h : teV P Q G a b c d x = true) : peB P Q G s a b c d x cn = plB P Q G s [[a], [c]] [x] [cn] ∧ peV P Q G s a b c d x cn = plV P Q G s [[a], [c]] [x] [cn] := by
  have e : peB P Q G s a b c d x cn = plB P Q G s [[a], [c]] [x] [cn] := by unfold peB; rw [h, Bool.true_and]
  refine ⟨e, ?_⟩
  unfold peV plV
  rw [e]
theorem pe_n (P Q G : Int) (s : ByteArray) (a b c d x cn : Int) : (peV P Q G s a b c d x cn).n ≤ 24 := by
  cases h : peB P Q G s a b c d x cn
  · rw [pe_off h]; simp [nilP, PrD.n]
  · have ht : teV P Q G a b c d x = true := by unfold peB at h; exact ((Bool.and_eq_true _ _).mp h).1
    rw [(pe_pl ht).2]; exact pl_n ..
theorem te_true {P Q G a b c d x : Int} : teV P Q G a b c d x = true ↔ goodB P Q G = true ∧ allEl P Q [a, b, c, d] = true ∧ exB Q x = true ∧ isT P a b c d x = true := by simp [teV, teB]; exact ⟨fun ⟨⟨h1, h2, h3⟩, h4⟩ => ⟨h1, h2, h3, h4⟩, fun ⟨h1, h2, h3, h4⟩ => ⟨⟨h1, h2, h3⟩, h4⟩⟩

theorem v4_mid {w w' : World} {b A B : Nat} {x y z t : Int} (h : V4 w b x y z t) (hm : Mid A B w w') (hb : b < A) : V4 w' b x y z t := by
  have hl := h.lt
  have he := hm.block b hl (.inl hb)
  obtain ⟨c0, c1, c2, c3⟩ := h
  refine ⟨?_, ?_, ?_, ?_⟩
  · rw [World.cell?_of_block (a := ⟨b, 0, none⟩) he]; exact c0
  · rw [World.cell?_of_block (a := ⟨b, 1, none⟩) he]; exact c1
  · rw [World.cell?_of_block (a := ⟨b, 2, none⟩) he]; exact c2
  · rw [World.cell?_of_block (a := ⟨b, 3, none⟩) he]; exact c3

set_option maxRecDepth 100000 in
set_option maxHeartbeats 6400000 in
theorem provE_any (P Q G a b c d x cn : Int) (s : ByteArray) (hs : s.size ≤ 1048576) (w : World) :
    Calls Try.prog 57 #[gv P Q G, .string s, ev4 a b c d, .int .i64 x, .int .i64 cn] w (AnsQ w.heap.size w (peV P Q G s a b c d x cn) (peB P Q G s a b c d x cn)) := by
  have G_0 := Lib.hid (((gr_new w P Q G 32).below (ba _ (.cells #[.int .i64 a, .int .i64 b, .int .i64 c, .int .i64 d] 47))).below (ba _ (.cells #[.slice none 0 0, .slice none 0 0, .slice none 0 0] 36)))
  have hv := v4_new (w.alloc (.cells #[.int .i64 P, .int .i64 Q, .int .i64 G] 32)) a b c d 47
  rw [show (w.alloc (.cells #[.int .i64 P, .int .i64 Q, .int .i64 G] 32)).heap.size = w.heap.size + 1 by simp] at hv
  have V_0 := Lib.hid (V4.below hv (ba _ (.cells #[.slice none 0 0, .slice none 0 0, .slice none 0 0] 36)))
  have hb3 := b3_new ((w.alloc (.cells #[.int .i64 P, .int .i64 Q, .int .i64 G] 32)).alloc (.cells #[.int .i64 a, .int .i64 b, .int .i64 c, .int .i64 d] 47)) (.slice none 0 0) (.slice none 0 0) (.slice none 0 0) 36
  rw [show ((w.alloc (.cells #[.int .i64 P, .int .i64 Q, .int .i64 G] 32)).alloc (.cells #[.int .i64 a, .int .i64 b, .int .i64 c, .int .i64 d] 47)).heap.size = w.heap.size + 2 by simp] at hb3
  have Z_0 := Lib.hid hb3
  have HB_0 := Lib.hid (bt (bt (ba w (.cells #[.int .i64 P, .int .i64 Q, .int .i64 G] 32)) (ba _ (.cells #[.int .i64 a, .int .i64 b, .int .i64 c, .int .i64 d] 47))) (ba _ (.cells #[.slice none 0 0, .slice none 0 0, .slice none 0 0] 36)))
  clear hv hb3
  obtain ⟨g0, g1, g2⟩ := G_0.out
  obtain ⟨e0, e1, e2, e3⟩ := V_0.out
  obtain ⟨y0, y1, y2, yf⟩ := Z_0.out
  have yf0 := yf 0
  have yf1 := yf 1
  have yf2 := yf 2
  obtain ⟨tb, htb⟩ : ∃ k, teB P Q G a b c d x = k := ⟨_, rfl⟩
  have HTB := Lib.hid htb
  clear htb yf
  cases ht : teV P Q G a b c d x
  · have E1 := Lib.hid (show peB P Q G s a b c d x cn = false by simp [peB, ht])
    rw [E1.out, pe_off E1.out]
    have HT := Lib.hid ht
    clear ht
    go_enter Try.func57, Try.ntmps57
    go_wp2_with fail
    refine (isTrueEqual_any P Q G a b c d x _).mono ?_
    rw [HT.out, HTB.out]
    rintro e v1 ⟨rfl, hb⟩
    have HB_1 := Lib.hid (bt HB_0.out hb)
    have Z_1 := Lib.hid (Z_0.out.below hb)
    clear hb g0 g1 g2 e0 e1 e2 e3 y0 y1 y2 yf0 yf1 yf2
    obtain ⟨y0, y1, y2, yf⟩ := Z_1.out
    have yf0 := yf 0
    have yf1 := yf 1
    have yf2 := yf 2
    clear yf
    go_wp2
    (try simp only [Exit.inBlock, Exit.then])
    refine bodyPost_ret (v := .tuple #[.agg #[.slice none 0 0, .slice none 0 0, .slice none 0 0], .bool false]) ?_ rfl ?_
    · rw [results_cell_tmp rfl]; go_simp
    · have hm5 := mid3 v1 (w.heap.size + 2) (.slice none 0 0) (.slice none 0 0) (.slice none 0 0)
      exact ⟨_, _, _, rfl, owQ_nil _ _ (Nat.le_trans HB_1.out.size hm5.size), HB_1.out.trans (hm5.toBelow (by omega) HB_1.out.size)⟩
  rw [(pe_pl ht).1, (pe_pl ht).2]
  have HT := Lib.hid ht
  clear ht
  generalize hrs : ([[a], [c]] : List (List Int)) = rs
  generalize hxs : ([x] : List Int) = xs
  generalize hcs : ([cn] : List Int) = cs
  have HRS := Lib.hid hrs
  have HXS := Lib.hid hxs
  have HCS := Lib.hid hcs
  clear hrs hxs hcs
  obtain ⟨p, hp⟩ : ∃ p, plV P Q G s rs xs cs = p := ⟨_, rfl⟩
  obtain ⟨ok, hk0⟩ : ∃ k, plB P Q G s rs xs cs = k := ⟨_, rfl⟩
  have HP := Lib.hid hp
  have HO := Lib.hid hk0
  rw [hp, hk0]
  clear hp hk0
  have hl : rs.length ≤ 1048576 := by rw [← HRS.out]; simp
  have hxl : xs.length ≤ 1048576 := by rw [← HXS.out]; simp
  have hcl : cs.length ≤ 1048576 := by rw [← HCS.out]; simp
  have HRL := Lib.hid (show ∀ z ∈ rs, z.length ≤ 17592186044416 from by rw [← HRS.out]; intro z hz; simp at hz; rcases hz with rfl | rfl <;> simp)
  have hfld : ∀ (x y : Value) (W : World), (Instr.field 90 (.agg #[x, y]) 0).run Try.prog W = .ok x W := fun _ _ _ => by kernel_rfl
  go_enter Try.func57, Try.ntmps57
  go_wp2_with fail
  refine (isTrueEqual_any P Q G a b c d x _).mono ?_
  rw [HT.out, HTB.out]
  rintro e v1 ⟨rfl, hb⟩
  have HB_1 := Lib.hid (bt HB_0.out hb)
  have G_1 := Lib.hid (G_0.out.below hb)
  have V_1 := Lib.hid (V_0.out.below hb)
  have Z_1 := Lib.hid (Z_0.out.below hb)
  clear hb g0 g1 g2 e0 e1 e2 e3 y0 y1 y2 yf0 yf1 yf2
  obtain ⟨g0, g1, g2⟩ := G_1.out
  obtain ⟨e0, e1, e2, e3⟩ := V_1.out
  go_wp2_with fail
  have hbd : Below v1.heap.size v1 v1.drew := (Below.refl _ v1).drew
  have HB_s := Lib.hid (bt HB_1.out hbd)
  have G_s := Lib.hid (G_1.out.below hbd)
  have V_s := Lib.hid (V_1.out.below hbd)
  have Z_s := Lib.hid (Z_1.out.below hbd)
  clear hbd
  refine wp_region_held_drew (S := (fun w' => (w'.cell? ⟨w.heap.size, 0, none⟩ = some (.int .i64 P) ∧ w'.cell? ⟨w.heap.size, 1, none⟩ = some (.int .i64 Q) ∧ w'.cell? ⟨w.heap.size, 2, none⟩ = some (.int .i64 G)) ∧ w'.cell? ⟨w.heap.size + 1, 0, none⟩ = some (.int .i64 a) ∧ w'.cell? ⟨w.heap.size + 1, 1, none⟩ = some (.int .i64 b) ∧ w'.cell? ⟨w.heap.size + 1, 2, none⟩ = some (.int .i64 c) ∧ w'.cell? ⟨w.heap.size + 1, 3, none⟩ = some (.int .i64 d))) (by kernel_rfl) (show _ from ⟨⟨G_1.out.1, G_1.out.2.1, G_1.out.2.2⟩, V_1.out.1, V_1.out.2.1, V_1.out.2.2.1, V_1.out.2.2.2⟩) (fun hHeld => ?_)
  generalize hW0 : v1.drew = Ws at *
  clear hW0
  refine wpAnyH_take (i := 0) (v := ?_) rfl (by kernel_rfl) (by kernel_rfl) (by kernel_rfl) (fun _ _ _ h => h) (Or.inl ⟨by kernel_rfl, ?_⟩) (by assumption) ?_
  rotate_left 1
  · intro w9 hSw
    try dsimp only at hSw
    go_simp
    try with_reducible rfl
  try simp only [Act.put, List.getElem_toArray, List.getElem_cons_succ, List.getElem_cons_zero, List.setIfInBounds_toArray, List.set_cons_zero, List.set_cons_succ]
  refine wpAnyH_take (i := 1) (v := ?_) rfl (by kernel_rfl) (by kernel_rfl) (by kernel_rfl) (fun _ _ _ h => h) (Or.inl ⟨by kernel_rfl, ?_⟩) (by assumption) ?_
  rotate_left 1
  · intro w9 hSw
    try dsimp only at hSw
    go_simp
    try with_reducible rfl
  try simp only [Act.put, List.getElem_toArray, List.getElem_cons_succ, List.getElem_cons_zero, List.setIfInBounds_toArray, List.set_cons_zero, List.set_cons_succ]
  refine wpAnyH_take (i := 2) (v := ?_) rfl (by kernel_rfl) (by kernel_rfl) (by kernel_rfl) (fun _ _ _ h => h) (Or.inl ⟨by kernel_rfl, ?_⟩) (by assumption) ?_
  rotate_left 1
  · intro w9 hSw
    try dsimp only at hSw
    go_simp
    try with_reducible rfl
  try simp only [Act.put, List.getElem_toArray, List.getElem_cons_succ, List.getElem_cons_zero, List.setIfInBounds_toArray, List.set_cons_zero, List.set_cons_succ]
  refine wpAnyH_take (i := 5) (v := ?_) rfl (by kernel_rfl) (by kernel_rfl) (by kernel_rfl) (fun _ _ _ h => h) (Or.inl ⟨by kernel_rfl, ?_⟩) (by assumption) ?_
  rotate_left 1
  · intro w9 hSw
    try dsimp only at hSw
    go_simp
    try with_reducible rfl
  try simp only [Act.put, List.getElem_toArray, List.getElem_cons_succ, List.getElem_cons_zero, List.setIfInBounds_toArray, List.set_cons_zero, List.set_cons_succ]
  refine wpAnyH_take (i := 7) (v := ?_) rfl (by kernel_rfl) (by kernel_rfl) (by kernel_rfl) (fun _ _ _ h => h) (Or.inl ⟨by kernel_rfl, ?_⟩) (by assumption) ?_
  rotate_left 1
  · intro w9 hSw
    try dsimp only at hSw
    go_simp
    try with_reducible rfl
  try simp only [Act.put, List.getElem_toArray, List.getElem_cons_succ, List.getElem_cons_zero, List.setIfInBounds_toArray, List.set_cons_zero, List.set_cons_succ]
  refine wpAnyH_ready (rs := [3, 6, 8]) (by kernel_rfl) (by simp) ?_
  refine AllReadyH.cons rfl (fun K hK => ?_) (AllReadyH.cons rfl (fun K hK => ?_) (AllReadyH.cons rfl (fun K hK => ?_) (AllReadyH.nil)))
  · go_simp
    go_at_call 66
    refine (rows_any a b c d _).mono ?_
    rintro e3 Ws3 ⟨r9, s9, rfl, hr4, hb⟩
    have HB_s3 := Lib.hid (bt HB_s.out hb)
    have G_s3 := Lib.hid (G_s.out.below hb)
    have V_s3 := Lib.hid (V_s.out.below hb)
    have Z_s3 := Lib.hid (Z_s.out.below hb)
    have RL_s3 := Lib.hid (hr4.ins).1
    clear hb hr4
    go_wp2_with fail
    refine hK.out _ _ (show _ from ⟨⟨G_s3.out.1, G_s3.out.2.1, G_s3.out.2.2⟩, V_s3.out.1, V_s3.out.2.1, V_s3.out.2.2.1, V_s3.out.2.2.2⟩) (fun hHeld => ?_)
    clear hK K
    try simp only [Act.put, List.getElem_toArray, List.getElem_cons_succ, List.getElem_cons_zero, List.setIfInBounds_toArray, List.set_cons_zero, List.set_cons_succ]
    refine wpAnyH_take (i := 4) (v := ?_) rfl (by kernel_rfl) (by kernel_rfl) (by kernel_rfl) (fun _ _ _ h => h) (Or.inl ⟨by kernel_rfl, ?_⟩) (by assumption) ?_
    rotate_left 1
    · intro w9 hSw
      try dsimp only at hSw
      go_simp
      try with_reducible rfl
    try simp only [Act.put, List.getElem_toArray, List.getElem_cons_succ, List.getElem_cons_zero, List.setIfInBounds_toArray, List.set_cons_zero, List.set_cons_succ]
    refine wpAnyH_ready (rs := [6, 8]) (by kernel_rfl) (by simp) ?_
    refine AllReadyH.cons rfl (fun K hK => ?_) (AllReadyH.cons rfl (fun K hK => ?_) (AllReadyH.nil))
    · go_simp
      have hb := ba Ws3 (.cells #[.int .i64 x] 3)
      have HB_s36 := Lib.hid (bt HB_s3.out hb)
      have G_s36 := Lib.hid (G_s3.out.below hb)
      have V_s36 := Lib.hid (V_s3.out.below hb)
      have Z_s36 := Lib.hid (Z_s3.out.below hb)
      have RL_s36 := Lib.hid (RL_s3.out.below hb)
      have XL_s36 := Lib.hid (one_in (one_new Ws3 (.int .i64 x) 3))
      clear hb
      refine hK.out _ _ (show _ from ⟨⟨G_s36.out.1, G_s36.out.2.1, G_s36.out.2.2⟩, V_s36.out.1, V_s36.out.2.1, V_s36.out.2.2.1, V_s36.out.2.2.2⟩) (fun hHeld => ?_)
      clear hK K
      try simp only [Act.put, List.getElem_toArray, List.getElem_cons_succ, List.getElem_cons_zero, List.setIfInBounds_toArray, List.set_cons_zero, List.set_cons_succ]
      generalize hW9 : Ws3.alloc (.cells #[.int .i64 x] 3) = Ws36 at *
      clear hW9
      refine wpAnyH_ready (rs := [8]) (by kernel_rfl) (by simp) ?_
      refine AllReadyH.cons rfl (fun K hK => ?_) (AllReadyH.nil)
      · go_simp
        have hb := ba Ws36 (.cells #[.int .i64 cn] 3)
        have HB_s368 := Lib.hid (bt HB_s36.out hb)
        have G_s368 := Lib.hid (G_s36.out.below hb)
        have V_s368 := Lib.hid (V_s36.out.below hb)
        have Z_s368 := Lib.hid (Z_s36.out.below hb)
        have RL_s368 := Lib.hid (RL_s36.out.below hb)
        have XL_s368 := Lib.hid (XL_s36.out.below hb)
        have CL_s368 := Lib.hid (one_in (one_new Ws36 (.int .i64 cn) 3))
        clear hb
        refine hK.out _ _ (show _ from ⟨⟨G_s368.out.1, G_s368.out.2.1, G_s368.out.2.2⟩, V_s368.out.1, V_s368.out.2.1, V_s368.out.2.2.1, V_s368.out.2.2.2⟩) (fun hHeld => ?_)
        clear hK K
        try simp only [Act.put, List.getElem_toArray, List.getElem_cons_succ, List.getElem_cons_zero, List.setIfInBounds_toArray, List.set_cons_zero, List.set_cons_succ]
        generalize hW9 : Ws36.alloc (.cells #[.int .i64 cn] 3) = Ws368 at *
        clear hW9
        refine wpAnyH_ready (rs := [9]) (by kernel_rfl) (by simp) ?_
        refine AllReadyH.cons rfl (fun K hK => ?_) AllReadyH.nil
        go_simp
        go_at_call 49
        refine (provL_any P Q G s hs hl HRL.out hxl hcl (by have h := RL_s368.out; rw [HRS.out] at h; exact h) (by have h := XL_s368.out; rw [HXS.out] at h; exact h) (by have h := CL_s368.out; rw [HCS.out] at h; exact h)).mono ?_
        rw [HP.out, HO.out]
        rintro e9 v9 ⟨qa, qb, qc, rfl, hq, hb⟩
        obtain ⟨a1, c1, a2, c2, a3, c3, rfl, rfl, rfl⟩ := hq.shape
        have HB_z := Lib.hid (bt HB_s368.out hb)
        have G_z := Lib.hid (G_s368.out.below hb)
        have V_z := Lib.hid (V_s368.out.below hb)
        have Z_z := Lib.hid (Z_s368.out.below hb)
        have lz9 := Z_s368.out.lt
        have lb9 := HB_s368.out.size
        have AQ := Lib.hid hq
        clear hq hb
        go_wp2_with fail
        refine hK.out _ _ (show _ from ⟨⟨G_z.out.1, G_z.out.2.1, G_z.out.2.2⟩, V_z.out.1, V_z.out.2.1, V_z.out.2.2.1, V_z.out.2.2.2⟩) (fun hHeld => ?_)
        clear hK K
        try simp only [Act.put, List.getElem_toArray, List.getElem_cons_succ, List.getElem_cons_zero, List.setIfInBounds_toArray, List.set_cons_zero, List.set_cons_succ]
        refine wpAnyH_take (i := 10) (v := ?_) rfl (by kernel_rfl) (by kernel_rfl) (by kernel_rfl) (fun _ _ _ h => h) (Or.inl ⟨by kernel_rfl, ?_⟩) (by assumption) ?_
        rotate_left 1
        · intro w9 hSw
          try dsimp only at hSw
          go_simp
          try with_reducible rfl
        try simp only [Act.put, List.getElem_toArray, List.getElem_cons_succ, List.getElem_cons_zero, List.setIfInBounds_toArray, List.set_cons_zero, List.set_cons_succ]
        refine wpAnyH_take (i := 11) (v := ?_) rfl (by kernel_rfl) (by kernel_rfl) (by kernel_rfl) (fun _ _ _ h => h) (Or.inl ⟨by kernel_rfl, ?_⟩) (by assumption) ?_
        rotate_left 1
        · intro w9 hSw
          try dsimp only at hSw
          go_simp
          try with_reducible rfl
        try simp only [Act.put, List.getElem_toArray, List.getElem_cons_succ, List.getElem_cons_zero, List.setIfInBounds_toArray, List.set_cons_zero, List.set_cons_succ]
        have hm5 := mid3 v9 (w.heap.size + 2) (.slice a1 p.c.length c1) (.slice a2 p.h.length c2) (.slice a3 p.r.length c3)
        have G_y := Lib.hid (G_z.out.mid hm5 (.inl (by omega)))
        have V_y := Lib.hid (v4_mid V_z.out hm5 (by omega))
        have AY := Lib.hid (AQ.out.mid hm5 (.inr (by omega)))
        have HB_y := Lib.hid (HB_z.out.trans (hm5.toBelow (by omega) HB_z.out.size))
        have hs5 := hm5.size
        clear hm5
        refine wpAnyH_ready (rs := [12]) (by kernel_rfl) (by simp) ?_
        refine AllReadyH.cons rfl (fun K hK => ?_) AllReadyH.nil
        obtain ⟨y0, y1, y2, yf⟩ := Z_z.out
        have yf0 := yf 0
        have yf1 := yf 1
        have yf2 := yf 2
        clear yf
        go_simp
        refine hK.out _ _ (show _ from ⟨⟨G_y.out.1, G_y.out.2.1, G_y.out.2.2⟩, V_y.out.1, V_y.out.2.1, V_y.out.2.2.1, V_y.out.2.2.2⟩) (fun hHeld => ?_)
        clear hK K
        try simp only [Act.put, List.getElem_toArray, List.getElem_cons_succ, List.getElem_cons_zero, List.setIfInBounds_toArray, List.set_cons_zero, List.set_cons_succ]
        refine wpAnyH_take (i := 13) (v := ?_) rfl (by kernel_rfl) (by kernel_rfl) (by kernel_rfl) (fun _ _ _ h => h) (Or.inl ⟨by kernel_rfl, ?_⟩) (by assumption) ?_
        rotate_left 1
        · intro w9 hSw
          try dsimp only at hSw
          go_simp
          try with_reducible rfl
        try simp only [Act.put, List.getElem_toArray, List.getElem_cons_succ, List.getElem_cons_zero, List.setIfInBounds_toArray, List.set_cons_zero, List.set_cons_succ]
        refine wpAnyH_done (by kernel_rfl) ?_ _
        go_wp2
        (try simp only [Exit.inBlock, Exit.then])
        refine bodyPost_ret (v := .tuple #[.agg #[.slice a1 p.c.length c1, .slice a2 p.h.length c2, .slice a3 p.r.length c3], .bool ok]) ?_ rfl ?_
        · rw [results_cell_tmp rfl]; go_simp
        · exact ⟨_, _, _, rfl, AY.out.wide (by omega) hs5 (Nat.le_refl _), HB_y.out⟩
    · go_simp
      have hb := ba Ws3 (.cells #[.int .i64 cn] 3)
      have HB_s38 := Lib.hid (bt HB_s3.out hb)
      have G_s38 := Lib.hid (G_s3.out.below hb)
      have V_s38 := Lib.hid (V_s3.out.below hb)
      have Z_s38 := Lib.hid (Z_s3.out.below hb)
      have RL_s38 := Lib.hid (RL_s3.out.below hb)
      have CL_s38 := Lib.hid (one_in (one_new Ws3 (.int .i64 cn) 3))
      clear hb
      refine hK.out _ _ (show _ from ⟨⟨G_s38.out.1, G_s38.out.2.1, G_s38.out.2.2⟩, V_s38.out.1, V_s38.out.2.1, V_s38.out.2.2.1, V_s38.out.2.2.2⟩) (fun hHeld => ?_)
      clear hK K
      try simp only [Act.put, List.getElem_toArray, List.getElem_cons_succ, List.getElem_cons_zero, List.setIfInBounds_toArray, List.set_cons_zero, List.set_cons_succ]
      generalize hW9 : Ws3.alloc (.cells #[.int .i64 cn] 3) = Ws38 at *
      clear hW9
      refine wpAnyH_ready (rs := [6]) (by kernel_rfl) (by simp) ?_
      refine AllReadyH.cons rfl (fun K hK => ?_) (AllReadyH.nil)
      · go_simp
        have hb := ba Ws38 (.cells #[.int .i64 x] 3)
        have HB_s386 := Lib.hid (bt HB_s38.out hb)
        have G_s386 := Lib.hid (G_s38.out.below hb)
        have V_s386 := Lib.hid (V_s38.out.below hb)
        have Z_s386 := Lib.hid (Z_s38.out.below hb)
        have RL_s386 := Lib.hid (RL_s38.out.below hb)
        have CL_s386 := Lib.hid (CL_s38.out.below hb)
        have XL_s386 := Lib.hid (one_in (one_new Ws38 (.int .i64 x) 3))
        clear hb
        refine hK.out _ _ (show _ from ⟨⟨G_s386.out.1, G_s386.out.2.1, G_s386.out.2.2⟩, V_s386.out.1, V_s386.out.2.1, V_s386.out.2.2.1, V_s386.out.2.2.2⟩) (fun hHeld => ?_)
        clear hK K
        try simp only [Act.put, List.getElem_toArray, List.getElem_cons_succ, List.getElem_cons_zero, List.setIfInBounds_toArray, List.set_cons_zero, List.set_cons_succ]
        generalize hW9 : Ws38.alloc (.cells #[.int .i64 x] 3) = Ws386 at *
        clear hW9
        refine wpAnyH_ready (rs := [9]) (by kernel_rfl) (by simp) ?_
        refine AllReadyH.cons rfl (fun K hK => ?_) AllReadyH.nil
        go_simp
        go_at_call 49
        refine (provL_any P Q G s hs hl HRL.out hxl hcl (by have h := RL_s386.out; rw [HRS.out] at h; exact h) (by have h := XL_s386.out; rw [HXS.out] at h; exact h) (by have h := CL_s386.out; rw [HCS.out] at h; exact h)).mono ?_
        rw [HP.out, HO.out]
        rintro e9 v9 ⟨qa, qb, qc, rfl, hq, hb⟩
        obtain ⟨a1, c1, a2, c2, a3, c3, rfl, rfl, rfl⟩ := hq.shape
        have HB_z := Lib.hid (bt HB_s386.out hb)
        have G_z := Lib.hid (G_s386.out.below hb)
        have V_z := Lib.hid (V_s386.out.below hb)
        have Z_z := Lib.hid (Z_s386.out.below hb)
        have lz9 := Z_s386.out.lt
        have lb9 := HB_s386.out.size
        have AQ := Lib.hid hq
        clear hq hb
        go_wp2_with fail
        refine hK.out _ _ (show _ from ⟨⟨G_z.out.1, G_z.out.2.1, G_z.out.2.2⟩, V_z.out.1, V_z.out.2.1, V_z.out.2.2.1, V_z.out.2.2.2⟩) (fun hHeld => ?_)
        clear hK K
        try simp only [Act.put, List.getElem_toArray, List.getElem_cons_succ, List.getElem_cons_zero, List.setIfInBounds_toArray, List.set_cons_zero, List.set_cons_succ]
        refine wpAnyH_take (i := 10) (v := ?_) rfl (by kernel_rfl) (by kernel_rfl) (by kernel_rfl) (fun _ _ _ h => h) (Or.inl ⟨by kernel_rfl, ?_⟩) (by assumption) ?_
        rotate_left 1
        · intro w9 hSw
          try dsimp only at hSw
          go_simp
          try with_reducible rfl
        try simp only [Act.put, List.getElem_toArray, List.getElem_cons_succ, List.getElem_cons_zero, List.setIfInBounds_toArray, List.set_cons_zero, List.set_cons_succ]
        refine wpAnyH_take (i := 11) (v := ?_) rfl (by kernel_rfl) (by kernel_rfl) (by kernel_rfl) (fun _ _ _ h => h) (Or.inl ⟨by kernel_rfl, ?_⟩) (by assumption) ?_
        rotate_left 1
        · intro w9 hSw
          try dsimp only at hSw
          go_simp
          try with_reducible rfl
        try simp only [Act.put, List.getElem_toArray, List.getElem_cons_succ, List.getElem_cons_zero, List.setIfInBounds_toArray, List.set_cons_zero, List.set_cons_succ]
        have hm5 := mid3 v9 (w.heap.size + 2) (.slice a1 p.c.length c1) (.slice a2 p.h.length c2) (.slice a3 p.r.length c3)
        have G_y := Lib.hid (G_z.out.mid hm5 (.inl (by omega)))
        have V_y := Lib.hid (v4_mid V_z.out hm5 (by omega))
        have AY := Lib.hid (AQ.out.mid hm5 (.inr (by omega)))
        have HB_y := Lib.hid (HB_z.out.trans (hm5.toBelow (by omega) HB_z.out.size))
        have hs5 := hm5.size
        clear hm5
        refine wpAnyH_ready (rs := [12]) (by kernel_rfl) (by simp) ?_
        refine AllReadyH.cons rfl (fun K hK => ?_) AllReadyH.nil
        obtain ⟨y0, y1, y2, yf⟩ := Z_z.out
        have yf0 := yf 0
        have yf1 := yf 1
        have yf2 := yf 2
        clear yf
        go_simp
        refine hK.out _ _ (show _ from ⟨⟨G_y.out.1, G_y.out.2.1, G_y.out.2.2⟩, V_y.out.1, V_y.out.2.1, V_y.out.2.2.1, V_y.out.2.2.2⟩) (fun hHeld => ?_)
        clear hK K
        try simp only [Act.put, List.getElem_toArray, List.getElem_cons_succ, List.getElem_cons_zero, List.setIfInBounds_toArray, List.set_cons_zero, List.set_cons_succ]
        refine wpAnyH_take (i := 13) (v := ?_) rfl (by kernel_rfl) (by kernel_rfl) (by kernel_rfl) (fun _ _ _ h => h) (Or.inl ⟨by kernel_rfl, ?_⟩) (by assumption) ?_
        rotate_left 1
        · intro w9 hSw
          try dsimp only at hSw
          go_simp
          try with_reducible rfl
        try simp only [Act.put, List.getElem_toArray, List.getElem_cons_succ, List.getElem_cons_zero, List.setIfInBounds_toArray, List.set_cons_zero, List.set_cons_succ]
        refine wpAnyH_done (by kernel_rfl) ?_ _
        go_wp2
        (try simp only [Exit.inBlock, Exit.then])
        refine bodyPost_ret (v := .tuple #[.agg #[.slice a1 p.c.length c1, .slice a2 p.h.length c2, .slice a3 p.r.length c3], .bool ok]) ?_ rfl ?_
        · rw [results_cell_tmp rfl]; go_simp
        · exact ⟨_, _, _, rfl, AY.out.wide (by omega) hs5 (Nat.le_refl _), HB_y.out⟩
  · go_simp
    have hb := ba Ws (.cells #[.int .i64 x] 3)
    have HB_s6 := Lib.hid (bt HB_s.out hb)
    have G_s6 := Lib.hid (G_s.out.below hb)
    have V_s6 := Lib.hid (V_s.out.below hb)
    have Z_s6 := Lib.hid (Z_s.out.below hb)
    have XL_s6 := Lib.hid (one_in (one_new Ws (.int .i64 x) 3))
    clear hb
    refine hK.out _ _ (show _ from ⟨⟨G_s6.out.1, G_s6.out.2.1, G_s6.out.2.2⟩, V_s6.out.1, V_s6.out.2.1, V_s6.out.2.2.1, V_s6.out.2.2.2⟩) (fun hHeld => ?_)
    clear hK K
    try simp only [Act.put, List.getElem_toArray, List.getElem_cons_succ, List.getElem_cons_zero, List.setIfInBounds_toArray, List.set_cons_zero, List.set_cons_succ]
    generalize hW9 : Ws.alloc (.cells #[.int .i64 x] 3) = Ws6 at *
    clear hW9
    refine wpAnyH_ready (rs := [3, 8]) (by kernel_rfl) (by simp) ?_
    refine AllReadyH.cons rfl (fun K hK => ?_) (AllReadyH.cons rfl (fun K hK => ?_) (AllReadyH.nil))
    · go_simp
      go_at_call 66
      refine (rows_any a b c d _).mono ?_
      rintro e3 Ws63 ⟨r9, s9, rfl, hr4, hb⟩
      have HB_s63 := Lib.hid (bt HB_s6.out hb)
      have G_s63 := Lib.hid (G_s6.out.below hb)
      have V_s63 := Lib.hid (V_s6.out.below hb)
      have Z_s63 := Lib.hid (Z_s6.out.below hb)
      have XL_s63 := Lib.hid (XL_s6.out.below hb)
      have RL_s63 := Lib.hid (hr4.ins).1
      clear hb hr4
      go_wp2_with fail
      refine hK.out _ _ (show _ from ⟨⟨G_s63.out.1, G_s63.out.2.1, G_s63.out.2.2⟩, V_s63.out.1, V_s63.out.2.1, V_s63.out.2.2.1, V_s63.out.2.2.2⟩) (fun hHeld => ?_)
      clear hK K
      try simp only [Act.put, List.getElem_toArray, List.getElem_cons_succ, List.getElem_cons_zero, List.setIfInBounds_toArray, List.set_cons_zero, List.set_cons_succ]
      refine wpAnyH_take (i := 4) (v := ?_) rfl (by kernel_rfl) (by kernel_rfl) (by kernel_rfl) (fun _ _ _ h => h) (Or.inl ⟨by kernel_rfl, ?_⟩) (by assumption) ?_
      rotate_left 1
      · intro w9 hSw
        try dsimp only at hSw
        go_simp
        try with_reducible rfl
      try simp only [Act.put, List.getElem_toArray, List.getElem_cons_succ, List.getElem_cons_zero, List.setIfInBounds_toArray, List.set_cons_zero, List.set_cons_succ]
      refine wpAnyH_ready (rs := [8]) (by kernel_rfl) (by simp) ?_
      refine AllReadyH.cons rfl (fun K hK => ?_) (AllReadyH.nil)
      · go_simp
        have hb := ba Ws63 (.cells #[.int .i64 cn] 3)
        have HB_s638 := Lib.hid (bt HB_s63.out hb)
        have G_s638 := Lib.hid (G_s63.out.below hb)
        have V_s638 := Lib.hid (V_s63.out.below hb)
        have Z_s638 := Lib.hid (Z_s63.out.below hb)
        have XL_s638 := Lib.hid (XL_s63.out.below hb)
        have RL_s638 := Lib.hid (RL_s63.out.below hb)
        have CL_s638 := Lib.hid (one_in (one_new Ws63 (.int .i64 cn) 3))
        clear hb
        refine hK.out _ _ (show _ from ⟨⟨G_s638.out.1, G_s638.out.2.1, G_s638.out.2.2⟩, V_s638.out.1, V_s638.out.2.1, V_s638.out.2.2.1, V_s638.out.2.2.2⟩) (fun hHeld => ?_)
        clear hK K
        try simp only [Act.put, List.getElem_toArray, List.getElem_cons_succ, List.getElem_cons_zero, List.setIfInBounds_toArray, List.set_cons_zero, List.set_cons_succ]
        generalize hW9 : Ws63.alloc (.cells #[.int .i64 cn] 3) = Ws638 at *
        clear hW9
        refine wpAnyH_ready (rs := [9]) (by kernel_rfl) (by simp) ?_
        refine AllReadyH.cons rfl (fun K hK => ?_) AllReadyH.nil
        go_simp
        go_at_call 49
        refine (provL_any P Q G s hs hl HRL.out hxl hcl (by have h := RL_s638.out; rw [HRS.out] at h; exact h) (by have h := XL_s638.out; rw [HXS.out] at h; exact h) (by have h := CL_s638.out; rw [HCS.out] at h; exact h)).mono ?_
        rw [HP.out, HO.out]
        rintro e9 v9 ⟨qa, qb, qc, rfl, hq, hb⟩
        obtain ⟨a1, c1, a2, c2, a3, c3, rfl, rfl, rfl⟩ := hq.shape
        have HB_z := Lib.hid (bt HB_s638.out hb)
        have G_z := Lib.hid (G_s638.out.below hb)
        have V_z := Lib.hid (V_s638.out.below hb)
        have Z_z := Lib.hid (Z_s638.out.below hb)
        have lz9 := Z_s638.out.lt
        have lb9 := HB_s638.out.size
        have AQ := Lib.hid hq
        clear hq hb
        go_wp2_with fail
        refine hK.out _ _ (show _ from ⟨⟨G_z.out.1, G_z.out.2.1, G_z.out.2.2⟩, V_z.out.1, V_z.out.2.1, V_z.out.2.2.1, V_z.out.2.2.2⟩) (fun hHeld => ?_)
        clear hK K
        try simp only [Act.put, List.getElem_toArray, List.getElem_cons_succ, List.getElem_cons_zero, List.setIfInBounds_toArray, List.set_cons_zero, List.set_cons_succ]
        refine wpAnyH_take (i := 10) (v := ?_) rfl (by kernel_rfl) (by kernel_rfl) (by kernel_rfl) (fun _ _ _ h => h) (Or.inl ⟨by kernel_rfl, ?_⟩) (by assumption) ?_
        rotate_left 1
        · intro w9 hSw
          try dsimp only at hSw
          go_simp
          try with_reducible rfl
        try simp only [Act.put, List.getElem_toArray, List.getElem_cons_succ, List.getElem_cons_zero, List.setIfInBounds_toArray, List.set_cons_zero, List.set_cons_succ]
        refine wpAnyH_take (i := 11) (v := ?_) rfl (by kernel_rfl) (by kernel_rfl) (by kernel_rfl) (fun _ _ _ h => h) (Or.inl ⟨by kernel_rfl, ?_⟩) (by assumption) ?_
        rotate_left 1
        · intro w9 hSw
          try dsimp only at hSw
          go_simp
          try with_reducible rfl
        try simp only [Act.put, List.getElem_toArray, List.getElem_cons_succ, List.getElem_cons_zero, List.setIfInBounds_toArray, List.set_cons_zero, List.set_cons_succ]
        have hm5 := mid3 v9 (w.heap.size + 2) (.slice a1 p.c.length c1) (.slice a2 p.h.length c2) (.slice a3 p.r.length c3)
        have G_y := Lib.hid (G_z.out.mid hm5 (.inl (by omega)))
        have V_y := Lib.hid (v4_mid V_z.out hm5 (by omega))
        have AY := Lib.hid (AQ.out.mid hm5 (.inr (by omega)))
        have HB_y := Lib.hid (HB_z.out.trans (hm5.toBelow (by omega) HB_z.out.size))
        have hs5 := hm5.size
        clear hm5
        refine wpAnyH_ready (rs := [12]) (by kernel_rfl) (by simp) ?_
        refine AllReadyH.cons rfl (fun K hK => ?_) AllReadyH.nil
        obtain ⟨y0, y1, y2, yf⟩ := Z_z.out
        have yf0 := yf 0
        have yf1 := yf 1
        have yf2 := yf 2
        clear yf
        go_simp
        refine hK.out _ _ (show _ from ⟨⟨G_y.out.1, G_y.out.2.1, G_y.out.2.2⟩, V_y.out.1, V_y.out.2.1, V_y.out.2.2.1, V_y.out.2.2.2⟩) (fun hHeld => ?_)
        clear hK K
        try simp only [Act.put, List.getElem_toArray, List.getElem_cons_succ, List.getElem_cons_zero, List.setIfInBounds_toArray, List.set_cons_zero, List.set_cons_succ]
        refine wpAnyH_take (i := 13) (v := ?_) rfl (by kernel_rfl) (by kernel_rfl) (by kernel_rfl) (fun _ _ _ h => h) (Or.inl ⟨by kernel_rfl, ?_⟩) (by assumption) ?_
        rotate_left 1
        · intro w9 hSw
          try dsimp only at hSw
          go_simp
          try with_reducible rfl
        try simp only [Act.put, List.getElem_toArray, List.getElem_cons_succ, List.getElem_cons_zero, List.setIfInBounds_toArray, List.set_cons_zero, List.set_cons_succ]
        refine wpAnyH_done (by kernel_rfl) ?_ _
        go_wp2
        (try simp only [Exit.inBlock, Exit.then])
        refine bodyPost_ret (v := .tuple #[.agg #[.slice a1 p.c.length c1, .slice a2 p.h.length c2, .slice a3 p.r.length c3], .bool ok]) ?_ rfl ?_
        · rw [results_cell_tmp rfl]; go_simp
        · exact ⟨_, _, _, rfl, AY.out.wide (by omega) hs5 (Nat.le_refl _), HB_y.out⟩
    · go_simp
      have hb := ba Ws6 (.cells #[.int .i64 cn] 3)
      have HB_s68 := Lib.hid (bt HB_s6.out hb)
      have G_s68 := Lib.hid (G_s6.out.below hb)
      have V_s68 := Lib.hid (V_s6.out.below hb)
      have Z_s68 := Lib.hid (Z_s6.out.below hb)
      have XL_s68 := Lib.hid (XL_s6.out.below hb)
      have CL_s68 := Lib.hid (one_in (one_new Ws6 (.int .i64 cn) 3))
      clear hb
      refine hK.out _ _ (show _ from ⟨⟨G_s68.out.1, G_s68.out.2.1, G_s68.out.2.2⟩, V_s68.out.1, V_s68.out.2.1, V_s68.out.2.2.1, V_s68.out.2.2.2⟩) (fun hHeld => ?_)
      clear hK K
      try simp only [Act.put, List.getElem_toArray, List.getElem_cons_succ, List.getElem_cons_zero, List.setIfInBounds_toArray, List.set_cons_zero, List.set_cons_succ]
      generalize hW9 : Ws6.alloc (.cells #[.int .i64 cn] 3) = Ws68 at *
      clear hW9
      refine wpAnyH_ready (rs := [3]) (by kernel_rfl) (by simp) ?_
      refine AllReadyH.cons rfl (fun K hK => ?_) (AllReadyH.nil)
      · go_simp
        go_at_call 66
        refine (rows_any a b c d _).mono ?_
        rintro e3 Ws683 ⟨r9, s9, rfl, hr4, hb⟩
        have HB_s683 := Lib.hid (bt HB_s68.out hb)
        have G_s683 := Lib.hid (G_s68.out.below hb)
        have V_s683 := Lib.hid (V_s68.out.below hb)
        have Z_s683 := Lib.hid (Z_s68.out.below hb)
        have XL_s683 := Lib.hid (XL_s68.out.below hb)
        have CL_s683 := Lib.hid (CL_s68.out.below hb)
        have RL_s683 := Lib.hid (hr4.ins).1
        clear hb hr4
        go_wp2_with fail
        refine hK.out _ _ (show _ from ⟨⟨G_s683.out.1, G_s683.out.2.1, G_s683.out.2.2⟩, V_s683.out.1, V_s683.out.2.1, V_s683.out.2.2.1, V_s683.out.2.2.2⟩) (fun hHeld => ?_)
        clear hK K
        try simp only [Act.put, List.getElem_toArray, List.getElem_cons_succ, List.getElem_cons_zero, List.setIfInBounds_toArray, List.set_cons_zero, List.set_cons_succ]
        refine wpAnyH_take (i := 4) (v := ?_) rfl (by kernel_rfl) (by kernel_rfl) (by kernel_rfl) (fun _ _ _ h => h) (Or.inl ⟨by kernel_rfl, ?_⟩) (by assumption) ?_
        rotate_left 1
        · intro w9 hSw
          try dsimp only at hSw
          go_simp
          try with_reducible rfl
        try simp only [Act.put, List.getElem_toArray, List.getElem_cons_succ, List.getElem_cons_zero, List.setIfInBounds_toArray, List.set_cons_zero, List.set_cons_succ]
        refine wpAnyH_ready (rs := [9]) (by kernel_rfl) (by simp) ?_
        refine AllReadyH.cons rfl (fun K hK => ?_) AllReadyH.nil
        go_simp
        go_at_call 49
        refine (provL_any P Q G s hs hl HRL.out hxl hcl (by have h := RL_s683.out; rw [HRS.out] at h; exact h) (by have h := XL_s683.out; rw [HXS.out] at h; exact h) (by have h := CL_s683.out; rw [HCS.out] at h; exact h)).mono ?_
        rw [HP.out, HO.out]
        rintro e9 v9 ⟨qa, qb, qc, rfl, hq, hb⟩
        obtain ⟨a1, c1, a2, c2, a3, c3, rfl, rfl, rfl⟩ := hq.shape
        have HB_z := Lib.hid (bt HB_s683.out hb)
        have G_z := Lib.hid (G_s683.out.below hb)
        have V_z := Lib.hid (V_s683.out.below hb)
        have Z_z := Lib.hid (Z_s683.out.below hb)
        have lz9 := Z_s683.out.lt
        have lb9 := HB_s683.out.size
        have AQ := Lib.hid hq
        clear hq hb
        go_wp2_with fail
        refine hK.out _ _ (show _ from ⟨⟨G_z.out.1, G_z.out.2.1, G_z.out.2.2⟩, V_z.out.1, V_z.out.2.1, V_z.out.2.2.1, V_z.out.2.2.2⟩) (fun hHeld => ?_)
        clear hK K
        try simp only [Act.put, List.getElem_toArray, List.getElem_cons_succ, List.getElem_cons_zero, List.setIfInBounds_toArray, List.set_cons_zero, List.set_cons_succ]
        refine wpAnyH_take (i := 10) (v := ?_) rfl (by kernel_rfl) (by kernel_rfl) (by kernel_rfl) (fun _ _ _ h => h) (Or.inl ⟨by kernel_rfl, ?_⟩) (by assumption) ?_
        rotate_left 1
        · intro w9 hSw
          try dsimp only at hSw
          go_simp
          try with_reducible rfl
        try simp only [Act.put, List.getElem_toArray, List.getElem_cons_succ, List.getElem_cons_zero, List.setIfInBounds_toArray, List.set_cons_zero, List.set_cons_succ]
        refine wpAnyH_take (i := 11) (v := ?_) rfl (by kernel_rfl) (by kernel_rfl) (by kernel_rfl) (fun _ _ _ h => h) (Or.inl ⟨by kernel_rfl, ?_⟩) (by assumption) ?_
        rotate_left 1
        · intro w9 hSw
          try dsimp only at hSw
          go_simp
          try with_reducible rfl
        try simp only [Act.put, List.getElem_toArray, List.getElem_cons_succ, List.getElem_cons_zero, List.setIfInBounds_toArray, List.set_cons_zero, List.set_cons_succ]
        have hm5 := mid3 v9 (w.heap.size + 2) (.slice a1 p.c.length c1) (.slice a2 p.h.length c2) (.slice a3 p.r.length c3)
        have G_y := Lib.hid (G_z.out.mid hm5 (.inl (by omega)))
        have V_y := Lib.hid (v4_mid V_z.out hm5 (by omega))
        have AY := Lib.hid (AQ.out.mid hm5 (.inr (by omega)))
        have HB_y := Lib.hid (HB_z.out.trans (hm5.toBelow (by omega) HB_z.out.size))
        have hs5 := hm5.size
        clear hm5
        refine wpAnyH_ready (rs := [12]) (by kernel_rfl) (by simp) ?_
        refine AllReadyH.cons rfl (fun K hK => ?_) AllReadyH.nil
        obtain ⟨y0, y1, y2, yf⟩ := Z_z.out
        have yf0 := yf 0
        have yf1 := yf 1
        have yf2 := yf 2
        clear yf
        go_simp
        refine hK.out _ _ (show _ from ⟨⟨G_y.out.1, G_y.out.2.1, G_y.out.2.2⟩, V_y.out.1, V_y.out.2.1, V_y.out.2.2.1, V_y.out.2.2.2⟩) (fun hHeld => ?_)
        clear hK K
        try simp only [Act.put, List.getElem_toArray, List.getElem_cons_succ, List.getElem_cons_zero, List.setIfInBounds_toArray, List.set_cons_zero, List.set_cons_succ]
        refine wpAnyH_take (i := 13) (v := ?_) rfl (by kernel_rfl) (by kernel_rfl) (by kernel_rfl) (fun _ _ _ h => h) (Or.inl ⟨by kernel_rfl, ?_⟩) (by assumption) ?_
        rotate_left 1
        · intro w9 hSw
          try dsimp only at hSw
          go_simp
          try with_reducible rfl
        try simp only [Act.put, List.getElem_toArray, List.getElem_cons_succ, List.getElem_cons_zero, List.setIfInBounds_toArray, List.set_cons_zero, List.set_cons_succ]
        refine wpAnyH_done (by kernel_rfl) ?_ _
        go_wp2
        (try simp only [Exit.inBlock, Exit.then])
        refine bodyPost_ret (v := .tuple #[.agg #[.slice a1 p.c.length c1, .slice a2 p.h.length c2, .slice a3 p.r.length c3], .bool ok]) ?_ rfl ?_
        · rw [results_cell_tmp rfl]; go_simp
        · exact ⟨_, _, _, rfl, AY.out.wide (by omega) hs5 (Nat.le_refl _), HB_y.out⟩
  · go_simp
    have hb := ba Ws (.cells #[.int .i64 cn] 3)
    have HB_s8 := Lib.hid (bt HB_s.out hb)
    have G_s8 := Lib.hid (G_s.out.below hb)
    have V_s8 := Lib.hid (V_s.out.below hb)
    have Z_s8 := Lib.hid (Z_s.out.below hb)
    have CL_s8 := Lib.hid (one_in (one_new Ws (.int .i64 cn) 3))
    clear hb
    refine hK.out _ _ (show _ from ⟨⟨G_s8.out.1, G_s8.out.2.1, G_s8.out.2.2⟩, V_s8.out.1, V_s8.out.2.1, V_s8.out.2.2.1, V_s8.out.2.2.2⟩) (fun hHeld => ?_)
    clear hK K
    try simp only [Act.put, List.getElem_toArray, List.getElem_cons_succ, List.getElem_cons_zero, List.setIfInBounds_toArray, List.set_cons_zero, List.set_cons_succ]
    generalize hW9 : Ws.alloc (.cells #[.int .i64 cn] 3) = Ws8 at *
    clear hW9
    refine wpAnyH_ready (rs := [3, 6]) (by kernel_rfl) (by simp) ?_
    refine AllReadyH.cons rfl (fun K hK => ?_) (AllReadyH.cons rfl (fun K hK => ?_) (AllReadyH.nil))
    · go_simp
      go_at_call 66
      refine (rows_any a b c d _).mono ?_
      rintro e3 Ws83 ⟨r9, s9, rfl, hr4, hb⟩
      have HB_s83 := Lib.hid (bt HB_s8.out hb)
      have G_s83 := Lib.hid (G_s8.out.below hb)
      have V_s83 := Lib.hid (V_s8.out.below hb)
      have Z_s83 := Lib.hid (Z_s8.out.below hb)
      have CL_s83 := Lib.hid (CL_s8.out.below hb)
      have RL_s83 := Lib.hid (hr4.ins).1
      clear hb hr4
      go_wp2_with fail
      refine hK.out _ _ (show _ from ⟨⟨G_s83.out.1, G_s83.out.2.1, G_s83.out.2.2⟩, V_s83.out.1, V_s83.out.2.1, V_s83.out.2.2.1, V_s83.out.2.2.2⟩) (fun hHeld => ?_)
      clear hK K
      try simp only [Act.put, List.getElem_toArray, List.getElem_cons_succ, List.getElem_cons_zero, List.setIfInBounds_toArray, List.set_cons_zero, List.set_cons_succ]
      refine wpAnyH_take (i := 4) (v := ?_) rfl (by kernel_rfl) (by kernel_rfl) (by kernel_rfl) (fun _ _ _ h => h) (Or.inl ⟨by kernel_rfl, ?_⟩) (by assumption) ?_
      rotate_left 1
      · intro w9 hSw
        try dsimp only at hSw
        go_simp
        try with_reducible rfl
      try simp only [Act.put, List.getElem_toArray, List.getElem_cons_succ, List.getElem_cons_zero, List.setIfInBounds_toArray, List.set_cons_zero, List.set_cons_succ]
      refine wpAnyH_ready (rs := [6]) (by kernel_rfl) (by simp) ?_
      refine AllReadyH.cons rfl (fun K hK => ?_) (AllReadyH.nil)
      · go_simp
        have hb := ba Ws83 (.cells #[.int .i64 x] 3)
        have HB_s836 := Lib.hid (bt HB_s83.out hb)
        have G_s836 := Lib.hid (G_s83.out.below hb)
        have V_s836 := Lib.hid (V_s83.out.below hb)
        have Z_s836 := Lib.hid (Z_s83.out.below hb)
        have CL_s836 := Lib.hid (CL_s83.out.below hb)
        have RL_s836 := Lib.hid (RL_s83.out.below hb)
        have XL_s836 := Lib.hid (one_in (one_new Ws83 (.int .i64 x) 3))
        clear hb
        refine hK.out _ _ (show _ from ⟨⟨G_s836.out.1, G_s836.out.2.1, G_s836.out.2.2⟩, V_s836.out.1, V_s836.out.2.1, V_s836.out.2.2.1, V_s836.out.2.2.2⟩) (fun hHeld => ?_)
        clear hK K
        try simp only [Act.put, List.getElem_toArray, List.getElem_cons_succ, List.getElem_cons_zero, List.setIfInBounds_toArray, List.set_cons_zero, List.set_cons_succ]
        generalize hW9 : Ws83.alloc (.cells #[.int .i64 x] 3) = Ws836 at *
        clear hW9
        refine wpAnyH_ready (rs := [9]) (by kernel_rfl) (by simp) ?_
        refine AllReadyH.cons rfl (fun K hK => ?_) AllReadyH.nil
        go_simp
        go_at_call 49
        refine (provL_any P Q G s hs hl HRL.out hxl hcl (by have h := RL_s836.out; rw [HRS.out] at h; exact h) (by have h := XL_s836.out; rw [HXS.out] at h; exact h) (by have h := CL_s836.out; rw [HCS.out] at h; exact h)).mono ?_
        rw [HP.out, HO.out]
        rintro e9 v9 ⟨qa, qb, qc, rfl, hq, hb⟩
        obtain ⟨a1, c1, a2, c2, a3, c3, rfl, rfl, rfl⟩ := hq.shape
        have HB_z := Lib.hid (bt HB_s836.out hb)
        have G_z := Lib.hid (G_s836.out.below hb)
        have V_z := Lib.hid (V_s836.out.below hb)
        have Z_z := Lib.hid (Z_s836.out.below hb)
        have lz9 := Z_s836.out.lt
        have lb9 := HB_s836.out.size
        have AQ := Lib.hid hq
        clear hq hb
        go_wp2_with fail
        refine hK.out _ _ (show _ from ⟨⟨G_z.out.1, G_z.out.2.1, G_z.out.2.2⟩, V_z.out.1, V_z.out.2.1, V_z.out.2.2.1, V_z.out.2.2.2⟩) (fun hHeld => ?_)
        clear hK K
        try simp only [Act.put, List.getElem_toArray, List.getElem_cons_succ, List.getElem_cons_zero, List.setIfInBounds_toArray, List.set_cons_zero, List.set_cons_succ]
        refine wpAnyH_take (i := 10) (v := ?_) rfl (by kernel_rfl) (by kernel_rfl) (by kernel_rfl) (fun _ _ _ h => h) (Or.inl ⟨by kernel_rfl, ?_⟩) (by assumption) ?_
        rotate_left 1
        · intro w9 hSw
          try dsimp only at hSw
          go_simp
          try with_reducible rfl
        try simp only [Act.put, List.getElem_toArray, List.getElem_cons_succ, List.getElem_cons_zero, List.setIfInBounds_toArray, List.set_cons_zero, List.set_cons_succ]
        refine wpAnyH_take (i := 11) (v := ?_) rfl (by kernel_rfl) (by kernel_rfl) (by kernel_rfl) (fun _ _ _ h => h) (Or.inl ⟨by kernel_rfl, ?_⟩) (by assumption) ?_
        rotate_left 1
        · intro w9 hSw
          try dsimp only at hSw
          go_simp
          try with_reducible rfl
        try simp only [Act.put, List.getElem_toArray, List.getElem_cons_succ, List.getElem_cons_zero, List.setIfInBounds_toArray, List.set_cons_zero, List.set_cons_succ]
        have hm5 := mid3 v9 (w.heap.size + 2) (.slice a1 p.c.length c1) (.slice a2 p.h.length c2) (.slice a3 p.r.length c3)
        have G_y := Lib.hid (G_z.out.mid hm5 (.inl (by omega)))
        have V_y := Lib.hid (v4_mid V_z.out hm5 (by omega))
        have AY := Lib.hid (AQ.out.mid hm5 (.inr (by omega)))
        have HB_y := Lib.hid (HB_z.out.trans (hm5.toBelow (by omega) HB_z.out.size))
        have hs5 := hm5.size
        clear hm5
        refine wpAnyH_ready (rs := [12]) (by kernel_rfl) (by simp) ?_
        refine AllReadyH.cons rfl (fun K hK => ?_) AllReadyH.nil
        obtain ⟨y0, y1, y2, yf⟩ := Z_z.out
        have yf0 := yf 0
        have yf1 := yf 1
        have yf2 := yf 2
        clear yf
        go_simp
        refine hK.out _ _ (show _ from ⟨⟨G_y.out.1, G_y.out.2.1, G_y.out.2.2⟩, V_y.out.1, V_y.out.2.1, V_y.out.2.2.1, V_y.out.2.2.2⟩) (fun hHeld => ?_)
        clear hK K
        try simp only [Act.put, List.getElem_toArray, List.getElem_cons_succ, List.getElem_cons_zero, List.setIfInBounds_toArray, List.set_cons_zero, List.set_cons_succ]
        refine wpAnyH_take (i := 13) (v := ?_) rfl (by kernel_rfl) (by kernel_rfl) (by kernel_rfl) (fun _ _ _ h => h) (Or.inl ⟨by kernel_rfl, ?_⟩) (by assumption) ?_
        rotate_left 1
        · intro w9 hSw
          try dsimp only at hSw
          go_simp
          try with_reducible rfl
        try simp only [Act.put, List.getElem_toArray, List.getElem_cons_succ, List.getElem_cons_zero, List.setIfInBounds_toArray, List.set_cons_zero, List.set_cons_succ]
        refine wpAnyH_done (by kernel_rfl) ?_ _
        go_wp2
        (try simp only [Exit.inBlock, Exit.then])
        refine bodyPost_ret (v := .tuple #[.agg #[.slice a1 p.c.length c1, .slice a2 p.h.length c2, .slice a3 p.r.length c3], .bool ok]) ?_ rfl ?_
        · rw [results_cell_tmp rfl]; go_simp
        · exact ⟨_, _, _, rfl, AY.out.wide (by omega) hs5 (Nat.le_refl _), HB_y.out⟩
    · go_simp
      have hb := ba Ws8 (.cells #[.int .i64 x] 3)
      have HB_s86 := Lib.hid (bt HB_s8.out hb)
      have G_s86 := Lib.hid (G_s8.out.below hb)
      have V_s86 := Lib.hid (V_s8.out.below hb)
      have Z_s86 := Lib.hid (Z_s8.out.below hb)
      have CL_s86 := Lib.hid (CL_s8.out.below hb)
      have XL_s86 := Lib.hid (one_in (one_new Ws8 (.int .i64 x) 3))
      clear hb
      refine hK.out _ _ (show _ from ⟨⟨G_s86.out.1, G_s86.out.2.1, G_s86.out.2.2⟩, V_s86.out.1, V_s86.out.2.1, V_s86.out.2.2.1, V_s86.out.2.2.2⟩) (fun hHeld => ?_)
      clear hK K
      try simp only [Act.put, List.getElem_toArray, List.getElem_cons_succ, List.getElem_cons_zero, List.setIfInBounds_toArray, List.set_cons_zero, List.set_cons_succ]
      generalize hW9 : Ws8.alloc (.cells #[.int .i64 x] 3) = Ws86 at *
      clear hW9
      refine wpAnyH_ready (rs := [3]) (by kernel_rfl) (by simp) ?_
      refine AllReadyH.cons rfl (fun K hK => ?_) (AllReadyH.nil)
      · go_simp
        go_at_call 66
        refine (rows_any a b c d _).mono ?_
        rintro e3 Ws863 ⟨r9, s9, rfl, hr4, hb⟩
        have HB_s863 := Lib.hid (bt HB_s86.out hb)
        have G_s863 := Lib.hid (G_s86.out.below hb)
        have V_s863 := Lib.hid (V_s86.out.below hb)
        have Z_s863 := Lib.hid (Z_s86.out.below hb)
        have CL_s863 := Lib.hid (CL_s86.out.below hb)
        have XL_s863 := Lib.hid (XL_s86.out.below hb)
        have RL_s863 := Lib.hid (hr4.ins).1
        clear hb hr4
        go_wp2_with fail
        refine hK.out _ _ (show _ from ⟨⟨G_s863.out.1, G_s863.out.2.1, G_s863.out.2.2⟩, V_s863.out.1, V_s863.out.2.1, V_s863.out.2.2.1, V_s863.out.2.2.2⟩) (fun hHeld => ?_)
        clear hK K
        try simp only [Act.put, List.getElem_toArray, List.getElem_cons_succ, List.getElem_cons_zero, List.setIfInBounds_toArray, List.set_cons_zero, List.set_cons_succ]
        refine wpAnyH_take (i := 4) (v := ?_) rfl (by kernel_rfl) (by kernel_rfl) (by kernel_rfl) (fun _ _ _ h => h) (Or.inl ⟨by kernel_rfl, ?_⟩) (by assumption) ?_
        rotate_left 1
        · intro w9 hSw
          try dsimp only at hSw
          go_simp
          try with_reducible rfl
        try simp only [Act.put, List.getElem_toArray, List.getElem_cons_succ, List.getElem_cons_zero, List.setIfInBounds_toArray, List.set_cons_zero, List.set_cons_succ]
        refine wpAnyH_ready (rs := [9]) (by kernel_rfl) (by simp) ?_
        refine AllReadyH.cons rfl (fun K hK => ?_) AllReadyH.nil
        go_simp
        go_at_call 49
        refine (provL_any P Q G s hs hl HRL.out hxl hcl (by have h := RL_s863.out; rw [HRS.out] at h; exact h) (by have h := XL_s863.out; rw [HXS.out] at h; exact h) (by have h := CL_s863.out; rw [HCS.out] at h; exact h)).mono ?_
        rw [HP.out, HO.out]
        rintro e9 v9 ⟨qa, qb, qc, rfl, hq, hb⟩
        obtain ⟨a1, c1, a2, c2, a3, c3, rfl, rfl, rfl⟩ := hq.shape
        have HB_z := Lib.hid (bt HB_s863.out hb)
        have G_z := Lib.hid (G_s863.out.below hb)
        have V_z := Lib.hid (V_s863.out.below hb)
        have Z_z := Lib.hid (Z_s863.out.below hb)
        have lz9 := Z_s863.out.lt
        have lb9 := HB_s863.out.size
        have AQ := Lib.hid hq
        clear hq hb
        go_wp2_with fail
        refine hK.out _ _ (show _ from ⟨⟨G_z.out.1, G_z.out.2.1, G_z.out.2.2⟩, V_z.out.1, V_z.out.2.1, V_z.out.2.2.1, V_z.out.2.2.2⟩) (fun hHeld => ?_)
        clear hK K
        try simp only [Act.put, List.getElem_toArray, List.getElem_cons_succ, List.getElem_cons_zero, List.setIfInBounds_toArray, List.set_cons_zero, List.set_cons_succ]
        refine wpAnyH_take (i := 10) (v := ?_) rfl (by kernel_rfl) (by kernel_rfl) (by kernel_rfl) (fun _ _ _ h => h) (Or.inl ⟨by kernel_rfl, ?_⟩) (by assumption) ?_
        rotate_left 1
        · intro w9 hSw
          try dsimp only at hSw
          go_simp
          try with_reducible rfl
        try simp only [Act.put, List.getElem_toArray, List.getElem_cons_succ, List.getElem_cons_zero, List.setIfInBounds_toArray, List.set_cons_zero, List.set_cons_succ]
        refine wpAnyH_take (i := 11) (v := ?_) rfl (by kernel_rfl) (by kernel_rfl) (by kernel_rfl) (fun _ _ _ h => h) (Or.inl ⟨by kernel_rfl, ?_⟩) (by assumption) ?_
        rotate_left 1
        · intro w9 hSw
          try dsimp only at hSw
          go_simp
          try with_reducible rfl
        try simp only [Act.put, List.getElem_toArray, List.getElem_cons_succ, List.getElem_cons_zero, List.setIfInBounds_toArray, List.set_cons_zero, List.set_cons_succ]
        have hm5 := mid3 v9 (w.heap.size + 2) (.slice a1 p.c.length c1) (.slice a2 p.h.length c2) (.slice a3 p.r.length c3)
        have G_y := Lib.hid (G_z.out.mid hm5 (.inl (by omega)))
        have V_y := Lib.hid (v4_mid V_z.out hm5 (by omega))
        have AY := Lib.hid (AQ.out.mid hm5 (.inr (by omega)))
        have HB_y := Lib.hid (HB_z.out.trans (hm5.toBelow (by omega) HB_z.out.size))
        have hs5 := hm5.size
        clear hm5
        refine wpAnyH_ready (rs := [12]) (by kernel_rfl) (by simp) ?_
        refine AllReadyH.cons rfl (fun K hK => ?_) AllReadyH.nil
        obtain ⟨y0, y1, y2, yf⟩ := Z_z.out
        have yf0 := yf 0
        have yf1 := yf 1
        have yf2 := yf 2
        clear yf
        go_simp
        refine hK.out _ _ (show _ from ⟨⟨G_y.out.1, G_y.out.2.1, G_y.out.2.2⟩, V_y.out.1, V_y.out.2.1, V_y.out.2.2.1, V_y.out.2.2.2⟩) (fun hHeld => ?_)
        clear hK K
        try simp only [Act.put, List.getElem_toArray, List.getElem_cons_succ, List.getElem_cons_zero, List.setIfInBounds_toArray, List.set_cons_zero, List.set_cons_succ]
        refine wpAnyH_take (i := 13) (v := ?_) rfl (by kernel_rfl) (by kernel_rfl) (by kernel_rfl) (fun _ _ _ h => h) (Or.inl ⟨by kernel_rfl, ?_⟩) (by assumption) ?_
        rotate_left 1
        · intro w9 hSw
          try dsimp only at hSw
          go_simp
          try with_reducible rfl
        try simp only [Act.put, List.getElem_toArray, List.getElem_cons_succ, List.getElem_cons_zero, List.setIfInBounds_toArray, List.set_cons_zero, List.set_cons_succ]
        refine wpAnyH_done (by kernel_rfl) ?_ _
        go_wp2
        (try simp only [Exit.inBlock, Exit.then])
        refine bodyPost_ret (v := .tuple #[.agg #[.slice a1 p.c.length c1, .slice a2 p.h.length c2, .slice a3 p.r.length c3], .bool ok]) ?_ rfl ?_
        · rw [results_cell_tmp rfl]; go_simp
        · exact ⟨_, _, _, rfl, AY.out.wide (by omega) hs5 (Nat.le_refl _), HB_y.out⟩

theorem two_rows {w : World} {p q r : Nat} {a c : Int} (h1 : V2 w r (.slice (some ⟨p, 0, none⟩) 1 1) (.slice (some ⟨q, 0, none⟩) 1 1)) (h2 : C1 w p 0 (.int .i64 a)) (h3 : C1 w q 0 (.int .i64 c)) : InS w.heap.size w (.slice (some ⟨r, 0, none⟩) 2 2) [[a], [c]] :=
  ⟨Nat.le_refl _, _, _, rfl, (fun h => by cases h), .inr ⟨r, 0, rfl, World.block_lt_of_cell? w _ h1.1, World.block_lt_of_cell? w _ h1.1, fun i z hz => by
    match i, hz with
    | 0, hz => simp at hz; subst hz; exact ⟨_, h1.1, one_in h2⟩
    | 1, hz => simp at hz; subst hz; exact ⟨_, h1.2, one_in h3⟩
    | i + 2, hz => simp at hz⟩⟩
theorem lit5 (W : World) (a c x cn : Int) (t t2 : TypeId) :
    InS (((W.alloc (.cells #[.int .i64 a] t)).alloc (.cells #[.int .i64 c] t)).alloc (.cells #[.slice (some ⟨W.heap.size, 0, none⟩) 1 1, .slice (some ⟨W.heap.size + 1, 0, none⟩) 1 1] t2)).heap.size (((((W.alloc (.cells #[.int .i64 a] t)).alloc (.cells #[.int .i64 c] t)).alloc (.cells #[.slice (some ⟨W.heap.size, 0, none⟩) 1 1, .slice (some ⟨W.heap.size + 1, 0, none⟩) 1 1] t2)).alloc (.cells #[.int .i64 x] t)).alloc (.cells #[.int .i64 cn] t)) (.slice (some ⟨W.heap.size + 2, 0, none⟩) 2 2) [[a], [c]] ∧ InI ((((W.alloc (.cells #[.int .i64 a] t)).alloc (.cells #[.int .i64 c] t)).alloc (.cells #[.slice (some ⟨W.heap.size, 0, none⟩) 1 1, .slice (some ⟨W.heap.size + 1, 0, none⟩) 1 1] t2)).alloc (.cells #[.int .i64 x] t)).heap.size (((((W.alloc (.cells #[.int .i64 a] t)).alloc (.cells #[.int .i64 c] t)).alloc (.cells #[.slice (some ⟨W.heap.size, 0, none⟩) 1 1, .slice (some ⟨W.heap.size + 1, 0, none⟩) 1 1] t2)).alloc (.cells #[.int .i64 x] t)).alloc (.cells #[.int .i64 cn] t)) (.slice (some ⟨W.heap.size + 3, 0, none⟩) 1 1) [x] ∧ InI (((((W.alloc (.cells #[.int .i64 a] t)).alloc (.cells #[.int .i64 c] t)).alloc (.cells #[.slice (some ⟨W.heap.size, 0, none⟩) 1 1, .slice (some ⟨W.heap.size + 1, 0, none⟩) 1 1] t2)).alloc (.cells #[.int .i64 x] t)).alloc (.cells #[.int .i64 cn] t)).heap.size (((((W.alloc (.cells #[.int .i64 a] t)).alloc (.cells #[.int .i64 c] t)).alloc (.cells #[.slice (some ⟨W.heap.size, 0, none⟩) 1 1, .slice (some ⟨W.heap.size + 1, 0, none⟩) 1 1] t2)).alloc (.cells #[.int .i64 x] t)).alloc (.cells #[.int .i64 cn] t)) (.slice (some ⟨W.heap.size + 4, 0, none⟩) 1 1) [cn] ∧ Below W.heap.size W (((((W.alloc (.cells #[.int .i64 a] t)).alloc (.cells #[.int .i64 c] t)).alloc (.cells #[.slice (some ⟨W.heap.size, 0, none⟩) 1 1, .slice (some ⟨W.heap.size + 1, 0, none⟩) 1 1] t2)).alloc (.cells #[.int .i64 x] t)).alloc (.cells #[.int .i64 cn] t)) := by
  have e1 := one_new W (.int .i64 a) t
  have e2 := one_new (W.alloc (.cells #[.int .i64 a] t)) (.int .i64 c) t
  have e3 := v2_new ((W.alloc (.cells #[.int .i64 a] t)).alloc (.cells #[.int .i64 c] t)) (.slice (some ⟨W.heap.size, 0, none⟩) 1 1) (.slice (some ⟨W.heap.size + 1, 0, none⟩) 1 1) t2
  have e4 := one_new (((W.alloc (.cells #[.int .i64 a] t)).alloc (.cells #[.int .i64 c] t)).alloc (.cells #[.slice (some ⟨W.heap.size, 0, none⟩) 1 1, .slice (some ⟨W.heap.size + 1, 0, none⟩) 1 1] t2)) (.int .i64 x) t
  have e5 := one_new ((((W.alloc (.cells #[.int .i64 a] t)).alloc (.cells #[.int .i64 c] t)).alloc (.cells #[.slice (some ⟨W.heap.size, 0, none⟩) 1 1, .slice (some ⟨W.heap.size + 1, 0, none⟩) 1 1] t2)).alloc (.cells #[.int .i64 x] t)) (.int .i64 cn) t
  rw [show (W.alloc (.cells #[.int .i64 a] t)).heap.size = W.heap.size + 1 by simp] at e2
  rw [show ((W.alloc (.cells #[.int .i64 a] t)).alloc (.cells #[.int .i64 c] t)).heap.size = W.heap.size + 2 by simp] at e3
  rw [show (((W.alloc (.cells #[.int .i64 a] t)).alloc (.cells #[.int .i64 c] t)).alloc (.cells #[.slice (some ⟨W.heap.size, 0, none⟩) 1 1, .slice (some ⟨W.heap.size + 1, 0, none⟩) 1 1] t2)).heap.size = W.heap.size + 3 by simp] at e4
  rw [show ((((W.alloc (.cells #[.int .i64 a] t)).alloc (.cells #[.int .i64 c] t)).alloc (.cells #[.slice (some ⟨W.heap.size, 0, none⟩) 1 1, .slice (some ⟨W.heap.size + 1, 0, none⟩) 1 1] t2)).alloc (.cells #[.int .i64 x] t)).heap.size = W.heap.size + 4 by simp] at e5
  exact ⟨(two_rows e3 (e1.below (bt (ba _ _) (ba _ _))) (e2.below (ba _ _))).below (bt (ba _ _) (ba _ _)), (one_in e4).below (ba _ _), one_in e5, bt (bt (bt (bt (ba _ _) (ba _ _)) (ba _ _)) (ba _ _)) (ba _ _)⟩

set_option maxRecDepth 100000 in
set_option maxHeartbeats 3200000 in
theorem sProvE_any (P Q G a b c d x cn : Int) (s : ByteArray) (hs : s.size ≤ 1048576) (w : World) :
    Calls Try.prog 56 #[gv P Q G, .string s, ev4 a b c d, .int .i64 x, .int .i64 cn] w (AnsN w (peV P Q G s a b c d x cn) (peB P Q G s a b c d x cn)) := by
  have G_0 := Lib.hid (((gr_new w P Q G 32).below (ba _ (.cells #[.int .i64 a, .int .i64 b, .int .i64 c, .int .i64 d] 47))).below (ba _ (.cells #[.slice none 0 0, .slice none 0 0, .slice none 0 0] 36)))
  have hv := v4_new (w.alloc (.cells #[.int .i64 P, .int .i64 Q, .int .i64 G] 32)) a b c d 47
  rw [show (w.alloc (.cells #[.int .i64 P, .int .i64 Q, .int .i64 G] 32)).heap.size = w.heap.size + 1 by simp] at hv
  have V_0 := Lib.hid (V4.below hv (ba _ (.cells #[.slice none 0 0, .slice none 0 0, .slice none 0 0] 36)))
  have hb3 := b3_new ((w.alloc (.cells #[.int .i64 P, .int .i64 Q, .int .i64 G] 32)).alloc (.cells #[.int .i64 a, .int .i64 b, .int .i64 c, .int .i64 d] 47)) (.slice none 0 0) (.slice none 0 0) (.slice none 0 0) 36
  rw [show ((w.alloc (.cells #[.int .i64 P, .int .i64 Q, .int .i64 G] 32)).alloc (.cells #[.int .i64 a, .int .i64 b, .int .i64 c, .int .i64 d] 47)).heap.size = w.heap.size + 2 by simp] at hb3
  have Z_0 := Lib.hid hb3
  have HB_0 := Lib.hid (bt (bt (ba w (.cells #[.int .i64 P, .int .i64 Q, .int .i64 G] 32)) (ba _ (.cells #[.int .i64 a, .int .i64 b, .int .i64 c, .int .i64 d] 47))) (ba _ (.cells #[.slice none 0 0, .slice none 0 0, .slice none 0 0] 36)))
  clear hv hb3
  cases ht : teV P Q G a b c d x
  · have E1 := Lib.hid (show peB P Q G s a b c d x cn = false by simp [peB, ht])
    rw [E1.out, pe_off E1.out]
    have HT := Lib.hid ht
    clear ht
    cases htb : teB P Q G a b c d x
    · have HTB := Lib.hid htb
      clear htb
      obtain ⟨g0, g1, g2⟩ := G_0.out
      obtain ⟨e0, e1, e2, e3⟩ := V_0.out
      obtain ⟨y0, y1, y2, yf⟩ := Z_0.out
      have yf0 := yf 0
      have yf1 := yf 1
      have yf2 := yf 2
      clear yf
      go_enter Try.func56, Try.ntmps56
      go_wp2_with fail
      refine (sIsTrueEqual_any P Q G a b c d x _).mono ?_
      rw [HT.out, HTB.out]
      rintro e v1 ⟨rfl, hb⟩
      have HB_1 := Lib.hid (bt HB_0.out hb)
      have G_1 := Lib.hid (G_0.out.below hb)
      have V_1 := Lib.hid (V_0.out.below hb)
      have Z_1 := Lib.hid (Z_0.out.below hb)
      clear hb g0 g1 g2 e0 e1 e2 e3 y0 y1 y2 yf0 yf1 yf2
      obtain ⟨g0, g1, g2⟩ := G_1.out
      obtain ⟨e0, e1, e2, e3⟩ := V_1.out
      obtain ⟨y0, y1, y2, yf⟩ := Z_1.out
      have yf0 := yf 0
      have yf1 := yf 1
      have yf2 := yf 2
      clear yf
      go_wp2
      (try simp only [Exit.inBlock, Exit.then])
      refine bodyPost_ret (v := .tuple #[.agg #[.slice none 0 0, .slice none 0 0, .slice none 0 0], .bool false]) ?_ rfl ?_
      · rw [results_cell_tmp rfl]; go_simp
      · have hm5 := mid3 v1 (w.heap.size + 2) (.slice none 0 0) (.slice none 0 0) (.slice none 0 0)
        exact ⟨_, _, _, rfl, owP_nilP _ _ (Nat.le_trans HB_1.out.size hm5.size), HB_1.out.trans (hm5.toBelow (by omega) HB_1.out.size)⟩
    · have HTB := Lib.hid htb
      clear htb
      obtain ⟨g0, g1, g2⟩ := G_0.out
      obtain ⟨e0, e1, e2, e3⟩ := V_0.out
      obtain ⟨y0, y1, y2, yf⟩ := Z_0.out
      have yf0 := yf 0
      have yf1 := yf 1
      have yf2 := yf 2
      clear yf
      go_enter Try.func56, Try.ntmps56
      go_wp2_with fail
      refine (sIsTrueEqual_any P Q G a b c d x _).mono ?_
      rw [HT.out, HTB.out]
      rintro e v1 ⟨rfl, hb⟩
      have HB_1 := Lib.hid (bt HB_0.out hb)
      have G_1 := Lib.hid (G_0.out.below hb)
      have V_1 := Lib.hid (V_0.out.below hb)
      have Z_1 := Lib.hid (Z_0.out.below hb)
      clear hb g0 g1 g2 e0 e1 e2 e3 y0 y1 y2 yf0 yf1 yf2
      obtain ⟨g0, g1, g2⟩ := G_1.out
      obtain ⟨e0, e1, e2, e3⟩ := V_1.out
      obtain ⟨y0, y1, y2, yf⟩ := Z_1.out
      have yf0 := yf 0
      have yf1 := yf 1
      have yf2 := yf 2
      clear yf
      go_wp2
      (try simp only [Exit.inBlock, Exit.then])
      refine bodyPost_ret (v := .tuple #[.agg #[.slice none 0 0, .slice none 0 0, .slice none 0 0], .bool false]) ?_ rfl ?_
      · rw [results_cell_tmp rfl]; go_simp
      · have hm5 := mid3 v1 (w.heap.size + 2) (.slice none 0 0) (.slice none 0 0) (.slice none 0 0)
        exact ⟨_, _, _, rfl, owP_nilP _ _ (Nat.le_trans HB_1.out.size hm5.size), HB_1.out.trans (hm5.toBelow (by omega) HB_1.out.size)⟩
  have htb : teB P Q G a b c d x = true := by unfold teV at ht; exact ((Bool.and_eq_true _ _).mp ht).1
  have HT := Lib.hid ht
  have HTB := Lib.hid htb
  obtain ⟨hg, hel, hex, _⟩ := te_true.1 ht
  have hQ := (good_rng hg).2.1
  have HQ := Lib.hid (show 0 ≤ Q ∧ Q ≤ 2000000000 from ⟨by omega, hQ.2⟩)
  rw [(pe_pl ht).1, (pe_pl ht).2]
  clear ht htb
  by_cases h40 : 40 < s.size
  · rw [plB_size h40, pl_off (plB_size h40)]
    have hsi : (40 : Int) < (s.size : Int) := by omega
    clear h40 hel hex hg
    obtain ⟨g0, g1, g2⟩ := G_0.out
    obtain ⟨e0, e1, e2, e3⟩ := V_0.out
    obtain ⟨y0, y1, y2, yf⟩ := Z_0.out
    have yf0 := yf 0
    have yf1 := yf 1
    have yf2 := yf 2
    clear yf
    go_enter Try.func56, Try.ntmps56
    go_wp2_with fail
    refine (sIsTrueEqual_any P Q G a b c d x _).mono ?_
    rw [HT.out, HTB.out]
    rintro e v1 ⟨rfl, hb⟩
    have HB_1 := Lib.hid (bt HB_0.out hb)
    have G_1 := Lib.hid (G_0.out.below hb)
    have V_1 := Lib.hid (V_0.out.below hb)
    have Z_1 := Lib.hid (Z_0.out.below hb)
    clear hb g0 g1 g2 e0 e1 e2 e3 y0 y1 y2 yf0 yf1 yf2
    obtain ⟨g0, g1, g2⟩ := G_1.out
    obtain ⟨e0, e1, e2, e3⟩ := V_1.out
    obtain ⟨y0, y1, y2, yf⟩ := Z_1.out
    have yf0 := yf 0
    have yf1 := yf 1
    have yf2 := yf 2
    clear yf
    go_wp2
    (try simp only [Exit.inBlock, Exit.then])
    refine bodyPost_ret (v := .tuple #[.agg #[.slice none 0 0, .slice none 0 0, .slice none 0 0], .bool false]) ?_ rfl ?_
    · rw [results_cell_tmp rfl]; go_simp
    · have hm5 := mid3 v1 (w.heap.size + 2) (.slice none 0 0) (.slice none 0 0) (.slice none 0 0)
      exact ⟨_, _, _, rfl, owP_nilP _ _ (Nat.le_trans HB_1.out.size hm5.size), HB_1.out.trans (hm5.toBelow (by omega) HB_1.out.size)⟩
  have h40 : s.size ≤ 40 := by omega
  have hsi : (s.size : Int) ≤ 40 := by omega
  cases hcn : allIn [cn] 0 (Q - 1)
  · have E1 := Lib.hid (show plB P Q G s [[a], [c]] [x] [cn] = false by simp [plB, hcn])
    rw [E1.out, pl_off E1.out]
    have HCN := Lib.hid hcn
    clear hcn hel hex hg
    obtain ⟨g0, g1, g2⟩ := G_0.out
    obtain ⟨e0, e1, e2, e3⟩ := V_0.out
    obtain ⟨y0, y1, y2, yf⟩ := Z_0.out
    have yf0 := yf 0
    have yf1 := yf 1
    have yf2 := yf 2
    clear yf
    go_enter Try.func56, Try.ntmps56
    go_wp2_with fail
    refine (sIsTrueEqual_any P Q G a b c d x _).mono ?_
    rw [HT.out, HTB.out]
    rintro e v1 ⟨rfl, hb⟩
    have HB_1 := Lib.hid (bt HB_0.out hb)
    have G_1 := Lib.hid (G_0.out.below hb)
    have V_1 := Lib.hid (V_0.out.below hb)
    have Z_1 := Lib.hid (Z_0.out.below hb)
    clear hb g0 g1 g2 e0 e1 e2 e3 y0 y1 y2 yf0 yf1 yf2
    obtain ⟨g0, g1, g2⟩ := G_1.out
    obtain ⟨e0, e1, e2, e3⟩ := V_1.out
    obtain ⟨y0, y1, y2, yf⟩ := Z_1.out
    have yf0 := yf 0
    have yf1 := yf 1
    have yf2 := yf 2
    clear yf
    go_wp2_with fail
    refine (gExps_any P Q G HQ.out _ 1 1 [cn] rfl (by decide) _ (ints_lit v1 [cn] 3)).mono ?_
    rw [HCN.out]
    rintro e v2 ⟨rfl, hb0⟩
    have hb := bt (ba v1 _) hb0
    clear hb0
    have HB_2 := Lib.hid (bt HB_1.out hb)
    have G_2 := Lib.hid (G_1.out.below hb)
    have V_2 := Lib.hid (V_1.out.below hb)
    have Z_2 := Lib.hid (Z_1.out.below hb)
    clear hb g0 g1 g2 e0 e1 e2 e3 y0 y1 y2 yf0 yf1 yf2
    obtain ⟨g0, g1, g2⟩ := G_2.out
    obtain ⟨e0, e1, e2, e3⟩ := V_2.out
    obtain ⟨y0, y1, y2, yf⟩ := Z_2.out
    have yf0 := yf 0
    have yf1 := yf 1
    have yf2 := yf 2
    clear yf
    go_wp2
    (try simp only [Exit.inBlock, Exit.then])
    refine bodyPost_ret (v := .tuple #[.agg #[.slice none 0 0, .slice none 0 0, .slice none 0 0], .bool false]) ?_ rfl ?_
    · rw [results_cell_tmp rfl]; go_simp
    · have hm5 := mid3 v2 (w.heap.size + 2) (.slice none 0 0) (.slice none 0 0) (.slice none 0 0)
      exact ⟨_, _, _, rfl, owP_nilP _ _ (Nat.le_trans HB_2.out.size hm5.size), HB_2.out.trans (hm5.toBelow (by omega) HB_2.out.size)⟩
  have HCN := Lib.hid hcn
  obtain ⟨ha1, hb1, hc1, hd1⟩ : elB P Q a = true ∧ elB P Q b = true ∧ elB P Q c = true ∧ elB P Q d = true := by simpa [allEl] using hel
  have hxi : allIn [x] 0 (Q - 1) = true := (exB_one Q x).trans hex
  have hrb : rowsB P Q [[a], [c]] = true := by simp [rowsB, rowB, wid, allEl, ha1, hc1]
  have hpl : plB P Q G s [[a], [c]] [x] [cn] = true := plB_true.2 ⟨imB_true.2 ⟨hg, hrb, rfl, hxi⟩, rfl, hcn, h40⟩
  rw [hpl, pl_sp hpl]
  have HX := Lib.hid (fun (W : World) (B C D : Nat) (v u t : Value) (q1 : InS B W v [[a], [c]]) (q2 : InI C W u [x]) (q3 : InI D W t [cn]) => sProve_any (rows := [[a], [c]]) (xs := [x]) (cs := [cn]) P Q G hg s (by omega) (by simp) (by simp) (fun r hr => by simp at hr; rcases hr with rfl | rfl <;> simp [allEl, ha1, hc1]) rfl hxi hcn q1 q2 q3)
  obtain ⟨p, hp⟩ : ∃ p, spP P Q G s [[a], [c]] [x] [cn] = p := ⟨_, rfl⟩
  rw [hp] at HX ⊢
  clear hp hpl hrb hxi hcn hel hex ha1 hb1 hc1 hd1 hg
  obtain ⟨g0, g1, g2⟩ := G_0.out
  obtain ⟨e0, e1, e2, e3⟩ := V_0.out
  obtain ⟨y0, y1, y2, yf⟩ := Z_0.out
  have yf0 := yf 0
  have yf1 := yf 1
  have yf2 := yf 2
  clear yf
  go_enter Try.func56, Try.ntmps56
  go_wp2_with fail
  refine (sIsTrueEqual_any P Q G a b c d x _).mono ?_
  rw [HT.out, HTB.out]
  rintro e v1 ⟨rfl, hb⟩
  have HB_1 := Lib.hid (bt HB_0.out hb)
  have G_1 := Lib.hid (G_0.out.below hb)
  have V_1 := Lib.hid (V_0.out.below hb)
  have Z_1 := Lib.hid (Z_0.out.below hb)
  clear hb g0 g1 g2 e0 e1 e2 e3 y0 y1 y2 yf0 yf1 yf2
  obtain ⟨g0, g1, g2⟩ := G_1.out
  obtain ⟨e0, e1, e2, e3⟩ := V_1.out
  obtain ⟨y0, y1, y2, yf⟩ := Z_1.out
  have yf0 := yf 0
  have yf1 := yf 1
  have yf2 := yf 2
  clear yf
  go_wp2_with fail
  refine (gExps_any P Q G HQ.out _ 1 1 [cn] rfl (by decide) _ (ints_lit v1 [cn] 3)).mono ?_
  rw [HCN.out]
  rintro e v2 ⟨rfl, hb0⟩
  have hb := bt (ba v1 _) hb0
  clear hb0
  have HB_2 := Lib.hid (bt HB_1.out hb)
  have G_2 := Lib.hid (G_1.out.below hb)
  have V_2 := Lib.hid (V_1.out.below hb)
  have Z_2 := Lib.hid (Z_1.out.below hb)
  clear hb g0 g1 g2 e0 e1 e2 e3 y0 y1 y2 yf0 yf1 yf2
  obtain ⟨g0, g1, g2⟩ := G_2.out
  obtain ⟨e0, e1, e2, e3⟩ := V_2.out
  obtain ⟨y0, y1, y2, yf⟩ := Z_2.out
  have yf0 := yf 0
  have yf1 := yf 1
  have yf2 := yf 2
  clear yf
  obtain ⟨l1, l2, l3, l4⟩ := lit5 v2 a c x cn 3 25
  have HL1 := Lib.hid l1
  have HL2 := Lib.hid l2
  have HL3 := Lib.hid l3
  have Z5 := Lib.hid (Z_2.out.below l4)
  have HB5 := Lib.hid (bt HB_2.out l4)
  clear l1 l2 l3 l4
  obtain ⟨_, _, f2, _⟩ := V_2.out.below (ba v2 (.cells #[.int .i64 a] 3))
  go_wp2_with fail
  refine (HX.out _ _ _ _ _ _ _ HL1.out HL2.out HL3.out).mono ?_
  rintro e' v9 ⟨qv, rfl, hq, hb9⟩
  have hin := hq.toIn
  obtain ⟨a1, c1, a2, c2, a3, c3, rfl, _, _, _⟩ := hin.parts
  have HB_9 := Lib.hid (bt HB5.out hb9)
  have Z_9 := Lib.hid (Z5.out.below hb9)
  have lz9 := Z5.out.lt
  have lb9 := HB5.out.size
  have IN := Lib.hid hq
  clear hq hin hb9 f2 g0 g1 g2 e0 e1 e2 e3 y0 y1 y2 yf0 yf1 yf2
  obtain ⟨y0, y1, y2, yf⟩ := Z_9.out
  have yf0 := yf 0
  have yf1 := yf 1
  have yf2 := yf 2
  clear yf
  go_wp2
  (try simp only [Exit.inBlock, Exit.then])
  refine bodyPost_ret (v := .tuple #[pv3 a1 p.c.length c1 a2 p.h.length c2 a3 p.r.length c3, .bool true]) ?_ rfl ?_
  · rw [results_cell_tmp rfl]; go_simp
  · have hm5 := mid3 v9 (w.heap.size + 2) (.slice a1 p.c.length c1) (.slice a2 p.h.length c2) (.slice a3 p.r.length c3)
    have hq := IN.out.mid hm5 (.inr (by omega))
    exact ⟨_, _, _, rfl, OwP.wide hq (by omega) hm5.size, HB_9.out.trans (hm5.toBelow (by omega) HB_9.out.size)⟩

end Go.Proofs.Ytinmpookknpmlaa

