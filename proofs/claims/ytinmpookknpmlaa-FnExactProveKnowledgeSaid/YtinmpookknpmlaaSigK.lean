/- Sigma proofs: ProveKnowledge and ProveEqual of both. -/
import Derived.Test.YtinmpookknpmlaaSigM
namespace Go.Proofs.Ytinmpookknpmlaa
open Go.RowKit
set_option linter.unusedVariables false
set_option linter.unusedSimpArgs false

theorem know4_lit (W : World) (a x c : Int) (t1 t2 t3 t4 : TypeId) :
    InS (((W.alloc (.cells #[.int .i64 a] t1)).alloc (.cells #[.slice (some ⟨W.heap.size, 0, none⟩) 1 1] t2)).alloc (.cells #[.int .i64 x] t3)).heap.size ((((W.alloc (.cells #[.int .i64 a] t1)).alloc (.cells #[.slice (some ⟨W.heap.size, 0, none⟩) 1 1] t2)).alloc (.cells #[.int .i64 x] t3)).alloc (.cells #[.int .i64 c] t4)) (.slice (some ⟨W.heap.size + 1, 0, none⟩) 1 1) [[a]] ∧ InI (((W.alloc (.cells #[.int .i64 a] t1)).alloc (.cells #[.slice (some ⟨W.heap.size, 0, none⟩) 1 1] t2)).alloc (.cells #[.int .i64 x] t3)).heap.size ((((W.alloc (.cells #[.int .i64 a] t1)).alloc (.cells #[.slice (some ⟨W.heap.size, 0, none⟩) 1 1] t2)).alloc (.cells #[.int .i64 x] t3)).alloc (.cells #[.int .i64 c] t4)) (.slice (some ⟨W.heap.size + 2, 0, none⟩) 1 1) [x] ∧ InI ((((W.alloc (.cells #[.int .i64 a] t1)).alloc (.cells #[.slice (some ⟨W.heap.size, 0, none⟩) 1 1] t2)).alloc (.cells #[.int .i64 x] t3)).alloc (.cells #[.int .i64 c] t4)).heap.size ((((W.alloc (.cells #[.int .i64 a] t1)).alloc (.cells #[.slice (some ⟨W.heap.size, 0, none⟩) 1 1] t2)).alloc (.cells #[.int .i64 x] t3)).alloc (.cells #[.int .i64 c] t4)) (.slice (some ⟨W.heap.size + 3, 0, none⟩) 1 1) [c] := by
  have hk := know_lit W a x t1 t2 t3
  have e4 := one_new (((W.alloc (.cells #[.int .i64 a] t1)).alloc (.cells #[.slice (some ⟨W.heap.size, 0, none⟩) 1 1] t2)).alloc (.cells #[.int .i64 x] t3)) (.int .i64 c) t4
  rw [show (((W.alloc (.cells #[.int .i64 a] t1)).alloc (.cells #[.slice (some ⟨W.heap.size, 0, none⟩) 1 1] t2)).alloc (.cells #[.int .i64 x] t3)).heap.size = W.heap.size + 3 by simp] at e4
  exact ⟨hk.1.below (ba _ _), hk.2.below (ba _ _), one_in e4⟩

set_option maxRecDepth 100000 in
set_option maxHeartbeats 3200000 in
theorem provK_any (P Q G a x c : Int) (s : ByteArray) (hs : s.size ≤ 1048576) (w : World) :
    Calls Try.prog 55 #[gv P Q G, .string s, .int .i64 a, .int .i64 x, .int .i64 c] w (AnsQ w.heap.size w (plV P Q G s [[a]] [x] [c]) (plB P Q G s [[a]] [x] [c])) := by
  have G_0 := Lib.hid ((gr_new w P Q G 32).below (ba _ (.cells #[.slice none 0 0, .slice none 0 0, .slice none 0 0] 36)))
  have hb3 := b3_new (w.alloc (.cells #[.int .i64 P, .int .i64 Q, .int .i64 G] 32)) (.slice none 0 0) (.slice none 0 0) (.slice none 0 0) 36
  rw [show (w.alloc (.cells #[.int .i64 P, .int .i64 Q, .int .i64 G] 32)).heap.size = w.heap.size + 1 by simp] at hb3
  have Z_0 := Lib.hid hb3
  have HB_0 := Lib.hid (bt (ba w (.cells #[.int .i64 P, .int .i64 Q, .int .i64 G] 32)) (ba _ (.cells #[.slice none 0 0, .slice none 0 0, .slice none 0 0] 36)))
  clear hb3
  generalize hrs : ([[a]] : List (List Int)) = rs
  generalize hxs : ([x] : List Int) = xs
  generalize hcs : ([c] : List Int) = cs
  have HRS := Lib.hid hrs
  have HXS := Lib.hid hxs
  have HCS := Lib.hid hcs
  clear hrs hxs hcs
  obtain ⟨p, hp⟩ : ∃ p, plV P Q G s rs xs cs = p := ⟨_, rfl⟩
  obtain ⟨ok, hk0⟩ : ∃ k, plB P Q G s rs xs cs = k := ⟨_, rfl⟩
  have HP := Lib.hid hp
  have HO := Lib.hid hk0
  rw [hp, hk0]
  clear hp hk0
  have hl : rs.length ≤ 1048576 := by rw [← HRS.out]; simp
  have hxl : xs.length ≤ 1048576 := by rw [← HXS.out]; simp
  have hcl : cs.length ≤ 1048576 := by rw [← HCS.out]; simp
  have HRL := Lib.hid (show ∀ z ∈ rs, z.length ≤ 17592186044416 from by rw [← HRS.out]; intro z hz; rw [List.mem_singleton.1 hz]; simp)
  go_enter Try.func55, Try.ntmps55
  generalize hW : (w.alloc (.cells #[.int .i64 P, .int .i64 Q, .int .i64 G] 32)).alloc (.cells #[.slice none 0 0, .slice none 0 0, .slice none 0 0] 36) = W at *
  have HB4 := Lib.hid (bt HB_0.out (bt (bt (bt (ba W (.cells #[.int .i64 a] 3)) (ba _ (.cells #[.slice (some ⟨W.heap.size, 0, none⟩) 1 1] 25))) (ba _ (.cells #[.int .i64 x] 3))) (ba _ (.cells #[.int .i64 c] 3))))
  have Z4 := Lib.hid (Z_0.out.below (bt (bt (bt (ba W (.cells #[.int .i64 a] 3)) (ba _ (.cells #[.slice (some ⟨W.heap.size, 0, none⟩) 1 1] 25))) (ba _ (.cells #[.int .i64 x] 3))) (ba _ (.cells #[.int .i64 c] 3))))
  have hk := know4_lit W a x c 3 25 3 3
  rw [HRS.out, HXS.out, HCS.out] at hk
  have HKL := Lib.hid hk
  clear hk
  obtain ⟨g0, g1, g2⟩ := G_0.out
  obtain ⟨y0, y1, y2, _⟩ := Z4.out
  go_wp2_with fail
  refine (provL_any P Q G s hs hl HRL.out hxl hcl HKL.out.1 HKL.out.2.1 HKL.out.2.2).mono ?_
  rw [HP.out, HO.out]
  rintro e v9 ⟨qa, qb, qc, rfl, hq, hb⟩
  obtain ⟨a1, c1, a2, c2, a3, c3, hsh, _⟩ := hq.toIn.parts
  simp only [Value.agg.injEq, Array.mk.injEq, List.cons.injEq, and_true] at hsh
  obtain ⟨rfl, rfl, rfl⟩ := hsh
  have HB_9 := Lib.hid (bt HB4.out hb)
  have hz9 := Z4.out.below hb
  have lz9 := Z4.out.lt
  have lb4 := HB4.out.size
  have AQ := Lib.hid hq
  have Z_9 := Lib.hid hz9
  clear hq hb hz9 y0 y1 y2 g0 g1 g2
  obtain ⟨y0, y1, y2, yf⟩ := Z_9.out
  have yf0 := yf 0
  have yf1 := yf 1
  have yf2 := yf 2
  clear yf
  go_wp2
  (try simp only [Exit.inBlock, Exit.then])
  refine bodyPost_ret (v := .tuple #[.agg #[.slice a1 p.c.length c1, .slice a2 p.h.length c2, .slice a3 p.r.length c3], .bool ok]) ?_ rfl ?_
  · rw [results_cell_tmp rfl]; go_simp
  · have hm5 := mid3 v9 (w.heap.size + 1) (.slice a1 p.c.length c1) (.slice a2 p.h.length c2) (.slice a3 p.r.length c3)
    have h1 := OwQ.mid AQ.out hm5 (.inr (by omega))
    exact ⟨_, _, _, rfl, OwQ.wide h1 (by omega) hm5.size, HB_9.out.trans (hm5.toBelow (by omega) HB_9.out.size)⟩

set_option maxRecDepth 100000 in
set_option maxHeartbeats 3200000 in
theorem sProvK_any (P Q G a x c : Int) (s : ByteArray) (hs : s.size ≤ 1048576) (w : World) :
    Calls Try.prog 54 #[gv P Q G, .string s, .int .i64 a, .int .i64 x, .int .i64 c] w (AnsN w (plV P Q G s [[a]] [x] [c]) (plB P Q G s [[a]] [x] [c])) := by
  have G_0 := Lib.hid ((gr_new w P Q G 32).below (ba _ (.cells #[.slice none 0 0, .slice none 0 0, .slice none 0 0] 36)))
  have hb3 := b3_new (w.alloc (.cells #[.int .i64 P, .int .i64 Q, .int .i64 G] 32)) (.slice none 0 0) (.slice none 0 0) (.slice none 0 0) 36
  rw [show (w.alloc (.cells #[.int .i64 P, .int .i64 Q, .int .i64 G] 32)).heap.size = w.heap.size + 1 by simp] at hb3
  have Z_0 := Lib.hid hb3
  have HB_0 := Lib.hid (bt (ba w (.cells #[.int .i64 P, .int .i64 Q, .int .i64 G] 32)) (ba _ (.cells #[.slice none 0 0, .slice none 0 0, .slice none 0 0] 36)))
  clear hb3
  generalize hrs : ([[a]] : List (List Int)) = rs
  generalize hxs : ([x] : List Int) = xs
  generalize hcs : ([c] : List Int) = cs
  have HRS := Lib.hid hrs
  have HXS := Lib.hid hxs
  have HCS := Lib.hid hcs
  clear hrs hxs hcs
  obtain ⟨p, hp⟩ : ∃ p, plV P Q G s rs xs cs = p := ⟨_, rfl⟩
  obtain ⟨ok, hk0⟩ : ∃ k, plB P Q G s rs xs cs = k := ⟨_, rfl⟩
  have HP := Lib.hid hp
  have HO := Lib.hid hk0
  rw [hp, hk0]
  clear hp hk0
  have hl : rs.length ≤ 1048576 := by rw [← HRS.out]; simp
  have hxl : xs.length ≤ 1048576 := by rw [← HXS.out]; simp
  have hcl : cs.length ≤ 1048576 := by rw [← HCS.out]; simp
  have HRL := Lib.hid (show ∀ z ∈ rs, z.length ≤ 17592186044416 from by rw [← HRS.out]; intro z hz; rw [List.mem_singleton.1 hz]; simp)
  go_enter Try.func54, Try.ntmps54
  generalize hW : (w.alloc (.cells #[.int .i64 P, .int .i64 Q, .int .i64 G] 32)).alloc (.cells #[.slice none 0 0, .slice none 0 0, .slice none 0 0] 36) = W at *
  have HB4 := Lib.hid (bt HB_0.out (bt (bt (bt (ba W (.cells #[.int .i64 a] 3)) (ba _ (.cells #[.slice (some ⟨W.heap.size, 0, none⟩) 1 1] 25))) (ba _ (.cells #[.int .i64 x] 3))) (ba _ (.cells #[.int .i64 c] 3))))
  have Z4 := Lib.hid (Z_0.out.below (bt (bt (bt (ba W (.cells #[.int .i64 a] 3)) (ba _ (.cells #[.slice (some ⟨W.heap.size, 0, none⟩) 1 1] 25))) (ba _ (.cells #[.int .i64 x] 3))) (ba _ (.cells #[.int .i64 c] 3))))
  have hk := know4_lit W a x c 3 25 3 3
  rw [HRS.out, HXS.out, HCS.out] at hk
  have HKL := Lib.hid hk
  clear hk
  obtain ⟨g0, g1, g2⟩ := G_0.out
  obtain ⟨y0, y1, y2, _⟩ := Z4.out
  go_wp2_with fail
  refine (sProvL_any P Q G s hs hl HRL.out hxl hcl HKL.out.1 HKL.out.2.1 HKL.out.2.2).mono ?_
  rw [HP.out, HO.out]
  rintro e v9 ⟨qa, qb, qc, rfl, hq, hb⟩
  obtain ⟨a1, c1, a2, c2, a3, c3, hsh, _⟩ := hq.toIn.parts
  simp only [Value.agg.injEq, Array.mk.injEq, List.cons.injEq, and_true] at hsh
  obtain ⟨rfl, rfl, rfl⟩ := hsh
  have HB_9 := Lib.hid (bt HB4.out hb)
  have hz9 := Z4.out.below hb
  have lz9 := Z4.out.lt
  have lb4 := HB4.out.size
  have AQ := Lib.hid hq
  have Z_9 := Lib.hid hz9
  clear hq hb hz9 y0 y1 y2 g0 g1 g2
  obtain ⟨y0, y1, y2, yf⟩ := Z_9.out
  have yf0 := yf 0
  have yf1 := yf 1
  have yf2 := yf 2
  clear yf
  go_wp2
  (try simp only [Exit.inBlock, Exit.then])
  refine bodyPost_ret (v := .tuple #[.agg #[.slice a1 p.c.length c1, .slice a2 p.h.length c2, .slice a3 p.r.length c3], .bool ok]) ?_ rfl ?_
  · rw [results_cell_tmp rfl]; go_simp
  · have hm5 := mid3 v9 (w.heap.size + 1) (.slice a1 p.c.length c1) (.slice a2 p.h.length c2) (.slice a3 p.r.length c3)
    have h1 := OwP.mid AQ.out hm5 (.inr (by omega))
    exact ⟨_, _, _, rfl, OwP.wide h1 (by omega) hm5.size, HB_9.out.trans (hm5.toBelow (by omega) HB_9.out.size)⟩

end Go.Proofs.Ytinmpookknpmlaa

