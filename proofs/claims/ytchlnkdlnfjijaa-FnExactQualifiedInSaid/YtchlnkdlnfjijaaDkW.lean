/- Chapter 12, the reference: qualified dealers, QualifiedIn. -/
import Derived.Test.YtchlnkdlnfjijaaDkV
namespace Go.Proofs.Ytchlnkdlnfjijaa
open Go.RowKit
set_option linter.unusedVariables false
set_option linter.unusedSimpArgs false

/-- Two rows as they grow. -/
def StQ (v0 : World) (V S : Value) (m : Nat) (q : List Int) (vs : List Value) (qd : List DlD) (w : World) : Prop :=
  w.ownsRow v0.heap.size 3 1 V m (q.map (Value.int .i64)) ∧ w.ownsRow v0.heap.size 42 2 S m vs ∧ ElX (Xr V S) w vs qd ∧ Below v0.heap.size v0 w
theorem StQ.below {v0 w w' : World} {V S : Value} {m : Nat} {q : List Int} {vs : List Value} {qd : List DlD} (h : StQ v0 V S m q vs qd w) (hb : Below w.heap.size w w') : StQ v0 V S m q vs qd w' :=
  ⟨own_below h.1 hb, own_below h.2.1 hb, h.2.2.1.below hb, bt h.2.2.2 hb⟩
/-- What a mended dealing is, if it is one. -/
def MdO (ok : Bool) (Q P : Nat) (v : Value) (d : DlD) (w : World) : Prop := ok = true → OwD Q P w v d
theorem MdO.below {ok : Bool} {Q P : Nat} {v : Value} {d : DlD} {w w' : World} (h : MdO ok Q P v d w) (hb : Below w.heap.size w w') : MdO ok Q P v d w' := fun h1 => (h h1).below hb
theorem MdO.mid {ok : Bool} {Q P A B : Nat} {v : Value} {d : DlD} {w w' : World} (h : MdO ok Q P v d w) (hm : Mid A B w w') (ho : P ≤ A ∨ B ≤ Q) : MdO ok Q P v d w' := fun h1 => (h h1).mid hm ho
def Cv (w : World) (a : Addr) (v : Value) : Prop := w.cell? a = some v
theorem Cv.below {w w' : World} {a : Addr} {v : Value} (h : Cv w a v) (hb : Below w.heap.size w w') : Cv w' a v := (hb.cell (World.block_lt_of_cell? w _ h)).trans h
theorem Cv.mid {w w' : World} {a : Addr} {v : Value} {A B : Nat} (h : Cv w a v) (hm : Mid A B w w') (ho : a.block < A) : Cv w' a v := (World.cell?_of_block (hm.block a.block (World.block_lt_of_cell? w _ h) (.inl ho))).trans h
theorem InX.mid {X : Nat → Prop} {w w' : World} {A B : Nat} {v : Value} {zs : List Int} (h : InX X w v zs) (hm : Mid A B w w') (hX : ∀ b, A ≤ b → b < B → b < w.heap.size → X b) : InX X w' v zs := by
  obtain ⟨ad, cap, rfl, h1, h2, h3⟩ := h
  refine ⟨ad, cap, rfl, h1, h2, ?_⟩
  rcases h3 with h3 | ⟨b, off, h4, h5, h6, h7⟩
  · exact .inl h3
  · have hab : b < A ∨ B ≤ b := by
      rcases Nat.lt_or_ge b A with h | h
      · exact .inl h
      · rcases Nat.lt_or_ge b B with h' | h'
        · exact absurd (hX b h h' h6) h5
        · exact .inr h'
    refine .inr ⟨b, off, h4, h5, Nat.lt_of_lt_of_le h6 hm.size, fun i hi => ?_⟩
    rw [World.cell?_of_block (a := ⟨b, off + i, none⟩) (hm.block b h6 hab)]; exact h7 i hi
def RowK (B : Nat) (e : TypeId) (sz : Nat) (v : Value) (n : Nat) (xs : List Value) (w : World) : Prop := w.ownsRow B e sz v n xs
theorem RowK.below {B sz n : Nat} {e : TypeId} {v : Value} {xs : List Value} {w w' : World} (h : RowK B e sz v n xs w) (hb : Below w.heap.size w w') : RowK B e sz v n xs w' := own_below h hb
theorem RowK.mid {B sz n A C : Nat} {e : TypeId} {v : Value} {xs : List Value} {w w' : World} (h : RowK B e sz v n xs w) (hm : Mid A C w w') (ho : ∀ g, v.ownBlock = some g → g < A) : RowK B e sz v n xs w' :=
  own_block (show w.ownsRow B e sz v n xs from h) (fun g hg => hm.block g (World.ownsRow.lt h g hg).2 (.inl (ho g hg)))
theorem InX.sub {X Y : Nat → Prop} {w : World} {v : Value} {zs : List Int} (h : InX X w v zs) (hs : ∀ b, Y b → X b) : InX Y w v zs := by
  obtain ⟨ad, cap, rfl, h1, h2, h3⟩ := h
  exact ⟨ad, cap, rfl, h1, h2, h3.imp id (fun ⟨b, off, h4, h5, h6⟩ => ⟨b, off, h4, fun hy => h5 (hs b hy), h6⟩)⟩
theorem InX.bound {X : Nat → Prop} {w : World} {v : Value} {zs : List Int} (h : InX X w v zs) : InX (fun b => X b ∨ w.heap.size ≤ b) w v zs := by
  obtain ⟨ad, cap, rfl, h1, h2, h3⟩ := h
  exact ⟨ad, cap, rfl, h1, h2, h3.imp id (fun ⟨b, off, h4, h5, h6, h7⟩ => ⟨b, off, h4, fun hy => hy.elim h5 (fun h => by omega), h6, h7⟩)⟩
theorem ElX.sub {X Y : Nat → Prop} {w : World} {vs : List Value} {ds : List DlD} (h : ElX X w vs ds) (hs : ∀ b, Y b → X b) : ElX Y w vs ds := fun i d hd => by
  obtain ⟨x, y, h1, h2, h3, h4⟩ := h i d hd
  exact ⟨x, y, h1, h2, h3.sub hs, h4.sub hs⟩
theorem ElX.bound {X : Nat → Prop} {w : World} {vs : List Value} {ds : List DlD} (h : ElX X w vs ds) : ElX (fun b => X b ∨ w.heap.size ≤ b) w vs ds := fun i d hd => by
  obtain ⟨x, y, h1, h2, h3, h4⟩ := h i d hd
  exact ⟨x, y, h1, h2, h3.bound, h4.bound⟩
theorem ElX.mid {X : Nat → Prop} {w w' : World} {A B : Nat} {vs : List Value} {ds : List DlD} (h : ElX X w vs ds) (hm : Mid A B w w') (hX : ∀ b, A ≤ b → b < B → b < w.heap.size → X b) : ElX X w' vs ds := fun i d hd => by
  obtain ⟨x, y, h1, h2, h3, h4⟩ := h i d hd
  exact ⟨x, y, h1, h2, h3.mid hm hX, h4.mid hm hX⟩

set_option maxRecDepth 100000 in
set_option maxHeartbeats 6400000 in
theorem kgQualified_any (P Q G : Int) {B : Nat} {v : Value} {ds : List DlD} (hl : ds.length ≤ 1048576) (hr : nDs ds ≤ 1048576) {B2 : Nat} {u : Value} {av : List (List Int)} (hl2 : av.length ≤ 1048576) (hr2 : nS av ≤ 1048576) {w : World} (hz : InDs B w v ds) (hu : InS B2 w u av) (hk : kaB P Q G ds av = true) :
    Calls Try.prog 103 #[gv P Q G, v, u] w (AnsT w (quL P Q G ds av ds.length) (qdL P Q G ds av ds.length)) := by
  obtain ⟨la, lc, rfl⟩ := hz.shape
  obtain ⟨ua, uc, rfl⟩ := hu.shape
  have hmf : ∀ (fn : Fn) (first cap : Array Value) (w : World), (Instr.makeFunc fn first cap).run Try.prog w = .ok (.func fn first cap) w := fun _ _ _ _ => rfl
  have G_0 := Lib.hid (gr_atS w w.heap.size rfl P Q G 24)
  have HB_0 := Lib.hid (show Below w.heap.size w (w.alloc (.cells #[.int .i64 P, .int .i64 Q, .int .i64 G] 24)) from ba _ _)
  have L_0 := Lib.hid (hz.below HB_0.out)
  have U_0 := Lib.hid (hu.below HB_0.out)
  clear hz hu
  obtain ⟨hki, hal0, has0⟩ := ka_facts hk
  obtain ⟨htr, ⟨hd1, hd7⟩, hdd⟩ := ki_facts hki
  have HGD := Lib.hid (trB_of htr).1
  have HDD := Lib.hid hdd
  have HAL := Lib.hid hal0
  have HAS := Lib.hid has0
  clear hki hal0 has0 htr hdd hk
  obtain ⟨i0, hi0, hy0, hy1, hy2⟩ := info_parts Try.info3
  obtain ⟨i1, hj0, hw0, hw1, hw2⟩ := info_parts Try.infoDD
  have hBL := L_0.out.le
  have hBU := U_0.out.le
  have HLG := Lib.hid (show w.heap.size + 1 ≤ (w.alloc (.cells #[.int .i64 P, .int .i64 Q, .int .i64 G] 24)).heap.size by simp)
  obtain ⟨v0, hv0⟩ : ∃ W, w.alloc (.cells #[.int .i64 P, .int .i64 Q, .int .i64 G] 24) = W := ⟨_, rfl⟩
  rw [hv0] at G_0 HB_0 L_0 U_0 hBL hBU HLG
  go_enter Try.func103, Try.ntmps103
  go_wp2
  clear hv0
  go_loopw [8, 9, 10, 11, 12, 13, 16] (fun V S _ _ _ _ K wr => ∃ (k m : Nat) (va : Option Addr) (vc : Nat) (vb : Option Addr) (vd : Nat) (vs : List Value), k ≤ ds.length ∧ (quL P Q G ds av k).length = m ∧ V = .slice va m vc ∧ S = .slice vb m vd ∧ K = .int .i64 k ∧ StQ v0 (.slice va m vc) (.slice vb m vd) m (quL P Q G ds av k) vs (qdL P Q G ds av k) wr) (fun _ _ _ _ _ _ K _ => ds.length - (intOf K).toNat)
  case atStart => exact ⟨0, 0, none, 0, none, 0, [], Nat.zero_le _, rfl, rfl, rfl, rfl, World.ownsRow_nil _ _ _ _, World.ownsRow_nil _ _ _ _, (fun i d hd => by simp [qdL] at hd), Below.refl _ _⟩
  case round =>
    obtain ⟨k, m, va, vc, vb, vd, vs, hk, hm, rfl, rfl, rfl, hst⟩ := hrel
    have HM := Lib.hid hm
    have hmk : m ≤ k := by rw [← hm]; exact (quL_length P Q G ds av k).2
    clear hm
    by_cases hkn : k < ds.length
    · generalize wr = wq at *
      obtain ⟨b, off, x, y, d, rfl, hb, hx, hy, hi, hj, hd⟩ := L_0.out.at (k := k) hkn
      obtain ⟨p1, p2, rfl⟩ := hi.shape
      obtain ⟨r1, r2, rfl⟩ := hj.shape
      have hku : k < av.length := by have := HAL.out; omega
      obtain ⟨bu, ou, o1, o2, own, rfl, hbu, hox, hoi, hod⟩ := U_0.out.at (k := k) hku
      have hbel := hst.2.2.2
      have hx9 := (hbel.cell (p := ⟨b, off + k * 2, none⟩) hb).trans hx
      have hy9 := (hbel.cell (p := ⟨b, off + k * 2 + 1, none⟩) hb).trans hy
      have hdm : d ∈ ds := List.mem_of_mem_drop (i := k) (by rw [hd]; simp)
      have hiv := (HDD.out d hdm).1
      obtain ⟨ho7, hor⟩ := HAS.out own (List.mem_of_mem_drop (i := k) (by rw [hod]; simp))
      have HD := Lib.hid (show ds.getD k nilD = d from getD_drop hd)
      have HO9 := Lib.hid (show av.getD k [] = own from getD_drop hod)
      have HIV := Lib.hid hiv
      have HOR := Lib.hid hor
      have ha0 := ba wq (.cells #[.slice p1 d.c.length p2, .slice r1 d.s.length r2] 42)
      have hB0 := bt hbel ha0
      have HXV := Lib.hid (show ∀ b, Xr (.slice va m vc) (.slice vb m vd) b → v0.heap.size ≤ b ∧ b < wq.heap.size from fun b hb => hb.elim (fun h => hst.1.lt b h) (fun h => hst.2.1.lt b h))
      have G_0x := Lib.hid (G_0.out.below hB0)
      have D_0x := Lib.hid (v2_at wq wq.heap.size rfl (.slice p1 d.c.length p2) (.slice r1 d.s.length r2) 42)
      have UC_0x := Lib.hid (show Cv _ ⟨bu, ou + k, none⟩ (.slice o1 own.length o2) from (hB0.cell (p := ⟨bu, ou + k, none⟩) hbu).trans hox)
      have RV_0x := Lib.hid (show RowK _ _ _ _ _ _ _ from own_below hst.1 ha0)
      have RS_0x := Lib.hid (show RowK _ _ _ _ _ _ _ from own_below hst.2.1 ha0)
      have EE_0x := Lib.hid (hst.2.2.1.bound.below ha0)
      have BV_0x := Lib.hid (show BZw v0 _ from hB0)
      have HB_0x := Lib.hid hB0
      have ID_0x := Lib.hid (show InD _ _ (.agg #[.slice p1 d.c.length p2, .slice r1 d.s.length r2]) d from ⟨_, _, rfl, hi.below hB0, hj.below hB0⟩)
      have IO_0x := Lib.hid (hoi.below hB0)
      have BB_0x := Lib.hid (show BZw (wq.alloc (.cells #[.slice p1 d.c.length p2, .slice r1 d.s.length r2] 42)) (wq.alloc (.cells #[.slice p1 d.c.length p2, .slice r1 d.s.length r2] 42)) from Below.refl _ _)
      have hvq := hbel.size
      have LUQ := Lib.hid (show bu < wq.heap.size from Nat.lt_of_lt_of_le hbu hvq)
      have HLQ := Lib.hid hvq
      have lGq := HLG.out
      clear hiv hor ha0 hi hj hd hod hst hbel hoi hox hx hy hdm hB0
      go_upto_region 6 with fail
      clear hx9 hy9
      obtain ⟨wx, hwx⟩ : ∃ W, wq.alloc (.cells #[.slice p1 d.c.length p2, .slice r1 d.s.length r2] 42) = W := ⟨_, rfl⟩
      rw [hwx] at G_0x D_0x UC_0x RV_0x RS_0x EE_0x BV_0x HB_0x ID_0x IO_0x BB_0x ⊢
      have HWX := Lib.hid (show wx.heap.size = wq.heap.size + 1 by rw [← hwx]; simp)
      clear hwx
      go_cut [12, 13] (fun s12 s13 wz => ∃ (bx : Nat) (m1 : Option Addr) (n1 c1 : Nat) (m2 : Option Addr) (n2 c2 QQ PP : Nat), s12 = .pointer (some ⟨bx, 0, none⟩) ∧ s13 = .bool (mdB P Q G d own) ∧ VD2 wz bx (.slice m1 n1 c1) (.slice m2 n2 c2) ∧ MdO (mdB P Q G d own) QQ PP (.agg #[.slice m1 n1 c1, .slice m2 n2 c2]) (mdV P Q G d own) wz ∧ wq.heap.size ≤ QQ ∧ wq.heap.size ≤ bx ∧ RowK v0.heap.size 3 1 (.slice va m vc) m ((quL P Q G ds av k).map (Value.int .i64)) wz ∧ RowK v0.heap.size 42 2 (.slice vb m vd) m vs wz ∧ ElX (fun b => Xr (.slice va m vc) (.slice vb m vd) b ∨ wq.heap.size ≤ b) wz vs (qdL P Q G ds av k) ∧ BZw v0 wz)
      case first =>
        have hbd : Below wx.heap.size wx wx.drew := (Below.refl _ wx).drew
        have HB_s := Lib.hid (bt HB_0x.out hbd)
        have G_s := Lib.hid (G_0x.out.below hbd)
        have D_s := Lib.hid (D_0x.out.below hbd)
        have UC_s := Lib.hid (UC_0x.out.below hbd)
        have RV_s := Lib.hid (RV_0x.out.below hbd)
        have RS_s := Lib.hid (RS_0x.out.below hbd)
        have EE_s := Lib.hid (EE_0x.out.below hbd)
        have BV_s := Lib.hid (BV_0x.out.below hbd)
        have ID_s := Lib.hid (ID_0x.out.below hbd)
        have IO_s := Lib.hid (IO_0x.out.below hbd)
        have BB_s := Lib.hid (BB_0x.out.below hbd)
        clear hbd
        refine wp_region_held_drew (S := (fun w' => (w'.cell? ⟨w.heap.size, 0, none⟩ = some (.int .i64 P) ∧ w'.cell? ⟨w.heap.size, 1, none⟩ = some (.int .i64 Q) ∧ w'.cell? ⟨w.heap.size, 2, none⟩ = some (.int .i64 G)) ∧ (w'.cell? ⟨wq.heap.size, 0, none⟩ = some (.slice p1 d.c.length p2) ∧ w'.cell? ⟨wq.heap.size, 1, none⟩ = some (.slice r1 d.s.length r2)) ∧ w'.cell? ⟨bu, ou + k, none⟩ = some (.slice o1 own.length o2))) (by kernel_rfl) (show _ from ⟨G_0x.out, ⟨D_0x.out.1, D_0x.out.2.1⟩, UC_0x.out⟩) (fun hHeld => ?_)
        generalize hW0 : wx.drew = Ws at *
        clear hW0
        refine wpAnyH_take (i := 0) (v := ?_) rfl (by kernel_rfl) (by kernel_rfl) (by kernel_rfl) (fun _ _ _ h => h) (Or.inl ⟨by kernel_rfl, ?_⟩) (by assumption) ?_
        rotate_left 1
        · intro w9 hSw
          try dsimp only at hSw
          go_simp
          try with_reducible rfl
        try simp only [Act.put, List.getElem_toArray, List.getElem_cons_succ, List.getElem_cons_zero, List.setIfInBounds_toArray, List.set_cons_zero, List.set_cons_succ]
        refine wpAnyH_take (i := 1) (v := ?_) rfl (by kernel_rfl) (by kernel_rfl) (by kernel_rfl) (fun _ _ _ h => h) (Or.inl ⟨by kernel_rfl, ?_⟩) (by assumption) ?_
        rotate_left 1
        · intro w9 hSw
          try dsimp only at hSw
          go_simp
          try with_reducible rfl
        try simp only [Act.put, List.getElem_toArray, List.getElem_cons_succ, List.getElem_cons_zero, List.setIfInBounds_toArray, List.set_cons_zero, List.set_cons_succ]
        refine wpAnyH_take (i := 2) (v := ?_) rfl (by kernel_rfl) (by kernel_rfl) (by kernel_rfl) (fun _ _ _ h => h) (Or.inl ⟨by kernel_rfl, ?_⟩) (by assumption) ?_
        rotate_left 1
        · intro w9 hSw
          try dsimp only at hSw
          go_simp
          try with_reducible rfl
        try simp only [Act.put, List.getElem_toArray, List.getElem_cons_succ, List.getElem_cons_zero, List.setIfInBounds_toArray, List.set_cons_zero, List.set_cons_succ]
        refine wpAnyH_take (i := 3) (v := ?_) rfl (by kernel_rfl) (by kernel_rfl) (by kernel_rfl) (fun _ _ _ h => h) (Or.inl ⟨by kernel_rfl, ?_⟩) (by assumption) ?_
        rotate_left 1
        · intro w9 hSw
          try dsimp only at hSw
          go_simp
          try with_reducible rfl
        try simp only [Act.put, List.getElem_toArray, List.getElem_cons_succ, List.getElem_cons_zero, List.setIfInBounds_toArray, List.set_cons_zero, List.set_cons_succ]
        refine wpAnyH_take (i := 4) (v := ?_) rfl (by kernel_rfl) (by kernel_rfl) (by kernel_rfl) (fun _ _ _ h => h) (Or.inl ⟨by kernel_rfl, ?_⟩) (by assumption) ?_
        rotate_left 1
        · intro w9 hSw
          try dsimp only at hSw
          go_simp
          try with_reducible rfl
        try simp only [Act.put, List.getElem_toArray, List.getElem_cons_succ, List.getElem_cons_zero, List.setIfInBounds_toArray, List.set_cons_zero, List.set_cons_succ]
        refine wpAnyH_take (i := 5) (v := ?_) rfl (by kernel_rfl) (by kernel_rfl) (by kernel_rfl) (fun _ _ _ h => h) (Or.inl ⟨by kernel_rfl, ?_⟩) (by assumption) ?_
        rotate_left 1
        · intro w9 hSw
          try dsimp only at hSw
          go_simp
          try with_reducible rfl
        try simp only [Act.put, List.getElem_toArray, List.getElem_cons_succ, List.getElem_cons_zero, List.setIfInBounds_toArray, List.set_cons_zero, List.set_cons_succ]
        refine wpAnyH_ready (rs := [6, 10]) (by kernel_rfl) (by simp) ?_
        refine AllReadyH.cons rfl (fun K hK => ?_) (AllReadyH.cons rfl (fun K hK => ?_) (AllReadyH.nil))
        · go_simp
          (first | have LMB0 := Lib.hid Z2_s.out.lt | skip)
          have LQ := Lib.hid (show wq.heap.size ≤ Ws.heap.size from by have h1 := Below.size BB_s.out; have h2 := HWX.out; omega)
          go_at_call 134
          refine (kgMended_any P Q G HIV.out ho7 HOR.out ID_s.out IO_s.out).mono ?_
          rintro e' Wsg ⟨m1, n1, c1, m2, n2, c2, rfl, hmo, hb⟩
          have HB_sg := Lib.hid (bt HB_s.out hb)
          have G_sg := Lib.hid (G_s.out.below hb)
          have D_sg := Lib.hid (D_s.out.below hb)
          have UC_sg := Lib.hid (UC_s.out.below hb)
          have RV_sg := Lib.hid (RV_s.out.below hb)
          have RS_sg := Lib.hid (RS_s.out.below hb)
          have EE_sg := Lib.hid (EE_s.out.below hb)
          have BV_sg := Lib.hid (BV_s.out.below hb)
          have ID_sg := Lib.hid (ID_s.out.below hb)
          have IO_sg := Lib.hid (IO_s.out.below hb)
          have BB_sg := Lib.hid (BB_s.out.below hb)
          have MO_sg := Lib.hid (show MdO _ _ _ _ _ _ from hmo)
          clear hb
          go_wp2_with fail
          refine hK.out _ _ (show _ from ⟨G_sg.out, ⟨D_sg.out.1, D_sg.out.2.1⟩, UC_sg.out⟩) (fun hHeld => ?_)
          clear hK K
          try simp only [Act.put, List.getElem_toArray, List.getElem_cons_succ, List.getElem_cons_zero, List.setIfInBounds_toArray, List.set_cons_zero, List.set_cons_succ]
          refine wpAnyH_take (i := 7) (v := ?_) rfl (by kernel_rfl) (by kernel_rfl) (by kernel_rfl) (fun _ _ _ h => h) (Or.inl ⟨by kernel_rfl, ?_⟩) (by assumption) ?_
          rotate_left 1
          · intro w9 hSw
            try dsimp only at hSw
            go_simp
            try with_reducible rfl
          try simp only [Act.put, List.getElem_toArray, List.getElem_cons_succ, List.getElem_cons_zero, List.setIfInBounds_toArray, List.set_cons_zero, List.set_cons_succ]
          refine wpAnyH_take (i := 8) (v := ?_) rfl (by kernel_rfl) (by kernel_rfl) (by kernel_rfl) (fun _ _ _ h => h) (Or.inl ⟨by kernel_rfl, ?_⟩) (by assumption) ?_
          rotate_left 1
          · intro w9 hSw
            try dsimp only at hSw
            go_simp
            try with_reducible rfl
          try simp only [Act.put, List.getElem_toArray, List.getElem_cons_succ, List.getElem_cons_zero, List.setIfInBounds_toArray, List.set_cons_zero, List.set_cons_succ]
          refine wpAnyH_take (i := 9) (v := ?_) rfl (by kernel_rfl) (by kernel_rfl) (by kernel_rfl) (fun _ _ _ h => h) (Or.inl ⟨by kernel_rfl, ?_⟩) (by assumption) ?_
          rotate_left 1
          · intro w9 hSw
            try dsimp only at hSw
            go_simp
            try with_reducible rfl
          try simp only [Act.put, List.getElem_toArray, List.getElem_cons_succ, List.getElem_cons_zero, List.setIfInBounds_toArray, List.set_cons_zero, List.set_cons_succ]
          refine wpAnyH_ready (rs := [10]) (by kernel_rfl) (by simp) ?_
          refine AllReadyH.cons rfl (fun K hK => ?_) (AllReadyH.nil)
          go_simp
          have hb := ba Wsg (.cells #[.slice none 0 0, .slice none 0 0] 42)
          have HB_sgk := Lib.hid (bt HB_sg.out hb)
          have G_sgk := Lib.hid (G_sg.out.below hb)
          have D_sgk := Lib.hid (D_sg.out.below hb)
          have UC_sgk := Lib.hid (UC_sg.out.below hb)
          have RV_sgk := Lib.hid (RV_sg.out.below hb)
          have RS_sgk := Lib.hid (RS_sg.out.below hb)
          have EE_sgk := Lib.hid (EE_sg.out.below hb)
          have BV_sgk := Lib.hid (BV_sg.out.below hb)
          have ID_sgk := Lib.hid (ID_sg.out.below hb)
          have IO_sgk := Lib.hid (IO_sg.out.below hb)
          have BB_sgk := Lib.hid (BB_sg.out.below hb)
          have MO_sgk := Lib.hid (MO_sg.out.below hb)
          have Z2_sgk := Lib.hid (show VD2 (Wsg.alloc (.cells #[.slice none 0 0, .slice none 0 0] 42)) Wsg.heap.size (.slice none 0 0) (.slice none 0 0) from v2_at Wsg Wsg.heap.size rfl _ _ 42)
          have LB := Lib.hid (show wq.heap.size + 1 ≤ Wsg.heap.size from by have h1 := Below.size BB_sg.out; have h2 := HWX.out; omega)
          clear hb
          refine hK.out _ _ (show _ from ⟨G_sgk.out, ⟨D_sgk.out.1, D_sgk.out.2.1⟩, UC_sgk.out⟩) (fun hHeld => ?_)
          clear hK K
          try simp only [Act.put, List.getElem_toArray, List.getElem_cons_succ, List.getElem_cons_zero, List.setIfInBounds_toArray, List.set_cons_zero, List.set_cons_succ]
          generalize hW9 : Wsg.alloc (.cells #[.slice none 0 0, .slice none 0 0] 42) = Wsgk at *
          clear hW9
          refine wpAnyH_ready (rs := [11]) (by kernel_rfl) (by simp) ?_
          refine AllReadyH.cons rfl (fun K hK => ?_) AllReadyH.nil
          obtain ⟨y0, y1, yf⟩ := Z2_sgk.out
          have yf0 := yf 0
          have yf1 := yf 1
          clear yf
          have hm6 := mid_two7 Wsgk (Wsg.heap.size) (.slice m1 n1 c1) (.slice m2 n2 c2)
          have lG := HLG.out
          have lB := LB.out
          have G_y := Lib.hid (gr_mid7 G_sgk.out hm6 (by omega))
          have D_y := Lib.hid (D_sgk.out.mid hm6 (.inl (by omega)))
          have UC_y := Lib.hid (UC_sgk.out.mid hm6 (by show bu < _; omega))
          have Z2_y := Lib.hid ((Z2_sgk.out.set0 (.slice m1 n1 c1)).set1 (.slice m2 n2 c2))
          have MO_y := Lib.hid (MO_sgk.out.mid hm6 (by first | exact .inr LMB0.out | exact .inl (Nat.le_refl _)))
          have RV_y := Lib.hid (RV_sgk.out.mid hm6 (fun g hg => by have := (HXV.out g (.inl hg)).2; omega))
          have RS_y := Lib.hid (RS_sgk.out.mid hm6 (fun g hg => by have := (HXV.out g (.inr hg)).2; omega))
          have EE_y := Lib.hid (EE_sgk.out.mid hm6 (fun b h1 h2 h3 => .inr (by omega)))
          have BV_y := Lib.hid (show BZw v0 _ from Below.trans BV_sgk.out (hm6.toBelow (by omega) (Below.size BV_sgk.out)))
          go_simp
          refine hK.out _ _ (show _ from ⟨G_y.out, ⟨D_y.out.1, D_y.out.2.1⟩, UC_y.out⟩) (fun hHeld => ?_)
          clear hK K
          try simp only [Act.put, List.getElem_toArray, List.getElem_cons_succ, List.getElem_cons_zero, List.setIfInBounds_toArray, List.set_cons_zero, List.set_cons_succ]
          refine wpAnyH_take (i := 12) (v := ?_) rfl (by kernel_rfl) (by kernel_rfl) (by kernel_rfl) (fun _ _ _ h => h) (Or.inl ⟨by kernel_rfl, ?_⟩) (by assumption) ?_
          rotate_left 1
          · intro w9 hSw
            try dsimp only at hSw
            go_simp
            try with_reducible rfl
          try simp only [Act.put, List.getElem_toArray, List.getElem_cons_succ, List.getElem_cons_zero, List.setIfInBounds_toArray, List.set_cons_zero, List.set_cons_succ]
          refine wpAnyH_done (by kernel_rfl) ?_ _
          go_wp2_with fail
          go_meet
          exact ⟨_, _, _, _, _, _, _, _, _, rfl, rfl, Z2_y.out, MO_y.out, LQ.out, (by have := LB.out; omega), RV_y.out, RS_y.out, EE_y.out, BV_y.out⟩
        · go_simp
          have hb := ba Ws (.cells #[.slice none 0 0, .slice none 0 0] 42)
          have HB_sk := Lib.hid (bt HB_s.out hb)
          have G_sk := Lib.hid (G_s.out.below hb)
          have D_sk := Lib.hid (D_s.out.below hb)
          have UC_sk := Lib.hid (UC_s.out.below hb)
          have RV_sk := Lib.hid (RV_s.out.below hb)
          have RS_sk := Lib.hid (RS_s.out.below hb)
          have EE_sk := Lib.hid (EE_s.out.below hb)
          have BV_sk := Lib.hid (BV_s.out.below hb)
          have ID_sk := Lib.hid (ID_s.out.below hb)
          have IO_sk := Lib.hid (IO_s.out.below hb)
          have BB_sk := Lib.hid (BB_s.out.below hb)
          have Z2_sk := Lib.hid (show VD2 (Ws.alloc (.cells #[.slice none 0 0, .slice none 0 0] 42)) Ws.heap.size (.slice none 0 0) (.slice none 0 0) from v2_at Ws Ws.heap.size rfl _ _ 42)
          have LB := Lib.hid (show wq.heap.size + 1 ≤ Ws.heap.size from by have h1 := Below.size BB_s.out; have h2 := HWX.out; omega)
          clear hb
          refine hK.out _ _ (show _ from ⟨G_sk.out, ⟨D_sk.out.1, D_sk.out.2.1⟩, UC_sk.out⟩) (fun hHeld => ?_)
          clear hK K
          try simp only [Act.put, List.getElem_toArray, List.getElem_cons_succ, List.getElem_cons_zero, List.setIfInBounds_toArray, List.set_cons_zero, List.set_cons_succ]
          generalize hW9 : Ws.alloc (.cells #[.slice none 0 0, .slice none 0 0] 42) = Wsk at *
          clear hW9
          refine wpAnyH_ready (rs := [6]) (by kernel_rfl) (by simp) ?_
          refine AllReadyH.cons rfl (fun K hK => ?_) (AllReadyH.nil)
          go_simp
          (first | have LMB0 := Lib.hid Z2_sk.out.lt | skip)
          have LQ := Lib.hid (show wq.heap.size ≤ Wsk.heap.size from by have h1 := Below.size BB_sk.out; have h2 := HWX.out; omega)
          go_at_call 134
          refine (kgMended_any P Q G HIV.out ho7 HOR.out ID_sk.out IO_sk.out).mono ?_
          rintro e' Wskg ⟨m1, n1, c1, m2, n2, c2, rfl, hmo, hb⟩
          have HB_skg := Lib.hid (bt HB_sk.out hb)
          have G_skg := Lib.hid (G_sk.out.below hb)
          have D_skg := Lib.hid (D_sk.out.below hb)
          have UC_skg := Lib.hid (UC_sk.out.below hb)
          have RV_skg := Lib.hid (RV_sk.out.below hb)
          have RS_skg := Lib.hid (RS_sk.out.below hb)
          have EE_skg := Lib.hid (EE_sk.out.below hb)
          have BV_skg := Lib.hid (BV_sk.out.below hb)
          have ID_skg := Lib.hid (ID_sk.out.below hb)
          have IO_skg := Lib.hid (IO_sk.out.below hb)
          have BB_skg := Lib.hid (BB_sk.out.below hb)
          have Z2_skg := Lib.hid (Z2_sk.out.below hb)
          have MO_skg := Lib.hid (show MdO _ _ _ _ _ _ from hmo)
          clear hb
          go_wp2_with fail
          refine hK.out _ _ (show _ from ⟨G_skg.out, ⟨D_skg.out.1, D_skg.out.2.1⟩, UC_skg.out⟩) (fun hHeld => ?_)
          clear hK K
          try simp only [Act.put, List.getElem_toArray, List.getElem_cons_succ, List.getElem_cons_zero, List.setIfInBounds_toArray, List.set_cons_zero, List.set_cons_succ]
          refine wpAnyH_take (i := 7) (v := ?_) rfl (by kernel_rfl) (by kernel_rfl) (by kernel_rfl) (fun _ _ _ h => h) (Or.inl ⟨by kernel_rfl, ?_⟩) (by assumption) ?_
          rotate_left 1
          · intro w9 hSw
            try dsimp only at hSw
            go_simp
            try with_reducible rfl
          try simp only [Act.put, List.getElem_toArray, List.getElem_cons_succ, List.getElem_cons_zero, List.setIfInBounds_toArray, List.set_cons_zero, List.set_cons_succ]
          refine wpAnyH_take (i := 8) (v := ?_) rfl (by kernel_rfl) (by kernel_rfl) (by kernel_rfl) (fun _ _ _ h => h) (Or.inl ⟨by kernel_rfl, ?_⟩) (by assumption) ?_
          rotate_left 1
          · intro w9 hSw
            try dsimp only at hSw
            go_simp
            try with_reducible rfl
          try simp only [Act.put, List.getElem_toArray, List.getElem_cons_succ, List.getElem_cons_zero, List.setIfInBounds_toArray, List.set_cons_zero, List.set_cons_succ]
          refine wpAnyH_take (i := 9) (v := ?_) rfl (by kernel_rfl) (by kernel_rfl) (by kernel_rfl) (fun _ _ _ h => h) (Or.inl ⟨by kernel_rfl, ?_⟩) (by assumption) ?_
          rotate_left 1
          · intro w9 hSw
            try dsimp only at hSw
            go_simp
            try with_reducible rfl
          try simp only [Act.put, List.getElem_toArray, List.getElem_cons_succ, List.getElem_cons_zero, List.setIfInBounds_toArray, List.set_cons_zero, List.set_cons_succ]
          refine wpAnyH_ready (rs := [11]) (by kernel_rfl) (by simp) ?_
          refine AllReadyH.cons rfl (fun K hK => ?_) AllReadyH.nil
          obtain ⟨y0, y1, yf⟩ := Z2_skg.out
          have yf0 := yf 0
          have yf1 := yf 1
          clear yf
          have hm6 := mid_two7 Wskg (Ws.heap.size) (.slice m1 n1 c1) (.slice m2 n2 c2)
          have lG := HLG.out
          have lB := LB.out
          have G_y := Lib.hid (gr_mid7 G_skg.out hm6 (by omega))
          have D_y := Lib.hid (D_skg.out.mid hm6 (.inl (by omega)))
          have UC_y := Lib.hid (UC_skg.out.mid hm6 (by show bu < _; omega))
          have Z2_y := Lib.hid ((Z2_skg.out.set0 (.slice m1 n1 c1)).set1 (.slice m2 n2 c2))
          have MO_y := Lib.hid (MO_skg.out.mid hm6 (by first | exact .inr LMB0.out | exact .inl (Nat.le_refl _)))
          have RV_y := Lib.hid (RV_skg.out.mid hm6 (fun g hg => by have := (HXV.out g (.inl hg)).2; omega))
          have RS_y := Lib.hid (RS_skg.out.mid hm6 (fun g hg => by have := (HXV.out g (.inr hg)).2; omega))
          have EE_y := Lib.hid (EE_skg.out.mid hm6 (fun b h1 h2 h3 => .inr (by omega)))
          have BV_y := Lib.hid (show BZw v0 _ from Below.trans BV_skg.out (hm6.toBelow (by omega) (Below.size BV_skg.out)))
          go_simp
          refine hK.out _ _ (show _ from ⟨G_y.out, ⟨D_y.out.1, D_y.out.2.1⟩, UC_y.out⟩) (fun hHeld => ?_)
          clear hK K
          try simp only [Act.put, List.getElem_toArray, List.getElem_cons_succ, List.getElem_cons_zero, List.setIfInBounds_toArray, List.set_cons_zero, List.set_cons_succ]
          refine wpAnyH_take (i := 12) (v := ?_) rfl (by kernel_rfl) (by kernel_rfl) (by kernel_rfl) (fun _ _ _ h => h) (Or.inl ⟨by kernel_rfl, ?_⟩) (by assumption) ?_
          rotate_left 1
          · intro w9 hSw
            try dsimp only at hSw
            go_simp
            try with_reducible rfl
          try simp only [Act.put, List.getElem_toArray, List.getElem_cons_succ, List.getElem_cons_zero, List.setIfInBounds_toArray, List.set_cons_zero, List.set_cons_succ]
          refine wpAnyH_done (by kernel_rfl) ?_ _
          go_wp2_with fail
          go_meet
          exact ⟨_, _, _, _, _, _, _, _, _, rfl, rfl, Z2_y.out, MO_y.out, LQ.out, (by have := LB.out; omega), RV_y.out, RS_y.out, EE_y.out, BV_y.out⟩
      case rest =>
        obtain ⟨bx, m1, n1, c1, m2, n2, c2, QQ, PP, rfl, rfl, hz2, hmo, hqq, hbx, hrv, hrs, hel, hbv⟩ := hcut
        have hel2 := hel.sub (Y := Xr (.slice va m vc) (.slice vb m vd)) (fun b h => .inl h)
        clear hel
        cases hmd : mdB P Q G d own
        · have HQ := Lib.hid (qu_off HD.out HO9.out hmd)
          have HRV := Lib.hid hrv
          have HRS := Lib.hid hrs
          have HEL := Lib.hid hel2
          have HBV := Lib.hid hbv
          clear hmd hmo hz2 hrv hrs hel2 hbv
          go_wp2
          go_roundw
          case rel => exact ⟨k + 1, m, va, vc, vb, vd, vs, by omega, by rw [HQ.out.1]; exact HM.out, rfl, rfl, by go_num, by rw [HQ.out.1, HQ.out.2]; exact ⟨HRV.out, HRS.out, HEL.out, HBV.out⟩⟩
          case measure => simp only [intOf]; omega
        · have HQ := Lib.hid (qu_on HD.out HO9.out hmd)
          obtain ⟨y1, y2, MM, hv9, ho1, ho2⟩ := hmo hmd
          simp only [Value.agg.injEq, Array.mk.injEq, List.cons.injEq, and_true] at hv9
          obtain ⟨rfl, rfl⟩ := hv9
          have hqm := ho1.2.2.2
          have hCX := InX.ofOw (X := Xr (.slice va m vc) (.slice vb m vd)) ho1 (fun b hb => .inl (by have := (HXV.out b hb).2; omega))
          have hSX := InX.ofOw (X := Xr (.slice va m vc) (.slice vb m vd)) ho2 (fun b hb => .inl (by have := (HXV.out b hb).2; omega))
          have hvl : vs.length = (qdL P Q G ds av k).length * 2 := by have h1 := (show World.ownsRow _ _ _ _ _ _ _ from hrs).1; have h2 := (quL_length P Q G ds av k).1; have h3 := HM.out; omega
          have hE4 := hel2.snoc hvl hCX hSX
          have ha1 := ba wc (.cells #[.int .i64 ((k : Int) + 1)] 3)
          have HV_l := Lib.hid (own_below hrv ha1)
          have HS_l := Lib.hid (own_below hrs ha1)
          have HE_l := Lib.hid (hE4.below ha1)
          have HB_l := Lib.hid (bt hbv ha1)
          have D_l := Lib.hid (hz2.below ha1)
          have hxk : IntKind.i64.wrap ((k : Int) + 1) = (k : Int) + 1 := by rw [IntKind.wrap_i64]; omega
          have hbz := hz2.lt
          clear hmd hmo ho1 ho2 hCX hSX hvl hE4 ha1 hz2 hrv hrs hel2 hbv
          go_wp2_with (first
            | (at_builtin
               refine wpList_append_lies _ rfl _ _ 25 rfl v0.heap.size 42 i1 (.agg #[.slice none 0 0, .slice none 0 0]) 2 48 Try.underlying25 hj0 hw0 hw1 hw2 rfl (by decide) _ _ _ rfl HS_m.out ⟨w6.heap.size, 0, none⟩ 1 1 [.slice m1 n1 c1, .slice m2 n2 c2] rfl rfl (pair_new _ _ _ _) (by intro u hu; simp at hu; rcases hu with rfl | rfl <;> rfl) (by decide) (by unfold maxLen; omega) (by omega) HB_m.out.size (w6.heap.size + 1) (by simp) ?_
               intro g8 c8 w8 hown8 hgr8 hli8 hlt8
               have HV_8 := Lib.hid (rows_kept HS_m.out HV_m.out (by decide) hgr8)
               have HS_8 := Lib.hid hown8
               have HE_8 := Lib.hid (HE_m.out.grown (X' := Xr (.slice (some ⟨g6, 0, none⟩) (m + 1) c6) (.slice (some ⟨g8, 0, none⟩) (m + 1) c8)) hgr8 (fun k hk => .inr hk) (fun k hk => hk.elim (fun h => .inl (.inl h)) (fun h => by
                 have e : g8 = k := by simpa [Value.ownBlock] using h
                 subst e
                 exact hli8.elim (fun h => .inl (.inr h)) (fun h => .inr (by rw [h]; simp)))))
               have HB_8 := Lib.hid (HB_m.out.grown hgr8 HB_m.out.size (fun q hq => (HS_m.out.lt q hq).1))
               clear hown8 hgr8 hli8 hlt8)
            | (at_builtin
               refine wpList_append_lies _ rfl _ _ 29 rfl v0.heap.size 3 i0 (.int .i64 0) 1 8 Try.underlying29 hi0 hy0 hy1 hy2 rfl (by decide) _ _ _ rfl HV_l.out ⟨wc.heap.size, 0, none⟩ 1 1 [.int .i64 ((k : Int) + 1)] rfl rfl (cell_one_new _ _ _) (ints_oneCell .i64 [(k : Int) + 1]) (by decide) (by unfold maxLen; omega) (by omega) HB_l.out.size (wc.heap.size + 1) (by simp) ?_
               intro g6 c6 w6 hown6 hgr6 hli6 hlt6
               have HV_6 := Lib.hid (show w6.ownsRow v0.heap.size 3 1 (.slice (some ⟨g6, 0, none⟩) (m + 1) c6) (m + 1) ((quL P Q G ds av k ++ [(k : Int) + 1]).map (Value.int .i64)) by rw [List.map_append]; exact hown6)
               have hS6 := rows_kept HV_l.out HS_l.out (by decide) hgr6
               have hE6 := HE_l.out.grown (X' := Xr (.slice (some ⟨g6, 0, none⟩) (m + 1) c6) (.slice vb m vd)) hgr6 (fun k hk => .inl hk) (fun k hk => hk.elim (fun h => by
                 have e : g6 = k := by simpa [Value.ownBlock] using h
                 subst e
                 exact hli6.elim (fun h => .inl (.inl h)) (fun h => .inr (by rw [h]; simp))) (fun h => .inl (.inr h)))
               have hB6 := HB_l.out.grown hgr6 HB_l.out.size (fun q hq => (HV_l.out.lt q hq).1)
               have e0 := (hgr6.cell_far ⟨bx, 0, none⟩ (by simp; omega) (fun e => by have := (HXV.out bx (.inl e.symm)).2; omega)).trans D_l.out.1
               have e1 := (hgr6.cell_far ⟨bx, 1, none⟩ (by simp; omega) (fun e => by have := (HXV.out bx (.inl e.symm)).2; omega)).trans D_l.out.2.1
               have ha2 := ba w6 (.cells #[.slice m1 n1 c1, .slice m2 n2 c2] 42)
               have HV_m := Lib.hid (own_below HV_6.out ha2)
               have HS_m := Lib.hid (own_below hS6 ha2)
               have HE_m := Lib.hid (hE6.below ha2)
               have HB_m := Lib.hid (bt hB6 ha2)
               clear hown6 hgr6 hli6 hlt6 hS6 hE6 hB6 ha2))
          go_roundw
          case rel => exact ⟨k + 1, m + 1, some ⟨g6, 0, none⟩, c6, some ⟨g8, 0, none⟩, c8, vs ++ [.slice m1 n1 c1, .slice m2 n2 c2], by omega, by rw [HQ.out.1, List.length_append, HM.out]; rfl, rfl, rfl, by go_num, by rw [HQ.out.1, HQ.out.2]; exact ⟨HV_8.out, HS_8.out, HE_8.out, HB_8.out⟩⟩
          case measure => simp only [intOf]; omega
    · obtain rfl : k = ds.length := by omega
      have HST := Lib.hid hst
      clear hst
      go_wp2
      go_ret2
      exact ⟨_, _, rfl, (owI_mk HST.out.1 HST.out.2.2.2.size).wide HB_0.out.size (Nat.le_refl _) (Nat.le_refl _), inDs_of_row HST.out.2.1 (by have := (quL_length P Q G ds av ds.length).1; have := HM.out; omega) HST.out.2.2.1, bt HB_0.out HST.out.2.2.2⟩

set_option maxRecDepth 100000 in
set_option maxHeartbeats 3200000 in
theorem sQualifiedIn_any (P Q G : Int) {B : Nat} {v : Value} {ds : List DlD} (hl : ds.length ≤ 1048576) (hr : nDs ds ≤ 1048576) {B2 : Nat} {u : Value} {av : List (List Int)} (hl2 : av.length ≤ 1048576) (hr2 : nS av ≤ 1048576) {w : World} (hz : InDs B w v ds) (hu : InS B2 w u av) :
    Calls Try.prog 50 #[gv P Q G, v, u] w (AnsY w (qaR P Q G ds av) (kaB P Q G ds av)) := by
  obtain ⟨la, lc, rfl⟩ := hz.shape
  obtain ⟨ua, uc, rfl⟩ := hu.shape
  have hmf : ∀ (fn : Fn) (first cap : Array Value) (w : World), (Instr.makeFunc fn first cap).run Try.prog w = .ok (.func fn first cap) w := fun _ _ _ _ => rfl
  have G_0 := Lib.hid (gr_atS w w.heap.size rfl P Q G 24)
  have HB_0 := Lib.hid (show Below w.heap.size w (w.alloc (.cells #[.int .i64 P, .int .i64 Q, .int .i64 G] 24)) from ba _ _)
  have L_0 := Lib.hid (hz.below HB_0.out)
  have U_0 := Lib.hid (hu.below HB_0.out)
  clear hz hu
  cases h0 : kaB P Q G ds av
  · have K0 := Lib.hid (show kaB P Q G ds av = false from h0)
    have E1 := Lib.hid h0
    rw [qaR_off E1.out]
    clear h0
    obtain ⟨gG0, gG1, gG2⟩ := G_0.out
    go_enter Try.func50, Try.ntmps50
    go_wp2_with fail
    refine (kgAnswers_any P Q G hl hr hl2 hr2 L_0.out U_0.out).mono ?_
    rw [K0.out]
    rintro e v1 ⟨rfl, hb⟩
    have HB_1 := Lib.hid (bt HB_0.out hb)
    have G_1 := Lib.hid (G_0.out.below hb)
    have L_1 := Lib.hid (L_0.out.below hb)
    have U_1 := Lib.hid (U_0.out.below hb)
    clear hb gG0 gG1 gG2
    obtain ⟨gG0, gG1, gG2⟩ := G_1.out
    go_wp2
    go_ret2
    exact ⟨_, rfl, owI_nil _ _ HB_1.out.size, HB_1.out⟩
  have K0 := Lib.hid (show kaB P Q G ds av = true from h0)
  have E1 := Lib.hid h0
  rw [qaR_on E1.out]
  clear h0
  obtain ⟨gG0, gG1, gG2⟩ := G_0.out
  go_enter Try.func50, Try.ntmps50
  go_wp2_with fail
  refine (kgAnswers_any P Q G hl hr hl2 hr2 L_0.out U_0.out).mono ?_
  rw [K0.out]
  rintro e v1 ⟨rfl, hb⟩
  have HB_1 := Lib.hid (bt HB_0.out hb)
  have G_1 := Lib.hid (G_0.out.below hb)
  have L_1 := Lib.hid (L_0.out.below hb)
  have U_1 := Lib.hid (U_0.out.below hb)
  clear hb gG0 gG1 gG2
  obtain ⟨gG0, gG1, gG2⟩ := G_1.out
  go_wp2_with fail
  refine (kgQualified_any P Q G hl hr hl2 hr2 L_1.out U_1.out E1.out).mono ?_
  rintro e w4 ⟨q1, q2, rfl, ho, hi, hb4⟩
  have HO4 := Lib.hid ho
  have HB4 := Lib.hid (bt HB_1.out hb4)
  have HBS := Lib.hid HB_1.out.size
  clear ho hi hb4 gG0 gG1 gG2
  go_wp2
  go_ret2
  exact ⟨_, rfl, HO4.out.wide HBS.out (Nat.le_refl _) (Nat.le_refl _), HB4.out⟩

end Go.Proofs.Ytchlnkdlnfjijaa

