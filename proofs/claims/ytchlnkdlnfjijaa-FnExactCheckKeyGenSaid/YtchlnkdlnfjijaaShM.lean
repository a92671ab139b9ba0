/- Chapter 11: shares that are received into a map; BadShares of both. -/
import Derived.Test.YtchlnkdlnfjijaaShA
import Derived.Maps.Views
import Derived.Carry
namespace Go.Proofs.Ytchlnkdlnfjijaa
open Go.RowKit
set_option linter.unusedVariables false
set_option linter.unusedSimpArgs false

/-! ### What the map holds -/
theorem Try.keyedI : Go.Maps.Keyed Try.prog 3 := Go.Maps.int_keyed Try.underlying3
def dat (b : Bool) (s : Int) : DataW Nat := .agg [.lit (.bool b), .lit (.int .i64 s)]
def rcR : Value → Option (DataW Nat × List MemPlace)
  | .iface t (.int .i64 s) => if t = 105 then some (dat true s, []) else if t = 145 then some (dat false s, []) else none
  | .nilIface => some (.nil, [])
  | _ => none
theorem rcR_right (s : Int) : rcR (.iface 105 (.int .i64 s)) = some (dat true s, []) := by simp [rcR]
theorem rcR_wrong (s : Int) : rcR (.iface 145 (.int .i64 s)) = some (dat false s, []) := by simp [rcR]
theorem rcR_inv {v : Value} {ps : List MemPlace} {b : Bool} {s : Int} (h : rcR v = some (dat b s, ps)) : v = .iface (if b then 105 else 145) (.int .i64 s) := by
  unfold rcR at h
  split at h
  · rename_i t s'
    split at h
    · rename_i ht
      simp only [Option.some.injEq, Prod.mk.injEq, dat, DataW.agg.injEq, List.cons.injEq, DataW.lit.injEq, Lit.bool.injEq, Lit.int.injEq, true_and, and_true] at h
      obtain ⟨⟨rfl, rfl⟩, _⟩ := h
      rw [ht]; rfl
    · split at h
      · rename_i ht
        simp only [Option.some.injEq, Prod.mk.injEq, dat, DataW.agg.injEq, List.cons.injEq, DataW.lit.injEq, Lit.bool.injEq, Lit.int.injEq, true_and, and_true] at h
        obtain ⟨⟨rfl, rfl⟩, _⟩ := h
        rw [ht]; rfl
      · cases h
  · simp [dat] at h
  · cases h
theorem wf_small {z : Int} (h0 : 0 ≤ z) (h1 : z ≤ 7) : (Lit.int .i64 z).wf = true := by
  obtain ⟨n, rfl⟩ := Int.eq_ofNat_of_zero_le h0
  have hn : n = 0 ∨ n = 1 ∨ n = 2 ∨ n = 3 ∨ n = 4 ∨ n = 5 ∨ n = 6 ∨ n = 7 := by omega
  rcases hn with rfl | rfl | rfl | rfl | rfl | rfl | rfl | rfl <;> decide
theorem key_small {z : Int} (h0 : 0 ≤ z) (h1 : z ≤ 7) : keyOf Try.prog 3 (.int .i64 z) = some (.int .i64 z) := by
  have hw := wf_small h0 h1
  unfold keyOf mapKey; simp [Try.underlying3, hw]
theorem ta_right (s : Int) (w : World) : (Instr.typeAssert (.iface 105 (.int .i64 s)) 20 105 true).run Try.prog w = .ok (.tuple #[.int .i64 s, .bool true]) w := by kernel_rfl
theorem ta_wrong (s : Int) (w : World) : (Instr.typeAssert (.iface 145 (.int .i64 s)) 20 105 true).run Try.prog w = .ok (.tuple #[.int .i64 0, .bool false]) w := by kernel_rfl
theorem zero_any (w : World) : (zeroValue 20).run Try.prog w = .ok .nilIface w := by kernel_rfl

/-- The first k shares lie in the map in block m. -/
def RC (P Q G : Int) (cs zs ss : List Int) (m : Nat) (w : World) (k : Nat) : Prop := ∃ D : DataW Nat, w.ownsMap Try.prog 3 rcR m k D ∧ Go.Maps.IsMap D ∧
  ∀ j, j < k → D.atKey (.int .i64 (zs.getD j 0)) .nil = dat (fitB P Q G cs (zs.getD j 0) (ss.getD j 0)) (ss.getD j 0)
theorem RC.below {P Q G : Int} {cs zs ss : List Int} {m k : Nat} {w w' : World} (h : RC P Q G cs zs ss m w k) (hb : Below w.heap.size w w') : RC P Q G cs zs ss m w' k := by
  obtain ⟨D, h1, h2⟩ := h
  exact ⟨D, h1.kept (row := none) (grown_below hb none) (by simp), h2⟩
theorem RC.lt {P Q G : Int} {cs zs ss : List Int} {m k : Nat} {w : World} (h : RC P Q G cs zs ss m w k) : m < w.heap.size := by
  obtain ⟨D, h1, _⟩ := h; exact h1.lt
theorem nodup_getD {zs : List Int} (hn : zs.Nodup) {j k : Nat} (hj : j < k) (hk : k < zs.length) : zs.getD j 0 ≠ zs.getD k 0 := by
  rw [getD_in (by omega), getD_in hk]
  intro e
  have := (List.nodup_iff_pairwise_ne.1 hn)
  exact List.pairwise_iff_getElem.1 this j k (by omega) hk hj e
theorem rc_step {P Q G : Int} {cs zs ss : List Int} {m k : Nat} {w' : World} {D : DataW Nat} (hism : Go.Maps.IsMap D) (hat : ∀ j, j < k → D.atKey (.int .i64 (zs.getD j 0)) .nil = dat (fitB P Q G cs (zs.getD j 0) (ss.getD j 0)) (ss.getD j 0))
    (hn : zs.Nodup) (hk : k < zs.length) (h : w'.ownsMap Try.prog 3 rcR m (k + 1) (D.put (.int .i64 (zs.getD k 0)) (dat (fitB P Q G cs (zs.getD k 0) (ss.getD k 0)) (ss.getD k 0)))) : RC P Q G cs zs ss m w' (k + 1) := by
  refine ⟨_, h, hism.put _ _, fun j hj => ?_⟩
  rcases Nat.lt_or_ge j k with h1 | h1
  · rw [Go.Maps.atKey_put_other (by intro e; simp only [Lit.int.injEq, true_and] at e; exact nodup_getD hn h1 hk e)]; exact hat j h1
  · obtain rfl : j = k := by omega
    rw [Go.Maps.atKey_put_same hism (by trivial)]

def BZw (u w : World) : Prop := Below u.heap.size u w
theorem BZw.below {u w w' : World} (h : BZw u w) (hb : Below w.heap.size w w') : BZw u w' := bt h hb
theorem gr_midR {w w' : World} {A B b : Nat} {P Q G : Int} (h : GR w b P Q G) (hm : Mid A B w w') (ho : b < A) : GR w' b P Q G := by
  have he := hm.block b h.lt (.inl ho)
  exact ⟨(World.cell?_of_block (a := ⟨b, 0, none⟩) he).trans h.1, (World.cell?_of_block (a := ⟨b, 1, none⟩) he).trans h.2.1, (World.cell?_of_block (a := ⟨b, 2, none⟩) he).trans h.2.2⟩
set_option maxRecDepth 100000 in
set_option maxHeartbeats 3200000 in
theorem receive_any (P Q G : Int) (hg : goodB P Q G = true) (ca za sa : Option Addr) (cc zc sc : Nat) (cs zs ss : List Int) (hl : cs.length ≤ 1000000) (hce : allEl P Q cs = true) (hzr : ∀ z ∈ zs, 1 ≤ z ∧ z ≤ 7) (hnd : zs.Nodup) (hsr : ∀ s ∈ ss, 0 ≤ s ∧ s < Q) (hln : ss.length = zs.length) (hl7 : zs.length ≤ 7) (nz : Nat) (hnz : zs.length = nz)
    {w : World} (hc : IsInts w ca cs) (hz : IsInts w za zs) (hs : IsInts w sa ss) :
    Calls Try.prog 78 #[gv P Q G, .slice ca cs.length cc, .slice za nz zc, .slice sa ss.length sc] w fun e w' => ∃ m, e = .returned (.map (some m)) ∧ RC P Q G cs zs ss m w' zs.length ∧ Below w.heap.size w w' := by
  subst hnz
  have HGD := Lib.hid hg
  have HCE := Lib.hid hce
  have HZR := Lib.hid hzr
  have HSR := Lib.hid hsr
  have HND := Lib.hid hnd
  have HLN := Lib.hid hln
  have hmm := @run_makeMap Try.prog
  have hmd := World.ownsMap_made (w.alloc (.cells #[.int .i64 P, .int .i64 Q, .int .i64 G] 24)) Try.prog 3 rcR
  rw [show (w.alloc (.cells #[.int .i64 P, .int .i64 Q, .int .i64 G] 24)).heap.size = w.heap.size + 1 by simp] at hmd
  have HM0 := Lib.hid (show RC P Q G cs zs ss (w.heap.size + 1) ((w.alloc (.cells #[.int .i64 P, .int .i64 Q, .int .i64 G] 24)).alloc (.map #[] 0)) 0 from ⟨_, hmd, Go.Maps.isMap_empty, fun j hj => by omega⟩)
  have HG0 := Lib.hid ((gr_atS w w.heap.size rfl P Q G 24).below (ba _ (.map #[] 0)))
  clear hg hce hzr hsr hnd hmd hln
  go_enter Try.func78, Try.ntmps78
  go_wp2_with fail
  go_loopw [10, 11, 15] (fun _ _ K wr => ∃ k : Nat, k ≤ zs.length ∧ K = .int .i64 k ∧ RC P Q G cs zs ss (w.heap.size + 1) wr k ∧ GR wr w.heap.size P Q G ∧ Below w.heap.size w wr) (fun _ _ K _ => zs.length - (intOf K).toNat)
  case atStart => exact ⟨0, Nat.zero_le _, rfl, HM0.out, HG0.out, bt (ba _ _) (ba _ _)⟩
  case round =>
    obtain ⟨k, hk, rfl, hrc, hgr, hbel⟩ := hrel
    have M_0 := Lib.hid hrc
    have G_0 := Lib.hid hgr
    have HB_0 := Lib.hid hbel
    have B_0 := Lib.hid (show BZw w wr from hbel)
    clear hrc hgr hbel HM0 HG0
    by_cases hkn : k < zs.length
    · have C_0 := Lib.hid (show LZ wr ca cs from hc.below HB_0.out (Nat.le_refl _))
      obtain ⟨zb, zo, z, rfl, hzb, hzx, hzd⟩ := (hz.below HB_0.out (Nat.le_refl _)).at (k := k) hkn
      obtain ⟨sb, so, x, rfl, hsb, hsx, hsd⟩ := (hs.below HB_0.out (Nat.le_refl _)).at (k := k) (by have := HLN.out; omega)
      have hkss : k < ss.length := by have := HLN.out; omega
      have hz17 := HZR.out z (mem_drop hzd)
      have hxr := HSR.out x (mem_drop hsd)
      have hzv : zs.getD k 0 = z := by obtain ⟨h1, h2⟩ := head_of_drop hzd; rw [getD_in h1]; exact h2
      have hxv : ss.getD k 0 = x := by obtain ⟨h1, h2⟩ := head_of_drop hsd; rw [getD_in h1]; exact h2
      have X_0 := Lib.hid (show CZ wr ⟨sb, so + k, none⟩ (.int .i64 x) from hsx)
      clear hzd hsd
      cases hv : fitB P Q G cs z x
      · have HV := Lib.hid (show fitB P Q G cs z x = false from hv)
        have HD := Lib.hid (show dat (fitB P Q G cs (zs.getD k 0) (ss.getD k 0)) (ss.getD k 0) = dat false x by rw [hzv, hxv, hv])
        clear hv
        go_wp2_with fail
        have hbd : Below wr.heap.size wr wr.drew := (Below.refl _ wr).drew
        have HB_s := Lib.hid (bt HB_0.out hbd)
        have G_s := Lib.hid (G_0.out.below hbd)
        have C_s := Lib.hid (C_0.out.below hbd)
        have X_s := Lib.hid (X_0.out.below hbd)
        have M_s := Lib.hid (M_0.out.below hbd)
        have B_s := Lib.hid (B_0.out.below hbd)
        clear hbd
        refine wp_region_held_drew (S := (fun w' => (w'.cell? ⟨w.heap.size, 0, none⟩ = some (.int .i64 P) ∧ w'.cell? ⟨w.heap.size, 1, none⟩ = some (.int .i64 Q) ∧ w'.cell? ⟨w.heap.size, 2, none⟩ = some (.int .i64 G)) ∧ w'.cell? ⟨sb, so + k, none⟩ = some (.int .i64 x))) (by kernel_rfl) (show _ from ⟨G_0.out, X_0.out⟩) (fun hHeld => ?_)
        generalize hW0 : wr.drew = Ws at *
        clear hW0
        refine wpAnyH_take (i := 0) (v := ?_) rfl (by kernel_rfl) (by kernel_rfl) (by kernel_rfl) (fun _ _ _ h => h) (Or.inl ⟨by kernel_rfl, ?_⟩) (by assumption) ?_
        rotate_left 1
        · intro w9 hSw
          try dsimp only at hSw
          go_simp
          try with_reducible rfl
        try simp only [Act.put, List.getElem_toArray, List.getElem_cons_succ, List.getElem_cons_zero, List.setIfInBounds_toArray, List.set_cons_zero, List.set_cons_succ]
        refine wpAnyH_take (i := 1) (v := ?_) rfl (by kernel_rfl) (by kernel_rfl) (by kernel_rfl) (fun _ _ _ h => h) (Or.inl ⟨by kernel_rfl, ?_⟩) (by assumption) ?_
        rotate_left 1
        · intro w9 hSw
          try dsimp only at hSw
          go_simp
          try with_reducible rfl
        try simp only [Act.put, List.getElem_toArray, List.getElem_cons_succ, List.getElem_cons_zero, List.setIfInBounds_toArray, List.set_cons_zero, List.set_cons_succ]
        refine wpAnyH_take (i := 2) (v := ?_) rfl (by kernel_rfl) (by kernel_rfl) (by kernel_rfl) (fun _ _ _ h => h) (Or.inl ⟨by kernel_rfl, ?_⟩) (by assumption) ?_
        rotate_left 1
        · intro w9 hSw
          try dsimp only at hSw
          go_simp
          try with_reducible rfl
        try simp only [Act.put, List.getElem_toArray, List.getElem_cons_succ, List.getElem_cons_zero, List.setIfInBounds_toArray, List.set_cons_zero, List.set_cons_succ]
        refine wpAnyH_take (i := 3) (v := ?_) rfl (by kernel_rfl) (by kernel_rfl) (by kernel_rfl) (fun _ _ _ h => h) (Or.inl ⟨by kernel_rfl, ?_⟩) (by assumption) ?_
        rotate_left 1
        · intro w9 hSw
          try dsimp only at hSw
          go_simp
          try with_reducible rfl
        try simp only [Act.put, List.getElem_toArray, List.getElem_cons_succ, List.getElem_cons_zero, List.setIfInBounds_toArray, List.set_cons_zero, List.set_cons_succ]
        refine wpAnyH_take (i := 4) (v := ?_) rfl (by kernel_rfl) (by kernel_rfl) (by kernel_rfl) (fun _ _ _ h => h) (Or.inl ⟨by kernel_rfl, ?_⟩) (by assumption) ?_
        rotate_left 1
        · intro w9 hSw
          try dsimp only at hSw
          go_simp
          try with_reducible rfl
        try simp only [Act.put, List.getElem_toArray, List.getElem_cons_succ, List.getElem_cons_zero, List.setIfInBounds_toArray, List.set_cons_zero, List.set_cons_succ]
        refine wpAnyH_take (i := 5) (v := ?_) rfl (by kernel_rfl) (by kernel_rfl) (by kernel_rfl) (fun _ _ _ h => h) (Or.inl ⟨by kernel_rfl, ?_⟩) (by assumption) ?_
        rotate_left 1
        · intro w9 hSw
          try dsimp only at hSw
          go_simp
          try with_reducible rfl
        try simp only [Act.put, List.getElem_toArray, List.getElem_cons_succ, List.getElem_cons_zero, List.setIfInBounds_toArray, List.set_cons_zero, List.set_cons_succ]
        refine wpAnyH_take (i := 6) (v := ?_) rfl (by kernel_rfl) (by kernel_rfl) (by kernel_rfl) (fun _ _ _ h => h) (Or.inl ⟨by kernel_rfl, ?_⟩) (by assumption) ?_
        rotate_left 1
        · intro w9 hSw
          try dsimp only at hSw
          go_simp
          try with_reducible rfl
        try simp only [Act.put, List.getElem_toArray, List.getElem_cons_succ, List.getElem_cons_zero, List.setIfInBounds_toArray, List.set_cons_zero, List.set_cons_succ]
        refine wpAnyH_ready (rs := [7]) (by kernel_rfl) (by simp) ?_
        refine AllReadyH.cons rfl (fun K hK => ?_) (AllReadyH.nil)
        go_simp
        go_at_call 112
        refine (isShare_any P Q G z x HGD.out (by omega) (by omega) hxr ca cs.length cc cs rfl (by omega) HCE.out _ C_s.out).mono ?_
        rw [HV.out]
        rintro e' Wsh ⟨rfl, hb⟩
        have HB_sh := Lib.hid (bt HB_s.out hb)
        have G_sh := Lib.hid (G_s.out.below hb)
        have C_sh := Lib.hid (C_s.out.below hb)
        have X_sh := Lib.hid (X_s.out.below hb)
        have M_sh := Lib.hid (M_s.out.below hb)
        have B_sh := Lib.hid (B_s.out.below hb)
        clear hb
        go_wp2_with fail
        refine hK.out _ _ (show _ from ⟨G_sh.out, X_sh.out⟩) (fun hHeld => ?_)
        clear hK K
        try simp only [Act.put, List.getElem_toArray, List.getElem_cons_succ, List.getElem_cons_zero, List.setIfInBounds_toArray, List.set_cons_zero, List.set_cons_succ]
        refine wpAnyH_done (by kernel_rfl) ?_ _
        clear hHeld
        obtain ⟨D, hown, hism, hat⟩ := M_sh.out
        have HIS := Lib.hid (And.intro hism hat)
        have hcell : Wsh.cell? ⟨sb, so + k, none⟩ = some (.int .i64 x) := X_sh.out
        clear hism hat
        go_wp2_with (first
          | (at_mapUpdate
             refine wpList_mapUpdate_own _ rfl _ _ _ 103 rfl 3 20 Try.keyedI Try.underlying103 rcR (w.heap.size + 1) k D rfl hown (by unfold maxLen; omega) _ _ (.int .i64 z) rfl rfl (key_small (by omega) (by omega)) (dat false x) [] (rcR_wrong x) ?_
             intro w1 hown1 hgrow1
             have HR1 := Lib.hid (show RC P Q G cs zs ss (w.heap.size + 1) w1 (k + 1) from rc_step HIS.out.1 HIS.out.2 HND.out hkn (by rw [HD.out, hzv]; exact hown1))
             have hm1 : Mid (w.heap.size + 1) (w.heap.size + 1 + 1) Wsh w1 := Mid.grown hgrow1 (fun q hq => by cases hq; omega)
             have HG1 := Lib.hid (gr_midR G_sh.out hm1 (Nat.lt_succ_self _))
             have HB1 := Lib.hid (B_sh.out.trans (hm1.toBelow (by omega) B_sh.out.size))
             clear hown1 hgrow1 hm1)
          | fail)
        go_roundw
        case rel => exact ⟨k + 1, by omega, by go_num, HR1.out, HG1.out, HB1.out⟩
        case measure => simp only [intOf]; omega
      · have HV := Lib.hid (show fitB P Q G cs z x = true from hv)
        have HD := Lib.hid (show dat (fitB P Q G cs (zs.getD k 0) (ss.getD k 0)) (ss.getD k 0) = dat true x by rw [hzv, hxv, hv])
        clear hv
        go_wp2_with fail
        have hbd : Below wr.heap.size wr wr.drew := (Below.refl _ wr).drew
        have HB_s := Lib.hid (bt HB_0.out hbd)
        have G_s := Lib.hid (G_0.out.below hbd)
        have C_s := Lib.hid (C_0.out.below hbd)
        have X_s := Lib.hid (X_0.out.below hbd)
        have M_s := Lib.hid (M_0.out.below hbd)
        have B_s := Lib.hid (B_0.out.below hbd)
        clear hbd
        refine wp_region_held_drew (S := (fun w' => (w'.cell? ⟨w.heap.size, 0, none⟩ = some (.int .i64 P) ∧ w'.cell? ⟨w.heap.size, 1, none⟩ = some (.int .i64 Q) ∧ w'.cell? ⟨w.heap.size, 2, none⟩ = some (.int .i64 G)) ∧ w'.cell? ⟨sb, so + k, none⟩ = some (.int .i64 x))) (by kernel_rfl) (show _ from ⟨G_0.out, X_0.out⟩) (fun hHeld => ?_)
        generalize hW0 : wr.drew = Ws at *
        clear hW0
        refine wpAnyH_take (i := 0) (v := ?_) rfl (by kernel_rfl) (by kernel_rfl) (by kernel_rfl) (fun _ _ _ h => h) (Or.inl ⟨by kernel_rfl, ?_⟩) (by assumption) ?_
        rotate_left 1
        · intro w9 hSw
          try dsimp only at hSw
          go_simp
          try with_reducible rfl
        try simp only [Act.put, List.getElem_toArray, List.getElem_cons_succ, List.getElem_cons_zero, List.setIfInBounds_toArray, List.set_cons_zero, List.set_cons_succ]
        refine wpAnyH_take (i := 1) (v := ?_) rfl (by kernel_rfl) (by kernel_rfl) (by kernel_rfl) (fun _ _ _ h => h) (Or.inl ⟨by kernel_rfl, ?_⟩) (by assumption) ?_
        rotate_left 1
        · intro w9 hSw
          try dsimp only at hSw
          go_simp
          try with_reducible rfl
        try simp only [Act.put, List.getElem_toArray, List.getElem_cons_succ, List.getElem_cons_zero, List.setIfInBounds_toArray, List.set_cons_zero, List.set_cons_succ]
        refine wpAnyH_take (i := 2) (v := ?_) rfl (by kernel_rfl) (by kernel_rfl) (by kernel_rfl) (fun _ _ _ h => h) (Or.inl ⟨by kernel_rfl, ?_⟩) (by assumption) ?_
        rotate_left 1
        · intro w9 hSw
          try dsimp only at hSw
          go_simp
          try with_reducible rfl
        try simp only [Act.put, List.getElem_toArray, List.getElem_cons_succ, List.getElem_cons_zero, List.setIfInBounds_toArray, List.set_cons_zero, List.set_cons_succ]
        refine wpAnyH_take (i := 3) (v := ?_) rfl (by kernel_rfl) (by kernel_rfl) (by kernel_rfl) (fun _ _ _ h => h) (Or.inl ⟨by kernel_rfl, ?_⟩) (by assumption) ?_
        rotate_left 1
        · intro w9 hSw
          try dsimp only at hSw
          go_simp
          try with_reducible rfl
        try simp only [Act.put, List.getElem_toArray, List.getElem_cons_succ, List.getElem_cons_zero, List.setIfInBounds_toArray, List.set_cons_zero, List.set_cons_succ]
        refine wpAnyH_take (i := 4) (v := ?_) rfl (by kernel_rfl) (by kernel_rfl) (by kernel_rfl) (fun _ _ _ h => h) (Or.inl ⟨by kernel_rfl, ?_⟩) (by assumption) ?_
        rotate_left 1
        · intro w9 hSw
          try dsimp only at hSw
          go_simp
          try with_reducible rfl
        try simp only [Act.put, List.getElem_toArray, List.getElem_cons_succ, List.getElem_cons_zero, List.setIfInBounds_toArray, List.set_cons_zero, List.set_cons_succ]
        refine wpAnyH_take (i := 5) (v := ?_) rfl (by kernel_rfl) (by kernel_rfl) (by kernel_rfl) (fun _ _ _ h => h) (Or.inl ⟨by kernel_rfl, ?_⟩) (by assumption) ?_
        rotate_left 1
        · intro w9 hSw
          try dsimp only at hSw
          go_simp
          try with_reducible rfl
        try simp only [Act.put, List.getElem_toArray, List.getElem_cons_succ, List.getElem_cons_zero, List.setIfInBounds_toArray, List.set_cons_zero, List.set_cons_succ]
        refine wpAnyH_take (i := 6) (v := ?_) rfl (by kernel_rfl) (by kernel_rfl) (by kernel_rfl) (fun _ _ _ h => h) (Or.inl ⟨by kernel_rfl, ?_⟩) (by assumption) ?_
        rotate_left 1
        · intro w9 hSw
          try dsimp only at hSw
          go_simp
          try with_reducible rfl
        try simp only [Act.put, List.getElem_toArray, List.getElem_cons_succ, List.getElem_cons_zero, List.setIfInBounds_toArray, List.set_cons_zero, List.set_cons_succ]
        refine wpAnyH_ready (rs := [7]) (by kernel_rfl) (by simp) ?_
        refine AllReadyH.cons rfl (fun K hK => ?_) (AllReadyH.nil)
        go_simp
        go_at_call 112
        refine (isShare_any P Q G z x HGD.out (by omega) (by omega) hxr ca cs.length cc cs rfl (by omega) HCE.out _ C_s.out).mono ?_
        rw [HV.out]
        rintro e' Wsh ⟨rfl, hb⟩
        have HB_sh := Lib.hid (bt HB_s.out hb)
        have G_sh := Lib.hid (G_s.out.below hb)
        have C_sh := Lib.hid (C_s.out.below hb)
        have X_sh := Lib.hid (X_s.out.below hb)
        have M_sh := Lib.hid (M_s.out.below hb)
        have B_sh := Lib.hid (B_s.out.below hb)
        clear hb
        go_wp2_with fail
        refine hK.out _ _ (show _ from ⟨G_sh.out, X_sh.out⟩) (fun hHeld => ?_)
        clear hK K
        try simp only [Act.put, List.getElem_toArray, List.getElem_cons_succ, List.getElem_cons_zero, List.setIfInBounds_toArray, List.set_cons_zero, List.set_cons_succ]
        refine wpAnyH_done (by kernel_rfl) ?_ _
        clear hHeld
        obtain ⟨D, hown, hism, hat⟩ := M_sh.out
        have HIS := Lib.hid (And.intro hism hat)
        have hcell : Wsh.cell? ⟨sb, so + k, none⟩ = some (.int .i64 x) := X_sh.out
        clear hism hat
        go_wp2_with (first
          | (at_mapUpdate
             refine wpList_mapUpdate_own _ rfl _ _ _ 103 rfl 3 20 Try.keyedI Try.underlying103 rcR (w.heap.size + 1) k D rfl hown (by unfold maxLen; omega) _ _ (.int .i64 z) rfl rfl (key_small (by omega) (by omega)) (dat true x) [] (rcR_right x) ?_
             intro w1 hown1 hgrow1
             have HR1 := Lib.hid (show RC P Q G cs zs ss (w.heap.size + 1) w1 (k + 1) from rc_step HIS.out.1 HIS.out.2 HND.out hkn (by rw [HD.out, hzv]; exact hown1))
             have hm1 : Mid (w.heap.size + 1) (w.heap.size + 1 + 1) Wsh w1 := Mid.grown hgrow1 (fun q hq => by cases hq; omega)
             have HG1 := Lib.hid (gr_midR G_sh.out hm1 (Nat.lt_succ_self _))
             have HB1 := Lib.hid (B_sh.out.trans (hm1.toBelow (by omega) B_sh.out.size))
             clear hown1 hgrow1 hm1)
          | fail)
        go_roundw
        case rel => exact ⟨k + 1, by omega, by go_num, HR1.out, HG1.out, HB1.out⟩
        case measure => simp only [intOf]; omega
    · obtain rfl : k = zs.length := by omega
      go_wp2
      go_ret
      exact ⟨_, rfl, M_0.out, HB_0.out⟩

/-! ### BadShares -/
def bdL (P Q G : Int) (cs ss : List Int) : Nat → List Int
  | 0 => []
  | k + 1 => if fitB P Q G cs ((k : Int) + 1) (ss.getD k 0) then bdL P Q G cs ss k else bdL P Q G cs ss k ++ [(k : Int) + 1]
theorem bdL_le (P Q G : Int) (cs ss : List Int) : ∀ k, (bdL P Q G cs ss k).length ≤ k
  | 0 => Nat.le_refl _
  | k + 1 => by
    have := bdL_le P Q G cs ss k
    rw [bdL]
    split
    · omega
    · simp; omega
theorem bdL_right {P Q G : Int} {cs ss : List Int} {k : Nat} {x : Int} (hx : ss.getD k 0 = x) (h : fitB P Q G cs ((k : Int) + 1) x = true) : bdL P Q G cs ss (k + 1) = bdL P Q G cs ss k := by rw [bdL, hx, h]; rfl
theorem bdL_wrong {P Q G : Int} {cs ss : List Int} {k : Nat} {x : Int} (hx : ss.getD k 0 = x) (h : fitB P Q G cs ((k : Int) + 1) x = false) : bdL P Q G cs ss (k + 1) = bdL P Q G cs ss k ++ [(k : Int) + 1] := by rw [bdL, hx, h]; rfl
def bsR (P Q G : Int) (cs ss : List Int) : List Int := if ivB P Q G cs ss then bdL P Q G cs ss ss.length else []
theorem ivB_facts {P Q G : Int} {cs ss : List Int} (h : ivB P Q G cs ss = true) : goodB P Q G = true ∧ 7 < Q ∧ allEl P Q cs = true ∧ cs.length ≤ 7 ∧ ss.length ≤ 7 ∧ ∀ s ∈ ss, 0 ≤ s ∧ s < Q := by
  simp only [ivB, Bool.and_eq_true] at h
  obtain ⟨h1, h2⟩ := h
  obtain ⟨h3, h4, h5⟩ := dlB_true.1 h2
  obtain ⟨_, h6, h7⟩ := cmsB_true.1 h3
  obtain ⟨h8, h9⟩ := shsB_true.1 h5
  exact ⟨(trB_of h1).1, (trB_of h1).2.2, h7, h6, h8, allIn_res7 h9⟩
theorem bsR_le (P Q G : Int) (cs ss : List Int) : (bsR P Q G cs ss).length ≤ 7 := by
  unfold bsR
  split
  · rename_i h; have := bdL_le P Q G cs ss ss.length; have := (ivB_facts h).2.2.2.2.1; omega
  · simp
theorem iota_getD {n k : Nat} (h : k < n) : (iota n).getD k 0 = (k : Int) + 1 := by rw [getD_in (by rw [iota_length]; exact h), iota_get]

set_option maxRecDepth 100000 in
set_option maxHeartbeats 3200000 in
theorem badShares_any (P Q G : Int) (ca sa : Option Addr) (cc sc : Nat) (cs ss : List Int) (hl : cs.length ≤ 1000000000000) (hl' : ss.length ≤ 1000000000000) {w : World} (hc : IsInts w ca cs) (hs : IsInts w sa ss) :
    Calls Try.prog 20 #[gv P Q G, .agg #[.slice ca cs.length cc, .slice sa ss.length sc]] w (AnsY w (bsR P Q G cs ss) (ivB P Q G cs ss)) := by
  have G_0 := Lib.hid ((gr_atS w w.heap.size rfl P Q G 24).below (ba (w.alloc (.cells #[.int .i64 P, .int .i64 Q, .int .i64 G] 24)) (.cells #[.slice ca cs.length cc, .slice sa ss.length sc] 42)))
  have D_0 := Lib.hid (v2_at (w.alloc (.cells #[.int .i64 P, .int .i64 Q, .int .i64 G] 24)) (w.heap.size + 1) (by simp) (.slice ca cs.length cc) (.slice sa ss.length sc) 42)
  have HB_0 := Lib.hid (show Below w.heap.size w ((w.alloc (.cells #[.int .i64 P, .int .i64 Q, .int .i64 G] 24)).alloc (.cells #[.slice ca cs.length cc, .slice sa ss.length sc] 42)) from bt (ba _ _) (ba _ _))
  have C_0 := Lib.hid (LZ.below hc HB_0.out)
  have T_0 := Lib.hid (LZ.below hs HB_0.out)
  clear hc hs
  cases h0 : ivB P Q G cs ss
  · have K0 := Lib.hid (show ivB P Q G cs ss = false from h0)
    have E2 := Lib.hid (show bsR P Q G cs ss = [] by simp [bsR, h0])
    rw [E2.out]
    clear h0
    obtain ⟨gG0, gG1, gG2⟩ := G_0.out
    obtain ⟨dD0, dD1, _⟩ := D_0.out
    go_enter Try.func20, Try.ntmps20
    go_wp2_with fail
    refine (isValidDealing_any P Q G ca sa cc sc cs ss hl hl' C_0.out T_0.out).mono ?_
    rw [K0.out]
    rintro e v1 ⟨rfl, hb⟩
    have HB_1 := Lib.hid (bt HB_0.out hb)
    have G_1 := Lib.hid (G_0.out.below hb)
    have D_1 := Lib.hid (D_0.out.below hb)
    have C_1 := Lib.hid (C_0.out.below hb)
    have T_1 := Lib.hid (T_0.out.below hb)
    clear hb gG0 gG1 gG2 dD0 dD1
    obtain ⟨gG0, gG1, gG2⟩ := G_1.out
    obtain ⟨dD0, dD1, _⟩ := D_1.out
    go_wp2
    go_ret2
    exact ⟨_, rfl, owI_nil _ _ HB_1.out.size, HB_1.out⟩
  have K0 := Lib.hid (show ivB P Q G cs ss = true from h0)
  obtain ⟨hgd, hq7, hce, hc7, hs7, hsr⟩ := ivB_facts h0
  have E2 := Lib.hid (show bsR P Q G cs ss = bdL P Q G cs ss ss.length by simp [bsR, h0])
  rw [E2.out]
  have HGD := Lib.hid hgd
  have HCE := Lib.hid hce
  have HSR := Lib.hid hsr
  obtain ⟨i0, hi, hy0, hy1, hy2⟩ := info_parts Try.info3
  clear h0 hgd hce hsr
  obtain ⟨gG0, gG1, gG2⟩ := G_0.out
  obtain ⟨dD0, dD1, _⟩ := D_0.out
  go_enter Try.func20, Try.ntmps20
  go_wp2_with fail
  refine (isValidDealing_any P Q G ca sa cc sc cs ss hl hl' C_0.out T_0.out).mono ?_
  rw [K0.out]
  rintro e v1 ⟨rfl, hb⟩
  have HB_1 := Lib.hid (bt HB_0.out hb)
  have G_1 := Lib.hid (G_0.out.below hb)
  have D_1 := Lib.hid (D_0.out.below hb)
  have C_1 := Lib.hid (C_0.out.below hb)
  have T_1 := Lib.hid (T_0.out.below hb)
  clear hb gG0 gG1 gG2 dD0 dD1
  obtain ⟨gG0, gG1, gG2⟩ := G_1.out
  obtain ⟨dD0, dD1, _⟩ := D_1.out
  go_wp2_with fail
  refine (firstTrustees_any ss.length (by omega) _).mono ?_
  rintro e W1 ⟨g, rfl, hown, hb⟩
  have HI1 := Lib.hid (show LZ W1 (some ⟨g, 0, none⟩) (iota ss.length) from LZ_own hown)
  have G_a := Lib.hid (G_1.out.below hb)
  have D_a := Lib.hid (D_1.out.below hb)
  have C_a := Lib.hid (C_1.out.below hb)
  have T_a := Lib.hid (T_1.out.below hb)
  have HB_a := Lib.hid (bt HB_1.out hb)
  clear hown hb gG0 gG1 gG2 dD0 dD1
  obtain ⟨gG0, gG1, gG2⟩ := G_a.out
  obtain ⟨dD0, dD1, _⟩ := D_a.out
  go_wp2_with fail
  refine (receive_any P Q G HGD.out ca (some ⟨g, 0, none⟩) sa cc ss.length sc cs (iota ss.length) ss (by omega) HCE.out (fun z hz => by have := iota_mem.1 hz; omega) (iota_nodup _) HSR.out (iota_length _).symm (by rw [iota_length]; exact hs7) ss.length (iota_length _) C_a.out HI1.out T_a.out).mono ?_
  rintro e wq ⟨m, rfl, hrc, hb⟩
  rw [iota_length] at hrc
  have HRC := Lib.hid hrc
  have HIq := Lib.hid (HI1.out.below hb)
  have HBq := Lib.hid (bt HB_a.out hb)
  clear hrc hb gG0 gG1 gG2 dD0 dD1
  go_wp2_with fail
  go_loopw [8, 10, 11, 12, 30] (fun V _ _ _ K wr => ∃ (k : Nat) (va : Option Addr) (vc : Nat), k ≤ ss.length ∧ V = .slice va (bdL P Q G cs ss k).length vc ∧ K = .int .i64 k ∧ wr.ownsRow wq.heap.size 3 1 (.slice va (bdL P Q G cs ss k).length vc) (bdL P Q G cs ss k).length ((bdL P Q G cs ss k).map (Value.int .i64)) ∧ Below wq.heap.size wq wr) (fun _ _ _ _ K _ => ss.length - (intOf K).toNat)
  case atStart => exact ⟨0, none, 0, Nat.zero_le _, rfl, rfl, World.ownsRow_nil _ _ _ _, Below.refl _ _⟩
  case round =>
    obtain ⟨k, va, vc, hk, rfl, rfl, hownr, hbel⟩ := hrel
    have HO := Lib.hid hownr
    have HBr := Lib.hid hbel
    clear hownr hbel
    by_cases hkn : k < ss.length
    · obtain ⟨zb, zo, z, hze, hzb, hzx, hzd⟩ := (show IsInts wr (some ⟨g, 0, none⟩) (iota ss.length) from HIq.out.below HBr.out).at (k := k) (by rw [iota_length]; exact hkn)
      simp only [Option.some.injEq, Addr.mk.injEq, and_true] at hze
      obtain ⟨rfl, rfl⟩ := hze
      rw [Nat.zero_add] at hzx
      have hzv : z = (k : Int) + 1 := by obtain ⟨h1, h2⟩ := head_of_drop hzd; rw [← h2, iota_get]
      subst hzv
      obtain ⟨D, hown, hism, hat⟩ := HRC.out.below HBr.out
      have hatk := hat k hkn
      rw [iota_getD hkn] at hatk
      obtain ⟨x, hx⟩ : ∃ x, ss.getD k 0 = x := ⟨_, rfl⟩
      rw [hx] at hatk
      obtain ⟨v, ps, hrun, hR⟩ := hown.lookup Try.keyedI Try.underlying103 (zero_any wr) (show rcR .nilIface = some (.nil, []) from rfl) (key_small (z := (k : Int) + 1) (by omega) (by omega))
      rw [hatk] at hR
      have hv := rcR_inv hR
      clear hown hism hat hatk hR hzd
      cases hf : fitB P Q G cs ((k : Int) + 1) x
      · rw [hf] at hv
        simp only [if_false, Bool.false_eq_true] at hv
        subst hv
        have HBD := Lib.hid (bdL_wrong hx hf)
        have hta := ta_wrong x wr
        clear hf hx
        go_wp2_with (at_builtin
                     refine wpList_append_own _ rfl _ _ 29 rfl (wq.heap.size) 3 i0 (.int .i64 0) 1 8 Try.underlying29 hi hy0 hy1 hy2 rfl (by decide) _ _ _ rfl (HO.out.alloc _) ⟨wr.heap.size, 0, none⟩ 1 1 [.int .i64 ((k : Int) + 1)] rfl rfl ?c1 ?c2 ?c3 ?c4 ?c5 ?_)
        case c1 => exact cell_one_new _ _ _
        case c2 => intro u hu; simp at hu; subst hu; rfl
        case c3 => unfold maxLen; have := bdL_le P Q G cs ss k; omega
        case c4 => have := bdL_le P Q G cs ss k; omega
        case c5 => have := HBr.out.size; simp at *; omega
        intro v' w1 hown' hgrow _
        obtain ⟨va', vc', rfl⟩ := own_shape hown'
        have HO2 := Lib.hid hown'
        have HG2 := Lib.hid hgrow
        clear hown' hgrow
        go_wp2
        go_roundw
        case rel =>
          refine ⟨k + 1, va', vc', by omega, by rw [HBD.out]; simp, by go_num, ?_, ?_⟩
          · have h := HO2.out
            rw [HBD.out, List.map_append, List.length_append]
            simpa using h
          · exact (HBr.out.alloc HBr.out.size _).grown HG2.out (Nat.le_trans HBr.out.size (by simp)) (fun q hq => (HO.out.lt q hq).1)
        case measure => simp only [intOf]; omega
      · rw [hf] at hv
        simp only [if_true] at hv
        subst hv
        have HBD := Lib.hid (bdL_right hx hf)
        have hta := ta_right x wr
        clear hf hx
        go_wp2
        go_roundw
        case rel => exact ⟨k + 1, va, vc, by omega, by rw [HBD.out], by go_num, by rw [HBD.out]; exact HO.out, HBr.out⟩
        case measure => simp only [intOf]; omega
    · obtain rfl : k = ss.length := by omega
      go_wp2
      go_ret2
      exact ⟨_, rfl, (show OwI wq.heap.size wr.heap.size wr _ _ from owI_mk HO.out HBr.out.size).wide HBq.out.size (Nat.le_refl _) (Nat.le_refl _), bt HBq.out HBr.out⟩

set_option maxRecDepth 100000 in
set_option maxHeartbeats 3200000 in
theorem sBad_any (P Q G : Int) (hg : goodB P Q G = true) (ca sa : Option Addr) (cc sc : Nat) (cs ss : List Int) (hl : cs.length ≤ 1000000) (hce : allEl P Q cs = true) (hs7 : ss.length ≤ 7) (hsr : ∀ s ∈ ss, 0 ≤ s ∧ s < Q) {w : World} (hc : IsInts w ca cs) (hs : IsInts w sa ss) :
    Calls Try.prog 96 #[gv P Q G, .agg #[.slice ca cs.length cc, .slice sa ss.length sc]] w (MadeI w (bdL P Q G cs ss ss.length)) := by
  have HGD := Lib.hid hg
  have HCE := Lib.hid hce
  have HSR := Lib.hid hsr
  obtain ⟨i0, hi, hy0, hy1, hy2⟩ := info_parts Try.info3
  have G_0 := Lib.hid ((gr_atS w w.heap.size rfl P Q G 24).below (ba (w.alloc (.cells #[.int .i64 P, .int .i64 Q, .int .i64 G] 24)) (.cells #[.slice ca cs.length cc, .slice sa ss.length sc] 42)))
  have D_0 := Lib.hid (v2_at (w.alloc (.cells #[.int .i64 P, .int .i64 Q, .int .i64 G] 24)) (w.heap.size + 1) (by simp) (.slice ca cs.length cc) (.slice sa ss.length sc) 42)
  have HB_0 := Lib.hid (show Below w.heap.size w ((w.alloc (.cells #[.int .i64 P, .int .i64 Q, .int .i64 G] 24)).alloc (.cells #[.slice ca cs.length cc, .slice sa ss.length sc] 42)) from bt (ba _ _) (ba _ _))
  have C_0 := Lib.hid (LZ.below hc HB_0.out)
  have T_0 := Lib.hid (LZ.below hs HB_0.out)
  clear hc hs
  clear hg hce hsr
  obtain ⟨gG0, gG1, gG2⟩ := G_0.out
  obtain ⟨dD0, dD1, _⟩ := D_0.out
  go_enter Try.func96, Try.ntmps96
  go_wp2_with fail
  clear gG0 gG1 gG2 dD0 dD1
  obtain ⟨W, hW⟩ : ∃ W, ((w.alloc (.cells #[.int .i64 P, .int .i64 Q, .int .i64 G] 24)).alloc (.cells #[.slice ca cs.length cc, .slice sa ss.length sc] 42)) = W := ⟨_, rfl⟩
  rw [hW] at G_0 D_0 C_0 T_0 HB_0
  rw [hW]
  clear hW
  go_loopw [5, 6, 7, 11] (fun V _ _ K wr => ∃ (k : Nat) (va : Option Addr) (vc : Nat), k ≤ ss.length ∧ V = .slice va (bdL P Q G cs ss k).length vc ∧ K = .int .i64 k ∧ wr.ownsRow W.heap.size 3 1 (.slice va (bdL P Q G cs ss k).length vc) (bdL P Q G cs ss k).length ((bdL P Q G cs ss k).map (Value.int .i64)) ∧ Below W.heap.size W wr) (fun _ _ _ K _ => ss.length - (intOf K).toNat)
  case atStart => exact ⟨0, none, 0, Nat.zero_le _, rfl, rfl, World.ownsRow_nil _ _ _ _, Below.refl _ _⟩
  case round =>
    obtain ⟨k, va, vc, hk, rfl, rfl, hownr, hbel⟩ := hrel
    have HOr := Lib.hid hownr
    have HBe := Lib.hid hbel
    have HGr := Lib.hid (G_0.out.below hbel)
    have HDr := Lib.hid (D_0.out.below hbel)
    have HCr := Lib.hid (C_0.out.below hbel)
    have HTr := Lib.hid (T_0.out.below hbel)
    clear hownr hbel
    by_cases hkn : k < ss.length
    · obtain ⟨sb, so, x, rfl, hsb, hsx, hsd⟩ := (show IsInts wr sa ss from HTr.out).at (k := k) hkn
      have hxr := HSR.out x (mem_drop hsd)
      have hx : ss.getD k 0 = x := by obtain ⟨h1, h2⟩ := head_of_drop hsd; rw [getD_in h1]; exact h2
      have hw1 : IntKind.i64.wrap ((k : Int) + 1) = (k : Int) + 1 := by rw [IntKind.wrap_i64]; omega
      obtain ⟨gG0, gG1, gG2⟩ := HGr.out
      obtain ⟨dD0, dD1, _⟩ := HDr.out
      clear hsd
      cases hf : fitB P Q G cs ((k : Int) + 1) x
      · have HV := Lib.hid hf
        have HBD := Lib.hid (bdL_wrong hx hf)
        clear hf hx
        go_wp2_with fail
        refine (sFits_any P Q G ((k : Int) + 1) x HGD.out (by omega) (by omega) hxr ca cs.length cc cs rfl (by omega) HCE.out _ HCr.out).mono ?_
        rw [HV.out]
        rintro e wf ⟨rfl, hbf⟩
        have HO := Lib.hid (own_below HOr.out hbf)
        have HBr := Lib.hid (HBe.out.trans (hbf.mono HBe.out.size))
        clear hbf gG0 gG1 gG2 dD0 dD1 hsx
        go_wp2_with (at_builtin
                     refine wpList_append_own _ rfl _ _ 29 rfl (W.heap.size) 3 i0 (.int .i64 0) 1 8 Try.underlying29 hi hy0 hy1 hy2 rfl (by decide) _ _ _ rfl (HO.out.alloc _) ⟨wf.heap.size, 0, none⟩ 1 1 [.int .i64 ((k : Int) + 1)] rfl rfl ?c1 ?c2 ?c3 ?c4 ?c5 ?_)
        case c1 => exact cell_one_new _ _ _
        case c2 => intro u hu; simp at hu; subst hu; rfl
        case c3 => unfold maxLen; have := bdL_le P Q G cs ss k; omega
        case c4 => have := bdL_le P Q G cs ss k; omega
        case c5 => have := HBr.out.size; simp at *; omega
        intro v' w1 hown' hgrow _
        obtain ⟨va', vc', rfl⟩ := own_shape hown'
        have HO2 := Lib.hid hown'
        have HG2 := Lib.hid hgrow
        clear hown' hgrow
        go_wp2
        go_roundw
        case rel =>
          refine ⟨k + 1, va', vc', by omega, by rw [HBD.out]; simp, by go_num, ?_, ?_⟩
          · have h := HO2.out
            rw [HBD.out, List.map_append, List.length_append]
            simpa using h
          · exact (HBr.out.alloc HBr.out.size _).grown HG2.out (Nat.le_trans HBr.out.size (by simp)) (fun q hq => (HO.out.lt q hq).1)
        case measure => simp only [intOf]; omega
      · have HV := Lib.hid hf
        have HBD := Lib.hid (bdL_right hx hf)
        clear hf hx
        go_wp2_with fail
        refine (sFits_any P Q G ((k : Int) + 1) x HGD.out (by omega) (by omega) hxr ca cs.length cc cs rfl (by omega) HCE.out _ HCr.out).mono ?_
        rw [HV.out]
        rintro e wf ⟨rfl, hbf⟩
        have HO := Lib.hid (own_below HOr.out hbf)
        have HBr := Lib.hid (HBe.out.trans (hbf.mono HBe.out.size))
        clear hbf gG0 gG1 gG2 dD0 dD1 hsx
        go_wp2
        go_roundw
        case rel => exact ⟨k + 1, va, vc, by omega, by rw [HBD.out], by go_num, by rw [HBD.out]; exact HO.out, HBr.out⟩
        case measure => simp only [intOf]; omega
    · obtain rfl : k = ss.length := by omega
      go_wp2
      go_ret
      exact ⟨_, rfl, (show OwI W.heap.size wr.heap.size wr _ _ from owI_mk HOr.out HBe.out.size).wide HB_0.out.size (Nat.le_refl _) (Nat.le_refl _), bt HB_0.out HBe.out⟩

theorem badShares_ans (P Q G : Int) {B : Nat} {v : Value} {d : DlD} (hl : d.n ≤ 1048576) {w : World} (h : InD B w v d) :
    Calls Try.prog 20 #[gv P Q G, v] w (AnsY w (bsR P Q G d.c d.s) (ivB P Q G d.c d.s)) := by
  obtain ⟨a, a', b, b', rfl, h1, h2⟩ := h.shape
  unfold DlD.n at hl
  exact badShares_any P Q G a b a' b' d.c d.s (by omega) (by omega) (inI_ints h1) (inI_ints h2)

end Go.Proofs.Ytchlnkdlnfjijaa

