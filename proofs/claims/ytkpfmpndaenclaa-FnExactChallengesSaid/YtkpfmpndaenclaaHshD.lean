/- Challenge of the program and of the reference. -/
import Derived.Test.YtkpfmpndaenclaaHshC
import Derived.Test.YtkpfmpndaenclaaG1
import Derived.Deep.RegionHeld3
import Derived.Deep.RegionLaw
namespace Go.Proofs.Ytkpfmpndaenclaa
open Go.RowKit

/-- A slice of integers is appended to a row of the call's own, within a region whose order is open; the slice may be nil. -/
theorem step_append_ints {P : Program} {w : World} {ops : Array Oper} {o : Oper} {a : Act} {K : Act → World → Prop} {Q : Exit → Act → World → Prop} {E : Prop} (hgd : o.guard = none) (s x : Operand) (t : TypeId)
    (ho : o.op = .call { callee := .builtin .append, args := #[s, x], argTypes := #[t, t] })
    (base : Nat) (e : TypeId) (i : TypeInfo) (ht : P.underlying t = some (.slice e)) (hi : P.info? e = some i) (hz : i.zero = some (.int .i64 0))
    (hsize : i.size = 1) (hby : i.bytes = 8)
    (v : Value) (n : Nat) (xs : List Int) (hs : a.eval s = v) (hown : w.ownsRow base e 1 v n (xs.map (Value.int .i64)))
    (ad : Option Addr) (m c : Nat) (zs : List Int) (hx : a.eval x = .slice ad m c) (hm : zs.length = m) (hsrc : IsInts w ad zs) (hnil : ad = none → c = 0)
    (h63 : n + m ≤ 1000000000000) (hbase : base ≤ w.heap.size)
    (h : ∀ v' w', w'.ownsRow base e 1 v' (n + m) ((xs ++ zs).map (Value.int .i64)) → w.grownBy w' v.ownBlock → K (a.put o.dst v') w') :
    if Region.wanted o (yielded ops a.tmps) = true then Oper.wp P o a w K Q else E := by
  have hw : Region.wanted o (yielded ops a.tmps) = true := by simp [Region.wanted, hgd]
  rw [if_pos hw]
  cases ad with
  | none =>
    obtain rfl := hnil rfl
    have hz0 : zs = [] := by
      rcases hsrc with h0 | ⟨b, off, h1, _⟩
      · exact h0
      · cases h1
    subst hz0
    simp at hm
    subst hm
    have hrun := run_append_owned_none (P := P) (w := w) base t o.type e i 1 ht hi v n (xs.map (Value.int .i64)) hown
    unfold Oper.wp
    simp [execOp, ho, resolve, invoke, builtin, hs, hx, hrun, Result.andThen]
    exact h v w (by simpa using hown) (World.grownBy.refl _ _)
  | some ad =>
    refine wp_append_own w s x t ho base e i (.int .i64 0) 1 8 ht hi hz hsize hby rfl (by decide) v n (xs.map (Value.int .i64)) hs hown ad m c (zs.map (Value.int .i64)) hx (by simp [hm]) ?_ (ints_oneCell .i64 zs) (by unfold maxLen; omega) (by omega) hbase ?_
    · intro j u hj
      rcases hsrc with rfl | ⟨b, off, h1, _, hc⟩
      · simp at hj
      · obtain rfl := Option.some.inj h1
        have hjl : j < zs.length := by
          have := (List.getElem?_eq_some_iff.1 hj).1
          simpa using this
        have e1 : (⟨b, off, none⟩ : Addr).add j = ⟨b, off + j, none⟩ := by
          unfold Addr.add; split
          · subst_vars; rfl
          · rfl
        rw [e1, hc j hjl]
        simp [hjl] at hj ⊢
        exact hj
    · intro v' w' h1 h2 _
      refine h v' w' ?_ h2
      rw [List.map_append]
      exact h1

/-! ### The plain facts -/
def chB (P Q G : Int) (s : ByteArray) (zs : List Int) (m : Int) : Bool := goodB P Q G && hashL s zs m
def chX (P Q G : Int) (s : ByteArray) (zs : List Int) : Int := hlab s (P :: Q :: G :: zs) % Q
def chV (P Q G : Int) (s : ByteArray) (zs : List Int) : Int := if chB P Q G s zs 3 then chX P Q G s zs else 0
theorem chB_true {P Q G : Int} {s : ByteArray} {zs : List Int} {m : Int} : chB P Q G s zs m = true ↔ goodB P Q G = true ∧ labB s (zs.length + m) = true ∧ digsB zs = true := by
  unfold chB; rw [Bool.and_eq_true, hashL_true]
/-- The state behind the group's three numbers. -/
def gst (c i : Int) (P Q G : Int) (s : ByteArray) (n : Int) : Int := hfold c (hst c i s (3 + n)) [P, Q, G]
theorem hb_gst (P Q G : Int) (s : ByteArray) (n : Int) : HB2 (gst 48271 1 P Q G s n) (gst 69621 2 P Q G s n) := hb_fold _ _ _ _ _ _ (hb_st _ _ _ _)
theorem hlab_gst (P Q G : Int) (s : ByteArray) (zs : List Int) : hlab s (P :: Q :: G :: zs) = 2147483648 * hfold 48271 (gst 48271 1 P Q G s zs.length) zs + hfold 69621 (gst 69621 2 P Q G s zs.length) zs := by
  rw [hlab_eq]
  have e : ((P :: Q :: G :: zs).length : Int) = 3 + zs.length := by simp; omega
  rw [e]; rfl
theorem good_rng {P Q G : Int} (h : goodB P Q G = true) : (0 ≤ P ∧ P ≤ 2000000000) ∧ (2 ≤ Q ∧ Q ≤ 2000000000) ∧ 0 ≤ G ∧ G ≤ 2000000000 := by
  have := goodB_true.1 h
  omega
theorem hdig_nn {s t : Int} (h : HB2 s t) : 0 ≤ 2147483648 * s + t ∧ 2147483648 * s + t ≤ 4611686018427387903 := by
  obtain ⟨⟨h1, h2⟩, h3, h4⟩ := h
  omega
theorem gr_dr {w : World} {b : Nat} {P Q G : Int} (h : GR w b P Q G) : w.drew.cell? ⟨b, 0, none⟩ = some (.int .i64 P) ∧ w.drew.cell? ⟨b, 1, none⟩ = some (.int .i64 Q) ∧ w.drew.cell? ⟨b, 2, none⟩ = some (.int .i64 G) := h
theorem gr_alc {w : World} {b : Nat} {P Q G : Int} (h : GR w b P Q G) (o : Obj) : (w.alloc o).cell? ⟨b, 0, none⟩ = some (.int .i64 P) ∧ (w.alloc o).cell? ⟨b, 1, none⟩ = some (.int .i64 Q) ∧ (w.alloc o).cell? ⟨b, 2, none⟩ = some (.int .i64 G) := h.below (ba w o)
theorem gr_alcd {w : World} {b : Nat} {P Q G : Int} (h : GR w b P Q G) (o : Obj) : (w.alloc o).drew.cell? ⟨b, 0, none⟩ = some (.int .i64 P) ∧ (w.alloc o).drew.cell? ⟨b, 1, none⟩ = some (.int .i64 Q) ∧ (w.alloc o).drew.cell? ⟨b, 2, none⟩ = some (.int .i64 G) := GR.drew (h.below (ba w o))
theorem HS.drew {w : World} {b : Nat} {s t : Int} (h : HS w b s t) : HS w.drew b s t := h
theorem gr_two {w : World} {b c : Nat} {P Q G : Int} (h : GR w b P Q G) (hne : c ≠ b) (x y : Value) :
    ((w.setCell ⟨c, 0, none⟩ x).setCell ⟨c, 1, none⟩ y).cell? ⟨b, 0, none⟩ = some (.int .i64 P) ∧ ((w.setCell ⟨c, 0, none⟩ x).setCell ⟨c, 1, none⟩ y).cell? ⟨b, 1, none⟩ = some (.int .i64 Q) ∧ ((w.setCell ⟨c, 0, none⟩ x).setCell ⟨c, 1, none⟩ y).cell? ⟨b, 2, none⟩ = some (.int .i64 G) := by
  have ne : ∀ i j, (⟨c, i, none⟩ : Addr) ≠ ⟨b, j, none⟩ := fun i j e => hne (by simpa using congrArg Addr.block e)
  obtain ⟨c0, c1, c2⟩ := h
  refine ⟨?_, ?_, ?_⟩
  · rw [World.cell?_setCell_other _ _ _ _ (ne _ _), World.cell?_setCell_other _ _ _ _ (ne _ _)]; exact c0
  · rw [World.cell?_setCell_other _ _ _ _ (ne _ _), World.cell?_setCell_other _ _ _ _ (ne _ _)]; exact c1
  · rw [World.cell?_setCell_other _ _ _ _ (ne _ _), World.cell?_setCell_other _ _ _ _ (ne _ _)]; exact c2

/-! ### The program -/
set_option maxHeartbeats 1600000 in
theorem canChallenge_any (P Q G : Int) (s : ByteArray) (hs : s.size ≤ 1048576) (ad : Option Addr) (n cap : Nat) (zs : List Int) (hn : zs.length = n) (hl : n ≤ 1000000000000) (m : Int) (m0 : 0 ≤ m) (m1 : m ≤ 1000) (w : World) (hz : IsInts w ad zs) :
    Calls Try.prog 95 #[gv P Q G, .string s, .slice ad n cap, .int .i64 m] w fun e w' => e = .returned (.bool (chB P Q G s zs (3 + m))) ∧ Below w.heap.size w w' := by
  have hn0 : 0 ≤ (n : Int) ∧ (n : Int) ≤ 1000000000000 := by omega
  obtain ⟨n0, n1⟩ := hn0
  have el : labB s (zs.length + (3 + m)) = labB s (3 + n + m) := by
    congr 1; omega
  have HZ := Lib.hid (hz.below (ba w (.cells #[.int .i64 P, .int .i64 Q, .int .i64 G] 24)) (Nat.le_refl _))
  have HN := Lib.hid hn
  clear hn hz
  cases hg : goodB P Q G
  · have e1 : chB P Q G s zs (3 + m) = false := by simp [chB, hg]
    rw [e1]
    have HG := Lib.hid hg
    clear hg e1 el
    go_enter Try.func95, Try.ntmps95
    go_wp2_with fail
    refine (isValidGroup_any P Q G _).mono ?_
    rw [HG.out]
    rintro e w1 ⟨rfl, hb1⟩
    have HB1 := Lib.hid (bt (ba _ _) hb1)
    clear hb1
    go_wp2
    go_ret
    exact ⟨rfl, HB1.out⟩
  cases hb : labB s (3 + n + m)
  · have e1 : chB P Q G s zs (3 + m) = false := by rw [← Bool.not_eq_true, chB_true, el, hb]; simp
    rw [e1]
    have HG := Lib.hid hg
    have HL := Lib.hid hb
    clear hg e1 el hb
    go_enter Try.func95, Try.ntmps95
    go_wp2_with fail
    refine (isValidGroup_any P Q G _).mono ?_
    rw [HG.out]
    rintro e w1 ⟨rfl, hb1⟩
    have HB1 := Lib.hid (bt (ba _ _) hb1)
    clear hb1
    go_wp2_with fail
    refine (canHash_any s _ hs (by omega) (by omega) _).mono ?_
    rw [HL.out]
    rintro e w' ⟨rfl, rfl⟩
    go_wp2
    go_ret
    exact ⟨rfl, HB1.out⟩
  have e1 : chB P Q G s zs (3 + m) = digsB zs := by
    rw [Bool.eq_iff_iff, chB_true, el, hb, hg]; simp
  rw [e1]
  have HG := Lib.hid hg
  have HL := Lib.hid hb
  clear hg e1 el hb
  go_enter Try.func95, Try.ntmps95
  go_wp2_with fail
  refine (isValidGroup_any P Q G _).mono ?_
  rw [HG.out]
  rintro e w1 ⟨rfl, hb1⟩
  have HB1 := Lib.hid (bt (ba _ _) hb1)
  have HZ1 := Lib.hid (HZ.out.below hb1 (Nat.le_refl _))
  clear hb1
  go_wp2_with fail
  refine (canHash_any s _ hs (by omega) (by omega) _).mono ?_
  rw [HL.out]
  rintro e w' ⟨rfl, rfl⟩
  go_wp2_with fail
  refine (areDigests_any _ _ _ zs HN.out (by omega) _ HZ1.out).mono ?_
  rintro e w' ⟨rfl, rfl⟩
  go_wp2
  go_ret
  exact ⟨rfl, HB1.out⟩

end Go.Proofs.Ytkpfmpndaenclaa
