/- Contracts of the small functions of layer 2: elements, exponents, groups. -/
import Derived.Test.YtdnofcpobpoehaaPrime
import Derived.Test.YtdnofcpobpoehaaBas
import Derived.Laws.ResultCell
namespace Go.Proofs.Ytdnofcpobpoehaa
open Go.RowKit

/-- A group as the walk holds it. -/
abbrev gv (P Q G : Int) : Value := .agg #[.int .i64 P, .int .i64 Q, .int .i64 G]

/-- A group lies in block b: a parameter whose fields are read lies so. -/
def GR (w : World) (b : Nat) (P Q G : Int) : Prop := w.cell? ⟨b, 0, none⟩ = some (.int .i64 P) ∧ w.cell? ⟨b, 1, none⟩ = some (.int .i64 Q) ∧ w.cell? ⟨b, 2, none⟩ = some (.int .i64 G)
theorem gr_new (w : World) (P Q G : Int) (t : TypeId) : GR (w.alloc (.cells #[.int .i64 P, .int .i64 Q, .int .i64 G] t)) w.heap.size P Q G := by
  refine ⟨?_, ?_, ?_⟩ <;> (rw [World.cell?_alloc_at _ _ _ _ rfl]; rfl)
theorem GR.drew {w : World} {b : Nat} {P Q G : Int} (h : GR w b P Q G) : GR w.drew b P Q G := h
theorem GR.lt {w : World} {b : Nat} {P Q G : Int} (h : GR w b P Q G) : b < w.heap.size := World.block_lt_of_cell? w _ h.1
theorem GR.below {w w' : World} {b : Nat} {P Q G : Int} (h : GR w b P Q G) (hb : Below w.heap.size w w') : GR w' b P Q G := by
  have hl := h.lt
  refine ⟨?_, ?_, ?_⟩
  · rw [hb.cell (p := ⟨b, 0, none⟩) hl]; exact h.1
  · rw [hb.cell (p := ⟨b, 1, none⟩) hl]; exact h.2.1
  · rw [hb.cell (p := ⟨b, 2, none⟩) hl]; exact h.2.2

/-- An element: a residue from 1 on whose power with Q is 1. -/
def elB (P Q x : Int) : Bool := decide (1 ≤ x) && decide (x < P) && decide (Num.pow x Q P = 1)
theorem elB_true {P Q x : Int} : elB P Q x = true ↔ (1 ≤ x ∧ x < P) ∧ Num.pow x Q P = 1 := by simp [elB]
theorem elB_out {P Q x : Int} (h : x < 1 ∨ P ≤ x) : elB P Q x = false := by
  rw [← Bool.not_eq_true, elB_true]; omega

/-- A group's moduli are within bounds: what every function on an element needs. -/
def Mo (P Q : Int) : Prop := (2 ≤ P ∧ P ≤ 2000000000) ∧ 0 ≤ Q ∧ Q ≤ 2000000000

theorem pow_lt (a e m : Int) (h : 2 ≤ m) : 0 ≤ Num.pow a e m ∧ Num.pow a e m < m := by
  unfold Num.pow
  rw [Num.pw_eq _ _ _ _ (by omega)]
  have := Nat.mod_lt (1 * a.toNat ^ e.toNat) (show m.toNat > 0 by omega)
  omega

theorem power_ex (P Q G x e : Int) (h1 : 0 ≤ x) (h2 : x ≤ 2000000000) (h3 : 0 ≤ e) (h4 : e ≤ 4000000000) (h5 : 2 ≤ P) (h6 : P ≤ 2000000000) (w : World) :
    Calls Try.prog 132 #[gv P Q G, .int .i64 x, .int .i64 e] w fun e' w' => e' = .returned (.int .i64 (Num.pow x e P)) ∧ w' = w.alloc (.cells #[.int .i64 P, .int .i64 Q, .int .i64 G] 29) := by
  go_enter Try.func132, Try.ntmps132
  go_wp2_with (go_at_call 161; refine (raise_any _ _ _ h1 h2 h3 h4 h5 h6 _).mono ?_; rintro e w' ⟨rfl, rfl⟩)
  go_ret
  exact ⟨rfl, rfl⟩

theorem power_any (P Q G x e : Int) (h1 : 0 ≤ x) (h2 : x ≤ 2000000000) (h3 : 0 ≤ e) (h4 : e ≤ 4000000000) (h5 : 2 ≤ P) (h6 : P ≤ 2000000000) (w : World) :
    Calls Try.prog 132 #[gv P Q G, .int .i64 x, .int .i64 e] w fun e' w' => e' = .returned (.int .i64 (Num.pow x e P)) ∧ Below w.heap.size w w' := by
  go_enter Try.func132, Try.ntmps132
  go_wp2_with (go_at_call 161; refine (raise_any _ _ _ h1 h2 h3 h4 h5 h6 _).mono ?_; rintro e w' ⟨rfl, rfl⟩)
  go_ret
  exact ⟨rfl, ba _ _⟩

theorem hasElement_any (P Q G x : Int) (hm : Mo P Q) (w : World) :
    Calls Try.prog 90 #[gv P Q G, .int .i64 x] w fun e w' => e = .returned (.bool (elB P Q x)) ∧ Below w.heap.size w w' := by
  obtain ⟨⟨hp0, hp1⟩, hq0, hq1⟩ := hm
  by_cases h1 : 1 ≤ x
  · by_cases h2 : x < P
    · have e1 : elB P Q x = (Num.pow x Q P == 1) := by
        unfold elB; rw [decide_eq_true h1, decide_eq_true h2]; simp [Bool.beq_eq_decide_eq]
      rw [e1]
      clear e1
      go_enter Try.func90, Try.ntmps90
      go_wp2_with fail
      refine (power_any _ _ _ _ _ (by omega) (by omega) (by omega) (by omega) (by omega) (by omega) _).mono ?_
      rintro e w1 ⟨rfl, hb1⟩
      have HB1 := Lib.hid (bt (ba _ _) hb1)
      clear hb1
      go_wp2
      go_ret
      exact ⟨rfl, HB1.out⟩
    · rw [elB_out (by omega)]
      go_enter Try.func90, Try.ntmps90
      go_wp2
      go_ret
      exact ⟨rfl, ba _ _⟩
  · rw [elB_out (by omega)]
    go_enter Try.func90, Try.ntmps90
    go_wp2
    go_ret
    exact ⟨rfl, ba _ _⟩

/-- A valid group. -/
def goodB (P Q G : Int) : Bool := inB P 3 2000000000 && inB Q 2 (P - 1) && decide ((P - 1) % Q = 0) && inB G 2 (P - 1) && decide (Num.pow G Q P = 1) && Num.prB Q && Num.prB P
theorem goodB_true {P Q G : Int} : goodB P Q G = true ↔ (3 ≤ P ∧ P ≤ 2000000000) ∧ (2 ≤ Q ∧ Q ≤ P - 1) ∧ (P - 1) % Q = 0 ∧ (2 ≤ G ∧ G ≤ P - 1) ∧ Num.pow G Q P = 1 ∧ Num.prB Q = true ∧ Num.prB P = true := by
  unfold goodB; simp only [Bool.and_eq_true, inB_true, decide_eq_true_eq, and_assoc]
theorem good_mo {P Q G : Int} (h : goodB P Q G = true) : Mo P Q := by
  have := goodB_true.1 h
  exact ⟨by omega, by omega⟩

theorem isPr_of {n : Int} (h : isPr n = true) : 2 ≤ n ∧ n ≤ 2000000000 ∧ Num.prB n = true := by
  have h' := h
  unfold isPr at h'
  rw [Bool.and_eq_true, inB_true] at h'
  refine ⟨?_, h'.1.2, h'.2⟩
  rcases Int.lt_or_le n 2 with h2 | h2
  · rw [prB_small h2] at h'; cases h'.2
  · exact h2
theorem isPr_mk {n : Int} (h1 : n ≤ 2000000000) (h2 : Num.prB n = true) : isPr n = true := by
  unfold isPr
  rw [Bool.and_eq_true, inB_true]
  refine ⟨⟨?_, h1⟩, h2⟩
  rcases Int.lt_or_le n 2 with h | h
  · rw [prB_small h] at h2; cases h2
  · omega

theorem mod_div {a q : Int} (ha : 0 < a) (h : a % q = 0) : q ≤ a := Int.le_of_dvd ha (Int.dvd_of_emod_eq_zero h)

set_option maxHeartbeats 1600000 in
theorem isValidGroup_any (P Q G : Int) (w : World) :
    Calls Try.prog 67 #[gv P Q G] w fun e w' => e = .returned (.bool (goodB P Q G)) ∧ Below w.heap.size w w' := by
  by_cases hP : 2000000000 < P
  · have hr : goodB P Q G = false := by rw [← Bool.not_eq_true, goodB_true]; omega
    rw [hr]
    clear hr
    go_enter Try.func67, Try.ntmps67
    go_wp2
    go_ret
    exact ⟨rfl, ba _ _⟩
  · cases hp : isPr P
    · have hr : goodB P Q G = false := by
        rw [← Bool.not_eq_true, goodB_true]
        intro h
        rw [isPr_mk h.1.2 h.2.2.2.2.2.2] at hp; cases hp
      rw [hr]
      have HP := Lib.hid hp
      clear hr hp
      go_enter Try.func67, Try.ntmps67
      go_wp2_with (go_at_call 115; refine (isPrimeB_any _ _).mono ?_; rintro e w' ⟨rfl, rfl⟩; rw [HP.out])
      go_ret
      exact ⟨rfl, ba _ _⟩
    · obtain ⟨hp2, hp3, hpr⟩ := isPr_of hp
      cases hq : isPr Q
      · have hr : goodB P Q G = false := by
          rw [← Bool.not_eq_true, goodB_true]
          intro h
          rw [isPr_mk (by omega) h.2.2.2.2.2.1] at hq; cases hq
        rw [hr]
        have HP := Lib.hid hp
        have HQ := Lib.hid hq
        clear hr hp hq hpr
        go_enter Try.func67, Try.ntmps67
        go_wp2_with fail
        refine (isPrimeB_any _ _).mono ?_; rintro e w' ⟨rfl, rfl⟩; rw [HP.out]
        go_wp2_with fail
        refine (isPrimeB_any _ _).mono ?_; rintro e w' ⟨rfl, rfl⟩; rw [HQ.out]
        go_wp2
        go_ret
        exact ⟨rfl, ba _ _⟩
      · obtain ⟨hq2, hq3, hqr⟩ := isPr_of hq
        have hmo : Mo P Q := ⟨by omega, by omega⟩
        by_cases hd : (P - 1) % Q = 0
        · have hqp : Q ≤ P - 1 := mod_div (by omega) hd
          have hdi : ((P - 1) % Q != 0) = false := by simp [hd]
          have HD := Lib.hid hdi
          by_cases hg1 : G = 1
          · have hr : goodB P Q G = false := by rw [← Bool.not_eq_true, goodB_true]; omega
            rw [hr]
            have hgi : (G != 1) = false := by simp [hg1]
            have HP := Lib.hid hp
            have HQ := Lib.hid hq
            clear hr hp hq hpr hqr hd hg1
            go_enter Try.func67, Try.ntmps67
            go_wp2_with fail
            refine (isPrimeB_any _ _).mono ?_; rintro e w' ⟨rfl, rfl⟩; rw [HP.out]
            go_wp2_with fail
            refine (isPrimeB_any _ _).mono ?_; rintro e w' ⟨rfl, rfl⟩; rw [HQ.out]
            go_wp2
            go_ret
            exact ⟨rfl, ba _ _⟩
          · have hr : goodB P Q G = elB P Q G := by
              rw [Bool.eq_iff_iff, goodB_true, elB_true]
              constructor
              · rintro ⟨_, _, _, h4, h5, _⟩; exact ⟨by omega, h5⟩
              · rintro ⟨h1, h2⟩; exact ⟨by omega, by omega, hd, by omega, h2, hqr, hpr⟩
            rw [hr]
            have hgi : (G != 1) = true := by simp [hg1]
            have HP := Lib.hid hp
            have HQ := Lib.hid hq
            clear hr hp hq hpr hqr hd hg1
            go_enter Try.func67, Try.ntmps67
            go_wp2_with fail
            refine (isPrimeB_any _ _).mono ?_; rintro e w' ⟨rfl, rfl⟩; rw [HP.out]
            go_wp2_with fail
            refine (isPrimeB_any _ _).mono ?_; rintro e w' ⟨rfl, rfl⟩; rw [HQ.out]
            go_wp2_with fail
            refine (hasElement_any _ _ _ _ hmo _).mono ?_
            rintro e w1 ⟨rfl, hb1⟩
            have HB1 := Lib.hid (bt (ba _ _) hb1)
            clear hb1
            go_wp2
            go_ret
            exact ⟨rfl, HB1.out⟩
        · have hr : goodB P Q G = false := by rw [← Bool.not_eq_true, goodB_true]; exact fun h => hd h.2.2.1
          rw [hr]
          have hdi : ((P - 1) % Q != 0) = true := by simp [hd]
          have HP := Lib.hid hp
          have HQ := Lib.hid hq
          clear hr hp hq hpr hqr hd
          go_enter Try.func67, Try.ntmps67
          go_wp2_with fail
          refine (isPrimeB_any _ _).mono ?_; rintro e w' ⟨rfl, rfl⟩; rw [HP.out]
          go_wp2_with fail
          refine (isPrimeB_any _ _).mono ?_; rintro e w' ⟨rfl, rfl⟩; rw [HQ.out]
          go_wp2
          go_ret
          exact ⟨rfl, ba _ _⟩

set_option maxHeartbeats 1600000 in
theorem l2Good_any (P Q G : Int) (w : World) :
    Calls Try.prog 78 #[gv P Q G] w fun e w' => e = .returned (.bool (goodB P Q G)) ∧ Below w.heap.size w w' := by
  cases h1 : inB P 3 2000000000
  · have hr : goodB P Q G = false := by unfold goodB; rw [h1]; rfl
    rw [hr]
    have H1 := Lib.hid h1
    clear hr h1
    go_enter Try.func78, Try.ntmps78
    go_wp2_with fail
    refine (l1In_any _ _ _ _).mono ?_; rintro e w' ⟨rfl, rfl⟩; rw [H1.out]
    go_wp2
    go_ret
    exact ⟨rfl, ba _ _⟩
  obtain ⟨p0, p1⟩ := inB_true.1 h1
  have H1 := Lib.hid h1
  cases h2 : inB Q 2 (P - 1)
  · have hr : goodB P Q G = false := by unfold goodB; rw [h1, h2]; rfl
    rw [hr]
    have H2 := Lib.hid h2
    clear hr h1 h2
    go_enter Try.func78, Try.ntmps78
    go_wp2_with fail
    refine (l1In_any _ _ _ _).mono ?_; rintro e w' ⟨rfl, rfl⟩; rw [H1.out]
    go_wp2_with fail
    refine (l1In_any _ _ _ _).mono ?_; rintro e w' ⟨rfl, rfl⟩; rw [H2.out]
    go_wp2
    go_ret
    exact ⟨rfl, ba _ _⟩
  obtain ⟨q0, q1⟩ := inB_true.1 h2
  have H2 := Lib.hid h2
  by_cases h3 : ¬ (P - 1) % Q = 0
  · have hr : goodB P Q G = false := by unfold goodB; rw [h1, h2, decide_eq_false h3]; rfl
    rw [hr]
    have hdi : ((P - 1) % Q == 0) = false := by simp [h3]
    clear hr h1 h2 h3
    go_enter Try.func78, Try.ntmps78
    go_wp2_with fail
    refine (l1In_any _ _ _ _).mono ?_; rintro e w' ⟨rfl, rfl⟩; rw [H1.out]
    go_wp2_with fail
    refine (l1In_any _ _ _ _).mono ?_; rintro e w' ⟨rfl, rfl⟩; rw [H2.out]
    go_wp2
    go_ret
    exact ⟨rfl, ba _ _⟩
  have h3 := Decidable.not_not.1 h3
  have hdi : ((P - 1) % Q == 0) = true := by simp [h3]
  cases h4 : inB G 2 (P - 1)
  · have hr : goodB P Q G = false := by unfold goodB; rw [h1, h2, decide_eq_true h3, h4]; rfl
    rw [hr]
    have H4 := Lib.hid h4
    clear hr h1 h2 h3 h4
    go_enter Try.func78, Try.ntmps78
    go_wp2_with fail
    refine (l1In_any _ _ _ _).mono ?_; rintro e w' ⟨rfl, rfl⟩; rw [H1.out]
    go_wp2_with fail
    refine (l1In_any _ _ _ _).mono ?_; rintro e w' ⟨rfl, rfl⟩; rw [H2.out]
    go_wp2_with fail
    refine (l1In_any _ _ _ _).mono ?_; rintro e w' ⟨rfl, rfl⟩; rw [H4.out]
    go_wp2
    go_ret
    exact ⟨rfl, ba _ _⟩
  obtain ⟨g0, g1⟩ := inB_true.1 h4
  have H4 := Lib.hid h4
  by_cases h5 : ¬ Num.pow G Q P = 1
  · have hr : goodB P Q G = false := by unfold goodB; rw [h1, h2, decide_eq_true h3, h4, decide_eq_false h5]; rfl
    rw [hr]
    have h5i : (Num.pow G Q P == 1) = false := by simp [h5]
    clear hr h1 h2 h3 h4 h5
    go_enter Try.func78, Try.ntmps78
    go_wp2_with fail
    refine (l1In_any _ _ _ _).mono ?_; rintro e w' ⟨rfl, rfl⟩; rw [H1.out]
    go_wp2_with fail
    refine (l1In_any _ _ _ _).mono ?_; rintro e w' ⟨rfl, rfl⟩; rw [H2.out]
    go_wp2_with fail
    refine (l1In_any _ _ _ _).mono ?_; rintro e w' ⟨rfl, rfl⟩; rw [H4.out]
    go_wp2_with fail
    refine (nPower_any _ _ _ (by omega) (by omega) (by omega) (by omega) (by omega) (by omega) _).mono ?_; rintro e w' ⟨rfl, rfl⟩
    go_wp2
    go_ret
    exact ⟨rfl, ba _ _⟩
  have h5 := Decidable.not_not.1 h5
  have h5i : (Num.pow G Q P == 1) = true := by simp [h5]
  cases h6 : Num.prB Q
  · have hr : goodB P Q G = false := by unfold goodB; rw [h1, h2, decide_eq_true h3, h4, decide_eq_true h5, h6]; rfl
    rw [hr]
    have H6 := Lib.hid h6
    clear hr h1 h2 h3 h4 h5 h6
    go_enter Try.func78, Try.ntmps78
    go_wp2_with fail
    refine (l1In_any _ _ _ _).mono ?_; rintro e w' ⟨rfl, rfl⟩; rw [H1.out]
    go_wp2_with fail
    refine (l1In_any _ _ _ _).mono ?_; rintro e w' ⟨rfl, rfl⟩; rw [H2.out]
    go_wp2_with fail
    refine (l1In_any _ _ _ _).mono ?_; rintro e w' ⟨rfl, rfl⟩; rw [H4.out]
    go_wp2_with fail
    refine (nPower_any _ _ _ (by omega) (by omega) (by omega) (by omega) (by omega) (by omega) _).mono ?_; rintro e w' ⟨rfl, rfl⟩
    go_wp2_with fail
    refine (nPrime_any _ (by omega) _).mono ?_; rintro e w' ⟨rfl, rfl⟩; rw [H6.out]
    go_wp2
    go_ret
    exact ⟨rfl, ba _ _⟩
  have hr : goodB P Q G = Num.prB P := by unfold goodB; rw [h1, h2, decide_eq_true h3, h4, decide_eq_true h5, h6]; simp
  rw [hr]
  have H6 := Lib.hid h6
  clear hr h1 h2 h3 h4 h5 h6
  go_enter Try.func78, Try.ntmps78
  go_wp2_with fail
  refine (l1In_any _ _ _ _).mono ?_; rintro e w' ⟨rfl, rfl⟩; rw [H1.out]
  go_wp2_with fail
  refine (l1In_any _ _ _ _).mono ?_; rintro e w' ⟨rfl, rfl⟩; rw [H2.out]
  go_wp2_with fail
  refine (l1In_any _ _ _ _).mono ?_; rintro e w' ⟨rfl, rfl⟩; rw [H4.out]
  go_wp2_with fail
  refine (nPower_any _ _ _ (by omega) (by omega) (by omega) (by omega) (by omega) (by omega) _).mono ?_; rintro e w' ⟨rfl, rfl⟩
  go_wp2_with fail
  refine (nPrime_any _ (by omega) _).mono ?_; rintro e w' ⟨rfl, rfl⟩; rw [H6.out]
  go_wp2_with fail
  refine (nPrime_any _ (by omega) _).mono ?_; rintro e w' ⟨rfl, rfl⟩
  go_wp2
  go_ret
  exact ⟨rfl, ba _ _⟩

/-- The law's own group is copied field by field. -/
theorem toGroup_any (P Q G : Int) (w : World) :
    Calls Try.prog 17 #[gv P Q G] w fun e w' => e = .returned (gv P Q G) ∧ Below w.heap.size w w' := by
  go_enter Try.func17, Try.ntmps17
  go_wp2
  (try simp only [Exit.inBlock, Exit.then])
  refine bodyPost_ret (v := gv P Q G) ?_ rfl ⟨rfl, ?_⟩
  · rw [results_cell_one rfl]; go_simp
  · exact bt (bt (ba _ _) (ba _ _)) (ba _ _)

end Go.Proofs.Ytdnofcpobpoehaa

