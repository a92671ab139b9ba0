/- Plain facts that the law of powers asks: products of powers, logarithms. -/
import Derived.Test.YtglfbhkdmkneoaaG7
import Derived.Test.YtglfbhkdmkneoaaG4
namespace Go.Proofs.Ytglfbhkdmkneoaa
open Go.RowKit

/-- The single powers. -/
def powL (P : Int) : List Int → List Int → List Int
  | x :: xs, e :: es => Num.pow x e P :: powL P xs es
  | _, _ => []
theorem powL_length (P : Int) : ∀ (zs es : List Int), es.length = zs.length → (powL P zs es).length = zs.length
  | [], _, _ => rfl
  | x :: xs, e :: es, h => by simp [powL, powL_length P xs es (by simpa using h)]
theorem powL_mul (P : Int) : ∀ (zs es : List Int) (acc : Int), mulFrom P acc (powL P zs es) = powsFrom P acc zs es
  | [], _, _ => rfl
  | _ :: _, [], _ => rfl
  | x :: xs, e :: es, acc => powL_mul P xs es (acc * Num.pow x e P % P)
theorem powL_get (P : Int) : ∀ (zs es : List Int) (k : Nat), es.length = zs.length → k < zs.length → (powL P zs es).take (k + 1) = (powL P zs es).take k ++ [Num.pow (zs.getD k 0) (es.getD k 0) P]
  | x :: xs, e :: es, 0, _, _ => by simp [powL]
  | x :: xs, e :: es, k + 1, h, hk => by
    have ih := powL_get P xs es k (by simpa using h) (by simpa using hk)
    simp only [powL, List.take_succ_cons, ih]
    simp

theorem exp_el {P Q G x e : Int} (h : expB P Q G x e = true) : elB P Q (Num.pow x e P) = true := by
  unfold expB at h
  rw [Bool.and_eq_true, Bool.and_eq_true] at h
  obtain ⟨hg, hx, he⟩ := h
  obtain ⟨p, q, g, rfl, rfl, rfl, hp, hq, hd, _, _, _, _, _, _⟩ := good_nat hg
  have hp1 : 1 < p := hp.1
  have hq1 : 1 < q := hq.1
  obtain ⟨n, rfl, n1, n2, n3⟩ := el_nat hp1 hx
  have h1 := exB_true.1 he
  obtain ⟨m, rfl⟩ := Int.eq_ofNat_of_zero_le h1.1
  rw [Num.pow_eq hp1]
  have h2 : (n ^ m % p) ^ q % p = 1 := Num.pow_el hp1 n3
  have h3 : 1 ≤ n ^ m % p := by
    have := Num.el_pos (x := n ^ m % p) hp1 (by omega) h2
    rwa [Nat.mod_mod] at this
  exact el_mk hp1 h3 (Nat.mod_lt _ (by omega)) h2

theorem powL_els (P Q G : Int) : ∀ (zs es : List Int), goodB P Q G = true → allEl P Q zs = true → allIn es 0 (Q - 1) = true → allEl P Q (powL P zs es) = true
  | [], _, _, _, _ => rfl
  | _ :: _, [], _, _, _ => rfl
  | x :: xs, e :: es, hg, h1, h2 => by
    simp only [allEl, allIn, List.all_cons, Bool.and_eq_true] at h1 h2
    have ih := powL_els P Q G xs es hg h1.2 h2.2
    have hx : elB P Q (Num.pow x e P) = true := exp_el (G := G) (by unfold expB exB; rw [hg, h1.1, h2.1]; rfl)
    simp only [allEl, powL, List.all_cons, Bool.and_eq_true] at ih ⊢
    exact ⟨hx, ih⟩

theorem pop_facts {P Q G : Int} {zs es : List Int} (h : popB P Q G zs es = true) :
    es.length = zs.length ∧ zs.length ≤ 24 ∧ (∀ k, k < zs.length → expB P Q G (zs.getD k 0) (es.getD k 0) = true ∧ expV P Q G (zs.getD k 0) (es.getD k 0) = Num.pow (zs.getD k 0) (es.getD k 0) P) ∧
    mulB P Q G (powL P zs es) = true ∧ mulV P Q G (powL P zs es) = popV P Q G zs es := by
  have h0 := h
  unfold popB at h
  simp only [Bool.and_eq_true, decide_eq_true_eq] at h
  obtain ⟨⟨⟨hg, hl⟩, h24⟩, hp⟩ := h
  have hp' := hp
  rw [powsOk_all P Q zs es hl.symm, Bool.and_eq_true] at hp'
  have hm : mulB P Q G (powL P zs es) = true := by
    unfold mulB elsB
    rw [hg, powL_length P zs es hl, decide_eq_true h24, powL_els P Q G zs es hg hp'.1 hp'.2]; rfl
  refine ⟨hl, h24, fun k hk => ?_, hm, ?_⟩
  · have h1 : elB P Q (zs.getD k 0) = true := by
      have := List.all_eq_true.1 hp'.1 (zs.getD k 0) (by simp [List.getD, hk])
      exact this
    have h2 : inB (es.getD k 0) 0 (Q - 1) = true := by
      have hk' : k < es.length := by omega
      have := List.all_eq_true.1 hp'.2 (es.getD k 0) (by simp [List.getD, hk'])
      exact this
    have h3 : expB P Q G (zs.getD k 0) (es.getD k 0) = true := by unfold expB exB; rw [hg, h1, h2]; rfl
    exact ⟨h3, by simp only [expV, h3, if_true]⟩
  · unfold mulV popV
    rw [hm, h0, if_pos rfl, if_pos rfl, powL_mul]

theorem log_facts {P Q G b y m : Int} (h : logB P Q G b y m = true) :
    ∃ r : Nat, logV P Q G b y m = r ∧ (r : Int) ≤ m ∧ (2 ≤ Q ∧ Q ≤ 2000000000) ∧ (r : Int) % Q = r ∧ expB P Q G b r = true ∧ expV P Q G b r = y := by
  cases hc : logC P Q G b y m
  · rw [(log_off hc).2] at h; cases h
  · cases hl : Num.lgs P.toNat b.toNat y.toNat (m.toNat + 1) with
    | none => rw [(log_none hc hl).2] at h; cases h
    | some r =>
      obtain ⟨e1, _⟩ := log_some hc hl
      obtain ⟨⟨m0, m1⟩, hg, hb, hy⟩ := logC_true.1 hc
      obtain ⟨p, q, g, rfl, rfl, rfl, hp, hq, hd, _, _, _, _, hp9, hqp⟩ := good_nat hg
      have hp1 : 1 < p := hp.1
      have hq1 : 1 < q := hq.1
      obtain ⟨n, rfl, n1, n2, n3⟩ := el_nat hp1 hb
      obtain ⟨y', rfl, y1, y2, _⟩ := el_nat hp1 hy
      simp only [Int.toNat_natCast] at hl
      obtain ⟨hr1, hr2⟩ := Num.lgs_some hl
      have hr3 := Num.lgs_lt hp1 (by omega) n3 hl
      have he : expB p q g n r = true := by
        unfold expB
        rw [hg, hb, exB_true.2 (by omega)]; rfl
      refine ⟨r, e1, by omega, by omega, Int.emod_eq_of_lt (by omega) (by omega), he, ?_⟩
      unfold expV
      rw [he, if_pos rfl, Num.pow_eq hp1, hr1]

end Go.Proofs.Ytglfbhkdmkneoaa

