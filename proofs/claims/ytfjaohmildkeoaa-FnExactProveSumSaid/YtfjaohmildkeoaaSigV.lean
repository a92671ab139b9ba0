/- Sigma proofs, the program: the verifier. -/
import Derived.Test.YtfjaohmildkeoaaSigA
namespace Go.Proofs.Ytfjaohmildkeoaa
open Go.RowKit
set_option linter.unusedVariables false
set_option linter.unusedSimpArgs false

/-! ### What a valid statement gives -/
theorem all_app {P Q : Int} {a b : List Int} (h : allEl P Q a = true) (k : allEl P Q b = true) : allEl P Q (a ++ b) = true := by
  unfold allEl at *
  rw [List.all_append, h, k]; rfl
theorem ch_ok {P Q G : Int} {s : ByteArray} {zs : List Int} (hg : goodB P Q G = true) (hs : s.size ≤ 40) (hl : zs.length ≤ 200) (he : allEl P Q zs = true) : chB P Q G s zs 3 = true := by
  refine chB_true.2 ⟨hg, labB_true.2 ⟨by omega, by omega⟩, digsB_true.2 fun z hz => ?_⟩
  have := els_range he z hz
  have := (good_mo hg).1
  omega
theorem ch_ok2 {P Q G : Int} {s : ByteArray} {a b : List Int} (hg : goodB P Q G = true) (hs : s.size ≤ 40) (hl : (a ++ b).length ≤ 200) (ha : smB a = true) (hb : allEl P Q b = true) : chB P Q G s (a ++ b) 3 = true := by
  refine chB_true.2 ⟨hg, labB_true.2 ⟨by omega, by omega⟩, digsB_true.2 fun z hz => ?_⟩
  rcases List.mem_append.1 hz with h | h
  · have := smB_true.1 ha z h
    omega
  · have := els_range hb z h
    have := (good_mo hg).1
    omega
theorem flat_len {rows : List (List Int)} {m : Nat} (h : ∀ r ∈ rows, r.length = m) : nS rows = rows.length * m := by
  induction rows with
  | nil => simp [nS]
  | cons a t ih =>
    rw [nS_cons, h a (by simp), ih (fun r hr => h r (by simp [hr])), List.length_cons, Nat.succ_mul, Nat.add_comm]
theorem flat_el {P Q : Int} {rows : List (List Int)} (h : ∀ r ∈ rows, allEl P Q r = true) : allEl P Q rows.flatten = true := by
  unfold allEl at *
  rw [List.all_eq_true]
  intro z hz
  obtain ⟨r, hr, hz⟩ := List.mem_flatten.1 hz
  have := h r hr
  rw [List.all_eq_true] at this
  exact this z hz
theorem lin_facts {P Q : Int} {rows : List (List Int)} {im : List Int} (h : (St.lin rows im).ok P Q = true) :
    (rows.length ≤ 8 ∧ nS rows ≤ 64 ∧ 0 < nS rows ∧ im.length ≤ 8) ∧ (St.lin rows im).els.length ≤ 72 ∧ allEl P Q (St.lin rows im).els = true ∧ Sound P Q (St.lin rows im).parts ∧ 1 ≤ (St.lin rows im).parts.length := by
  rw [lin_ok] at h
  simp only [Bool.and_eq_true, decide_eq_true_eq] at h
  obtain ⟨hr, hl, hi⟩ := h
  obtain ⟨h1, h2, h3⟩ := rowsB_true.1 hr
  have hf := flat_len (fun r hm => (h3 r hm).1)
  have hle : nS rows ≤ 64 := by rw [hf]; exact Nat.mul_le_mul h1.2 h2.2
  have hp : 0 < nS rows := by rw [hf]; exact Nat.mul_pos (by omega) (by omega)
  refine ⟨⟨h1.2, hle, hp, by omega⟩, ?_, all_app (flat_el fun r hm => (h3 r hm).2) hi, ⟨⟨by simp [St.parts], ?_⟩, ?_⟩, by simp [St.parts]⟩
  · show (rows.flatten ++ im).length ≤ 72
    rw [List.length_append, nS_flat]; omega
  · intro p hp'
    simp only [St.parts, List.mem_singleton] at hp'
    subst hp'
    exact ⟨h1.1, h1.2, h2.1, h2.2⟩
  · intro p hp'
    simp only [St.parts, List.mem_singleton] at hp'
    subst hp'
    exact ⟨h3, hl, hi⟩
theorem quads_sound {P Q : Int} : ∀ (n : Nat) (l : List Int), l.length = n * 4 → allEl P Q l = true → ∀ p ∈ quads l, (1 ≤ p.1.length ∧ p.1.length ≤ 8 ∧ 1 ≤ wid p.1 ∧ wid p.1 ≤ 8) ∧ (∀ r ∈ p.1, r.length = wid p.1 ∧ allEl P Q r = true) ∧ p.2.length = p.1.length ∧ allEl P Q p.2 = true
  | 0, l, h, _ => by
    have : l = [] := List.length_eq_zero_iff.1 (by omega)
    subst this; intro p hp; cases hp
  | n + 1, [], h, _ => by simp at h
  | n + 1, [_], h, _ => by simp at h; omega
  | n + 1, [_, _], h, _ => by simp at h; omega
  | n + 1, [_, _, _], h, _ => by simp at h; omega
  | n + 1, a :: b :: c :: d :: r, h, he => by
    simp only [List.length_cons] at h
    simp only [allEl, List.all_cons, Bool.and_eq_true] at he
    intro p hp
    simp only [quads, List.mem_cons] at hp
    rcases hp with rfl | hp
    · refine ⟨by simp [wid], ?_, by simp, by simp [allEl, he]⟩
      intro r hr
      simp only [List.mem_cons, List.not_mem_nil, or_false] at hr
      rcases hr with rfl | rfl <;> simp [wid, allEl, he]
    · exact quads_sound n r (by omega) he.2.2.2.2 p hp
theorem cho_facts {P Q : Int} {l : List Int} {n : Nat} (hn : l.length = n * 4) (h : (St.cho l).ok P Q = true) :
    l.length ≤ 32 ∧ (St.cho l).els.length ≤ 72 ∧ allEl P Q (St.cho l).els = true ∧ Sound P Q (St.cho l).parts ∧ 1 ≤ (St.cho l).parts.length := by
  rw [cho_ok hn] at h
  simp only [Bool.and_eq_true] at h
  obtain ⟨h1, h2⟩ := h
  rw [inB_true] at h1
  have hq := quads_length n l hn
  have hs := quads_sound n l hn h2
  refine ⟨by omega, by show l.length ≤ 72; omega, h2, ⟨⟨by show (quads l).length ≤ 8; omega, fun p hp => (hs p hp).1⟩, fun p hp => (hs p hp).2⟩, by show 1 ≤ (quads l).length; omega⟩
theorem cho_pos {P Q : Int} {l : List Int} (h : (St.cho l).ok P Q = true) : 0 < l.length := by
  simp only [St.ok, choB, Bool.and_eq_true, decide_eq_true_eq] at h; omega
theorem clm_facts {P Q : Int} {ps : List LinD} {l : List Int} (h : (St.clm ps l).ok P Q = true) :
    l.length ≤ 72 ∧ 0 < l.length ∧ (St.clm ps l).els.length ≤ 72 ∧ smB (St.clm ps l).els = true ∧ Sound P Q (St.clm ps l).parts ∧ 1 ≤ (St.clm ps l).parts.length := by
  simp only [St.ok, Bool.and_eq_true, decide_eq_true_eq, List.all_eq_true] at h
  obtain ⟨h1, h2, h3, h4⟩ := h
  refine ⟨h3.2, by omega, h3.2, h4, ⟨⟨h1.2, fun p hp => ?_⟩, fun p hp => ?_⟩, h1.1⟩
  · obtain ⟨a, b, c⟩ := rowsB_true.1 (h2 p hp).1
    exact ⟨a.1, a.2, b.1, b.2⟩
  · obtain ⟨a, b, c⟩ := rowsB_true.1 (h2 p hp).1
    exact ⟨c, (h2 p hp).2⟩
theorem exs_all {Q : Int} {es : List Int} (h : exsB' Q es = true) : allIn es 0 (Q - 1) = true := by
  simp only [exsB', Bool.and_eq_true, decide_eq_true_eq] at h
  exact h.2
theorem all_ex {Q : Int} {es : List Int} (h : allIn es 0 (Q - 1) = true) : ∀ e ∈ es, 0 ≤ e ∧ e < Q := fun e he => by
  unfold allIn at h; rw [List.all_eq_true] at h; have := inB_true.1 (h e he); omega
theorem cmts_len {P Q : Int} : ∀ (ps : List LinD) (h r : List Int), (∀ p ∈ ps, p.1.length ≤ 8) → (cmts P Q ps h r).length ≤ ps.length * 8
  | [], _, _, _ => by simp [cmts]
  | _ :: _, [], _, _ => by simp [cmts]
  | p :: ps, c :: cs, r, hp => by
    have ih := cmts_len (P := P) (Q := Q) ps cs (r.drop (wid p.1)) (fun p hm => hp p (by simp [hm]))
    have h1 := hp p (by simp)
    show (List.zipWith _ (imgs P p.1 _) p.2 ++ cmts P Q ps cs _).length ≤ _
    rw [List.length_append, List.length_zipWith, imgs_length, List.length_cons]
    omega
theorem InP.c {B : Nat} {w : World} {a1 a2 a3 : Option Addr} {n1 n2 n3 c1 c2 c3 : Nat} {p : PrD} (h : InP B w (pv3 a1 n1 c1 a2 n2 c2 a3 n3 c3) p) : InI B w (.slice a1 n1 c1) p.c := by
  obtain ⟨x, y, z, e, h1, _, _⟩ := h
  simp only [Value.agg.injEq, Array.mk.injEq, List.cons.injEq, and_true] at e
  obtain ⟨rfl, rfl, rfl⟩ := e
  exact h1
theorem InP.dr {B : Nat} {w : World} {v : Value} {p : PrD} (h : InP B w v p) : InP B w.drew v p := h
theorem msV_on {P Q G : Int} {s : ByteArray} {st : St} {cm ch : List Int} (h : chB P Q G s (st.els ++ cm) 3 = true) : msV P Q G s st.els cm ch = missV P Q G s st cm ch := by
  simp [msV, missV, h]

end Go.Proofs.Ytfjaohmildkeoaa

