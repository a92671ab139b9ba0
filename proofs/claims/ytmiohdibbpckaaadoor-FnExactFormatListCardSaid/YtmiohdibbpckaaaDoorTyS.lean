/- Lists of lists of integers; what the laws' helpers do with them. -/
import Derived.Test.YtmiohdibbpckaaaDoorTyI
namespace Go.Proofs.YtmiohdibbpckaaaDoor
open Go.RowKit

theorem Tryd.infoSL : (Tryd.prog.info? 24).map (fun i => (i.zero, i.size, i.bytes)) = some (some (.slice none 0 0), 1, 24) := by kernel_rfl

/-- Rows of one's own, one behind the other in memory, from block Q to block P. -/
def ChI (P : Nat) (w : World) : Nat → List Value → List (List Int) → Prop
  | Q, [], [] => Q ≤ P ∧ P ≤ w.heap.size
  | Q, v :: vs, z :: zs => ∃ M, OwI Q M w v z ∧ ChI P w M vs zs
  | _, _, _ => False
theorem ChI.len {P : Nat} {w : World} : ∀ {Q : Nat} {vs : List Value} {zss : List (List Int)}, ChI P w Q vs zss → vs.length = zss.length
  | _, [], [], _ => rfl
  | _, v :: vs, z :: zs, h => by obtain ⟨M, _, h⟩ := h; simp [ChI.len h]
theorem ChI.le {P : Nat} {w : World} : ∀ {Q : Nat} {vs : List Value} {zss : List (List Int)}, ChI P w Q vs zss → Q ≤ P ∧ P ≤ w.heap.size
  | _, [], [], h => h
  | _, v :: vs, z :: zs, h => by obtain ⟨M, h1, h⟩ := h; have := ChI.le h; have := h1.2.2.2; omega
theorem ChI.below {P : Nat} {w w' : World} (hb : Below w.heap.size w w') : ∀ {Q : Nat} {vs : List Value} {zss : List (List Int)}, ChI P w Q vs zss → ChI P w' Q vs zss
  | _, [], [], h => ⟨h.1, Nat.le_trans h.2 hb.size⟩
  | _, v :: vs, z :: zs, h => by obtain ⟨M, h1, h⟩ := h; exact ⟨M, h1.below hb, ChI.below hb h⟩
theorem ChI.mid {P A B : Nat} {w w' : World} (hm : Mid A B w w') : ∀ {Q : Nat} {vs : List Value} {zss : List (List Int)}, ChI P w Q vs zss → (P ≤ A ∨ B ≤ Q) → ChI P w' Q vs zss
  | _, [], [], h, _ => ⟨h.1, Nat.le_trans h.2 hm.size⟩
  | _, v :: vs, z :: zs, h, ho => by
    obtain ⟨M, h1, h⟩ := h
    have l := ChI.le h
    have q := h1.2.2.2
    exact ⟨M, h1.mid hm (by omega), ChI.mid hm h (by omega)⟩
theorem ChI.snoc {P R : Nat} {w : World} {v : Value} {z : List Int} (ho : OwI P R w v z) : ∀ {Q : Nat} {vs : List Value} {zss : List (List Int)}, ChI P w Q vs zss → ChI R w Q (vs ++ [v]) (zss ++ [z])
  | Q, [], [], h => ⟨R, ho.wide h.1 (Nat.le_refl _) ho.2.2.1, Nat.le_refl _, ho.2.2.1⟩
  | _, v :: vs, z :: zs, h => by obtain ⟨M, h1, h⟩ := h; exact ⟨M, h1, ChI.snoc ho h⟩
theorem ChI.get {P : Nat} {w : World} : ∀ {Q : Nat} {vs : List Value} {zss : List (List Int)}, ChI P w Q vs zss → ∀ (i : Nat) z, zss[i]? = some z → ∃ u, vs[i]? = some u ∧ InI P w u z
  | _, [], [], _, i, z, hz => by simp at hz
  | _, v :: vs, z :: zs, h, 0, z', hz => by
    obtain ⟨M, h1, h⟩ := h
    simp at hz
    subst hz
    exact ⟨v, by simp, h1.toIn.wide (ChI.le h).1 (ChI.le h).2⟩
  | _, v :: vs, z :: zs, h, i + 1, z', hz => by
    obtain ⟨M, h1, h⟩ := h
    simp at hz
    obtain ⟨u, hu, hi⟩ := ChI.get h i z' hz
    exact ⟨u, by simpa using hu, hi⟩
theorem ChI.wide {P R : Nat} {w : World} (hP : P ≤ R) (hR : R ≤ w.heap.size) : ∀ {Q : Nat} {vs : List Value} {zss : List (List Int)}, ChI P w Q vs zss → ChI R w Q vs zss
  | _, [], [], h => ⟨Nat.le_trans h.1 hP, hR⟩
  | _, v :: vs, z :: zs, h => by obtain ⟨M, h1, h⟩ := h; exact ⟨M, h1, ChI.wide hP hR h⟩

def InS (P : Nat) (w : World) (v : Value) (zss : List (List Int)) : Prop := P ≤ w.heap.size ∧ ∃ ad cap, v = .slice ad zss.length cap ∧ (ad = none → cap = 0) ∧
  (zss = [] ∨ ∃ b off, ad = some ⟨b, off, none⟩ ∧ b < P ∧ b < w.heap.size ∧ ∀ (i : Nat) z, zss[i]? = some z → ∃ u, w.cell? ⟨b, off + i, none⟩ = some u ∧ InI P w u z)
def OwS (Q P : Nat) (w : World) (v : Value) (zss : List (List Int)) : Prop := ∃ M vs, OwR 24 1 Q M w v zss.length vs ∧ ChI P w M vs zss
theorem InS.belowP {P : Nat} {w w' : World} {v : Value} {zss : List (List Int)} (h : InS P w v zss) (hb : Below P w w') : InS P w' v zss := by
  obtain ⟨h0, ad, cap, rfl, h1, h2⟩ := h
  refine ⟨Nat.le_trans h0 hb.size, ad, cap, rfl, h1, ?_⟩
  rcases h2 with h2 | ⟨b, off, h2, h3, h4, h5⟩
  · exact .inl h2
  · refine .inr ⟨b, off, h2, h3, Nat.lt_of_lt_of_le h4 hb.size, fun i z hz => ?_⟩
    obtain ⟨u, hu, hi⟩ := h5 i z hz
    exact ⟨u, by rw [hb.cell (p := ⟨b, off + i, none⟩) h3]; exact hu, hi.belowP hb⟩
theorem InS.below {P : Nat} {w w' : World} {v : Value} {zss : List (List Int)} (h : InS P w v zss) (hb : Below w.heap.size w w') : InS P w' v zss := h.belowP (hb.mono h.1)
theorem InS.mid {P A B : Nat} {w w' : World} {v : Value} {zss : List (List Int)} (h : InS P w v zss) (hm : Mid A B w w') (hA : P ≤ A) : InS P w' v zss := h.belowP (hm.toBelow hA h.1)
theorem OwS.below {Q P : Nat} {w w' : World} {v : Value} {zss : List (List Int)} (h : OwS Q P w v zss) (hb : Below w.heap.size w w') : OwS Q P w' v zss := by
  obtain ⟨M, vs, h1, h2⟩ := h
  exact ⟨M, vs, h1.below hb, h2.below hb⟩
theorem OwS.mid {Q P A B : Nat} {w w' : World} {v : Value} {zss : List (List Int)} (h : OwS Q P w v zss) (hm : Mid A B w w') (ho : P ≤ A ∨ B ≤ Q) : OwS Q P w' v zss := by
  obtain ⟨M, vs, h1, h2⟩ := h
  have l := h2.le
  have q := h1.2.2.2
  exact ⟨M, vs, h1.mid hm (by omega), h2.mid hm (by omega)⟩
theorem OwS.toIn {Q P : Nat} {w : World} {v : Value} {zss : List (List Int)} (h : OwS Q P w v zss) : InS P w v zss := by
  obtain ⟨M, vs, ⟨h1, h2, h3, h4⟩, hc⟩ := h
  have l := hc.le
  have hl := hc.len
  refine ⟨l.2, ?_⟩
  rcases h1.2 with ⟨rfl, hn⟩ | ⟨g, cap, cur, rfl, hb, hg, _⟩
  · exact ⟨none, 0, by rw [hn], fun _ => rfl, .inl (List.length_eq_zero_iff.1 hn)⟩
  · refine ⟨some ⟨g, 0, none⟩, cap, rfl, (fun h => by cases h), .inr ⟨g, 0, rfl, Nat.lt_of_lt_of_le (h2 g rfl) l.1, Nat.lt_of_lt_of_le (h2 g rfl) h3, fun i z hz => ?_⟩⟩
    obtain ⟨u, hu, hi⟩ := hc.get i z hz
    refine ⟨u, ?_, hi⟩
    have hi' : i < zss.length := (List.getElem?_eq_some_iff.1 hz).1
    have := h1.cells (g := g) rfl i u hu
    have e1 : (⟨g, 0, none⟩ : Addr).add i = ⟨g, 0 + i, none⟩ := by
      unfold Addr.add; split
      · subst_vars; rfl
      · rfl
    rwa [e1] at this
theorem InS.shape {P : Nat} {w : World} {v : Value} {zss : List (List Int)} (h : InS P w v zss) : ∃ ad cap, v = .slice ad zss.length cap := by
  obtain ⟨_, ad, cap, h, _⟩ := h
  exact ⟨ad, cap, h⟩
theorem InS.le {P : Nat} {w : World} {v : Value} {zss : List (List Int)} (h : InS P w v zss) : P ≤ w.heap.size := h.1
theorem OwS.le {Q P : Nat} {w : World} {v : Value} {zss : List (List Int)} (h : OwS Q P w v zss) : P ≤ w.heap.size := h.toIn.1
/-- The k-th row. -/
theorem InS.at {P : Nat} {w : World} {ad : Option Addr} {n cap : Nat} {zss : List (List Int)} (h : InS P w (.slice ad n cap) zss) {k : Nat} (hk : k < zss.length) :
    ∃ b off a c z, ad = some ⟨b, off, none⟩ ∧ b < w.heap.size ∧ w.cell? ⟨b, off + k, none⟩ = some (.slice a z.length c) ∧ InI P w (.slice a z.length c) z ∧ zss.drop k = z :: zss.drop (k + 1) := by
  obtain ⟨h0, ad', cap', h1, h2, h3⟩ := h
  simp only [Value.slice.injEq] at h1
  obtain ⟨rfl, _, rfl⟩ := h1
  rcases h3 with rfl | ⟨b, off, h4, h5, h6, h7⟩
  · simp at hk
  · obtain ⟨u, hu, hi⟩ := h7 k zss[k] (by simp [hk])
    obtain ⟨a, c, rfl⟩ := hi.shape
    exact ⟨b, off, a, c, zss[k], h4, h6, hu, hi, List.drop_eq_getElem_cons hk⟩

/-! ### Numbers and marks -/
def nS (zss : List (List Int)) : Nat := (zss.map List.length).sum
def mkS : Int → List (List Int) → List (List Int)
  | _, [] => []
  | k, z :: zs => mkI k z :: mkS (k + z.length) zs
theorem nS_cons (z : List Int) (zs : List (List Int)) : nS (z :: zs) = z.length + nS zs := by simp [nS]
theorem nS_append (a b : List (List Int)) : nS (a ++ b) = nS a + nS b := by simp [nS]
theorem mkS_length : ∀ (k : Int) (zss : List (List Int)), (mkS k zss).length = zss.length
  | _, [] => rfl
  | k, z :: zs => by simp [mkS, mkS_length (k + z.length) zs]
theorem mkS_snoc (z : List Int) : ∀ (k : Int) (a : List (List Int)), mkS k (a ++ [z]) = mkS k a ++ [mkI (k + nS a) z]
  | k, [] => by simp [mkS, nS]
  | k, y :: a => by
    simp only [List.cons_append, mkS, mkS_snoc z (k + y.length) a, nS_cons]
    rw [show k + (y.length : Int) + (nS a : Int) = k + ((y.length + nS a : Nat) : Int) by omega]
theorem mkS_take (zss : List (List Int)) {j : Nat} {z : List Int} {rest : List (List Int)} (k : Int) (h : zss.drop j = z :: rest) : mkS k (zss.take (j + 1)) = mkS k (zss.take j) ++ [mkI (k + nS (zss.take j)) z] ∧ nS (zss.take (j + 1)) = nS (zss.take j) + z.length ∧ zss.take (j + 1) = zss.take j ++ [z] := by
  have hj : j < zss.length := by
    rcases Nat.lt_or_ge j zss.length with h' | h'
    · exact h'
    · rw [List.drop_of_length_le h'] at h; cases h
  have hz : zss[j] = z := by rw [List.drop_eq_getElem_cons hj] at h; exact (List.cons.inj h).1
  have e : zss.take (j + 1) = zss.take j ++ [z] := by rw [List.take_succ_eq_append_getElem hj, hz]
  rw [e]
  exact ⟨mkS_snoc z k _, by rw [nS_append]; simp [nS], rfl⟩
theorem mkS_get (zss : List (List Int)) {j : Nat} {z : List Int} {rest : List (List Int)} (k : Int) (h : zss.drop j = z :: rest) : (mkS k zss).drop j = mkI (k + nS (zss.take j)) z :: (mkS k zss).drop (j + 1) := by
  induction zss generalizing j k with
  | nil => simp at h
  | cons y ys ih =>
    cases j with
    | zero => simp at h; obtain ⟨rfl, _⟩ := h; simp [mkS, nS]
    | succ j =>
      simp only [List.drop_succ_cons] at h
      simp only [mkS, List.drop_succ_cons, List.take_succ_cons, nS_cons]
      rw [ih (k + y.length) h]
      rw [show k + (y.length : Int) + (nS (ys.take j) : Int) = k + ((y.length + nS (ys.take j) : Nat) : Int) by omega]
theorem nS_drop (zss : List (List Int)) (j : Nat) : nS (zss.take j) + nS (zss.drop j) = nS zss := by
  rw [← nS_append, List.take_append_drop]
theorem nS_le {zss : List (List Int)} {z : List Int} (h : z ∈ zss) : z.length ≤ nS zss := by
  obtain ⟨a, b, rfl⟩ := List.append_of_mem h
  rw [nS_append, nS_cons]; omega

/-! ### The helpers -/
def MadeS (w : World) (zss : List (List Int)) (e : Ending) (w' : World) : Prop := ∃ v, e = .returned v ∧ OwS w.heap.size w'.heap.size w' v zss ∧ Below w.heap.size w w'
def MarkS (Q P : Nat) (w : World) (v : Value) (zss : List (List Int)) (k : Int) (e : Ending) (w' : World) : Prop := e = .returned (.int .i64 (k + (nS zss : Int))) ∧ OwS Q P w' v (mkS k zss) ∧ Mid Q P w w'

/-- The first k rows are written, those behind are nil. -/
def rowMix (vs : List Value) (n : Nat) : List Value := vs ++ List.replicate (n - vs.length) (.slice none 0 0)
theorem rowMix_set {vs : List Value} {n k : Nat} (hk : vs.length = k) (hn : k < n) (v : Value) : (rowMix vs n).set k v = rowMix (vs ++ [v]) n := by
  subst hk
  unfold rowMix
  rw [show n - vs.length = (n - (vs ++ [v]).length) + 1 by simp; omega, List.replicate_succ, List.set_append_right _ _ (Nat.le_refl _), Nat.sub_self, List.set_cons_zero]
  simp
theorem rowMix_cell {wr : World} {B g n k : Nat} {vs : List Value} (hown : wr.ownsRow B 24 1 (.slice (some ⟨g, 0, none⟩) n n) n (rowMix vs n)) (hk : vs.length = k) (hn : k < n) :
    wr.cell? ⟨g, k, none⟩ = some (.slice none 0 0) ∧ wr.frozen? ⟨g, k, none⟩ = false := by
  refine ⟨?_, hown.frozenAt k⟩
  have hx : (rowMix vs n)[k]? = some (.slice none 0 0) := by
    unfold rowMix
    rw [List.getElem?_append_right (by omega), List.getElem?_replicate, if_pos (by omega)]
  have := hown.cells (g := g) rfl k (.slice none 0 0) hx
  have e1 : (⟨g, 0, none⟩ : Addr).add k = ⟨g, k, none⟩ := by unfold Addr.add; split <;> simp_all
  rwa [e1] at this

end Go.Proofs.YtmiohdibbpckaaaDoor

