/- Sigma proofs, the program: commits that fit, what is left of a challenge, the form of a proof. -/
import Derived.Test.YtglfbhkdmkneoaaSigA
import Derived.Test.YtglfbhkdmkneoaaElE
import Derived.Deep.LoopGhost
import Derived.Deep.AppendLies
namespace Go.Proofs.Ytglfbhkdmkneoaa
open Go.RowKit
set_option linter.unusedVariables false
set_option linter.unusedSimpArgs false

/-! ### A proof in a block -/
theorem B3.drew {w : World} {b : Nat} {x y z : Value} (h : B3 w b x y z) : B3 w.drew b x y z := h
abbrev pv3 (a1 : Option Addr) (n1 c1 : Nat) (a2 : Option Addr) (n2 c2 : Nat) (a3 : Option Addr) (n3 c3 : Nat) : Value := .agg #[.slice a1 n1 c1, .slice a2 n2 c2, .slice a3 n3 c3]
theorem InP.parts {P : Nat} {w : World} {v : Value} {p : PrD} (h : InP P w v p) : ∃ a1 c1 a2 c2 a3 c3, v = pv3 a1 p.c.length c1 a2 p.h.length c2 a3 p.r.length c3 ∧ InI P w (.slice a1 p.c.length c1) p.c ∧ InI P w (.slice a2 p.h.length c2) p.h ∧ InI P w (.slice a3 p.r.length c3) p.r := by
  obtain ⟨x, y, z, rfl, h1, h2, h3⟩ := h
  obtain ⟨a1, c1, rfl⟩ := h1.shape
  obtain ⟨a2, c2, rfl⟩ := h2.shape
  obtain ⟨a3, c3, rfl⟩ := h3.shape
  exact ⟨a1, c1, a2, c2, a3, c3, rfl, h1, h2, h3⟩
theorem InI.dr {P : Nat} {w : World} {v : Value} {zs : List Int} (h : InI P w v zs) : InI P w.drew v zs := h
theorem InS.dr {P : Nat} {w : World} {v : Value} {zs : List (List Int)} (h : InS P w v zs) : InS P w.drew v zs := h

/-! ### The form of a proof -/
theorem nRows_take {ps : List LinD} {p : LinD} {k : Nat} (h : ps.drop k = p :: ps.drop (k + 1)) : nRows (ps.take (k + 1)) = nRows (ps.take k) + p.1.length ∧ nCols (ps.take (k + 1)) = nCols (ps.take k) + wid p.1 := by
  have hk : k < ps.length := by
    rcases Nat.lt_or_ge k ps.length with h1 | h1
    · exact h1
    · rw [List.drop_of_length_le h1] at h; cases h
  rw [List.drop_eq_getElem_cons hk] at h
  rw [List.take_succ_eq_append_getElem hk, ← (List.cons.inj h).1]
  unfold nRows nCols
  simp only [List.map_append, List.sum_append, List.map_cons, List.map_nil, List.sum_cons, List.sum_nil, Nat.add_zero, and_self]
/-- What the loops over a list of linear statements need to know of it. -/
def Fit (ps : List LinD) : Prop := ps.length ≤ 8 ∧ ∀ p ∈ ps, 1 ≤ p.1.length ∧ p.1.length ≤ 8 ∧ 1 ≤ wid p.1 ∧ wid p.1 ≤ 8
theorem Fit.rows {ps : List LinD} (h : Fit ps) : ∀ k, k ≤ ps.length → nRows (ps.take k) ≤ k * 8 ∧ nCols (ps.take k) ≤ k * 8
  | 0, _ => by simp [nRows, nCols]
  | k + 1, hk => by
    have ih := Fit.rows h k (by omega)
    have hd := List.drop_eq_getElem_cons (show k < ps.length by omega)
    have hp := h.2 _ (List.getElem_mem (show k < ps.length by omega))
    have := nRows_take hd
    omega

end Go.Proofs.Ytglfbhkdmkneoaa

/- Sigma proofs, the program: the commits that fit. -/
namespace Go.Proofs.Ytglfbhkdmkneoaa
open Go.RowKit
set_option linter.unusedVariables false
set_option linter.unusedSimpArgs false

theorem IsInts.tail {w : World} {b off : Nat} {zs : List Int} (h : IsInts w (some ⟨b, off, none⟩) zs) (c : Nat) : IsInts w (some ⟨b, off + c, none⟩) (zs.drop c) := by
  rcases h with rfl | ⟨b', off', h1, hb, hc⟩
  · exact .inl (by simp)
  · simp only [Option.some.injEq, Addr.mk.injEq, and_true] at h1
    obtain ⟨rfl, rfl⟩ := h1
    refine .inr ⟨b, off + c, rfl, hb, fun i hi => ?_⟩
    rw [List.length_drop] at hi
    rw [Nat.add_assoc, hc (c + i) (by omega)]
    simp
theorem IsInts.init {w : World} {ad : Option Addr} {zs : List Int} (h : IsInts w ad zs) (c : Nat) : IsInts w ad (zs.take c) := by
  rcases h with rfl | ⟨b', off', rfl, hb, hc⟩
  · exact .inl (by simp)
  · refine .inr ⟨b', off', rfl, hb, fun i hi => ?_⟩
    rw [List.length_take] at hi
    rw [hc i (by omega)]
    congr 2
    simp only [List.getD_eq_getElem?_getD]
    rw [List.getElem?_take_of_lt (by omega)]

/-- The blocks from lo to hi are as they were. -/
def Keep (lo hi : Nat) (w w' : World) : Prop := hi ≤ w'.heap.size ∧ ∀ k, lo ≤ k → k < hi → w'.heap[k]? = w.heap[k]?
theorem Keep.refl (lo : Nat) (w : World) : Keep lo w.heap.size w w := ⟨Nat.le_refl _, fun _ _ _ => rfl⟩
theorem Keep.below {lo hi : Nat} {a w w' : World} (h : Keep lo hi a w) (hb : Below w.heap.size w w') : Keep lo hi a w' :=
  ⟨Nat.le_trans h.1 hb.size, fun k h1 h2 => (hb.block k (Nat.lt_of_lt_of_le h2 h.1)).trans (h.2 k h1 h2)⟩
theorem Keep.cell {lo hi b i : Nat} {w w' : World} {v : Value} (h : Keep lo hi w w') (h1 : lo ≤ b) (h2 : b < hi) (hc : w.cell? ⟨b, i, none⟩ = some v) : w'.cell? ⟨b, i, none⟩ = some v := by
  rw [World.cell?_of_block (a := ⟨b, i, none⟩) (h.2 b h1 h2)]; exact hc
/-- A slice that lies below lo or from hi on. -/
def Off (lo hi : Nat) (va : Option Addr) : Prop := ∀ a, va = some a → a.block < lo ∨ hi ≤ a.block
theorem Keep.grown {lo hi n c : Nat} {a w w' : World} {va : Option Addr} (h : Keep lo hi a w) (ho : Off lo hi va) (hg : w.grownBy w' (Value.slice va n c).ownBlock) : Keep lo hi a w' := by
  refine ⟨Nat.le_trans h.1 hg.size, fun k h1 h2 => (hg.block k (Nat.lt_of_lt_of_le h2 h.1) ?_).trans (h.2 k h1 h2)⟩
  intro he
  cases va with
  | none => simp [Value.ownBlock] at he
  | some x =>
    simp only [Value.ownBlock, Option.some.injEq] at he
    have := ho x rfl
    omega
theorem Off.next {lo hi n c g H : Nat} {va : Option Addr} (h : Off lo hi va) (hat : (Value.slice va n c).ownBlock = some g ∨ g = H) (hH : hi ≤ H) : Off lo hi (some ⟨g, 0, none⟩) := by
  rintro a ⟨⟩
  rcases hat with h1 | h1
  · cases va with
    | none => simp [Value.ownBlock] at h1
    | some x =>
      simp only [Value.ownBlock, Option.some.injEq] at h1
      have := h x rfl
      simp only
      omega
  · simp only; omega
theorem off_own {w : World} {base : Nat} {e : TypeId} {size n c hi m : Nat} {va : Option Addr} {xs : List Value} (h : w.ownsRow base e size (.slice va n c) m xs) : Off w.heap.size hi va := by
  rintro a rfl
  exact .inl (h.lt a.block rfl).2
theorem InI.upto {P : Nat} {w w' : World} {v : Value} {zs : List Int} (h : InI P w v zs) (hb : Below P w w') : InI P w' v zs := h.belowP hb

/-- What the commits need of the linear statements. -/
def Sound (P Q : Int) (ps : List LinD) : Prop := Fit ps ∧ ∀ p ∈ ps, (∀ r ∈ p.1, r.length = wid p.1 ∧ allEl P Q r = true) ∧ p.2.length = p.1.length ∧ allEl P Q p.2 = true
/-- The commits of one linear statement. -/
def zipC (P Q : Int) (p : LinD) (c : Int) (rs : List Int) : List Int := List.zipWith (fun x y => decW P Q y x c) (imgs P p.1 (rs.take (wid p.1))) p.2
theorem cmts_step {P Q e : Int} {ps : List LinD} {q : LinD} {h r : List Int} {k c : Nat} (hd : ps.drop k = q :: ps.drop (k + 1)) (hh : h.drop k = e :: h.drop (k + 1)) :
    cmts P Q (ps.drop k) (h.drop k) (r.drop c) = zipC P Q q e (r.drop c) ++ cmts P Q (ps.drop (k + 1)) (h.drop (k + 1)) (r.drop (c + wid q.1)) := by
  rw [hd, hh]
  show _ ++ cmts P Q _ _ ((r.drop c).drop _) = _
  rw [List.drop_drop]; rfl
theorem zip_take {P Q e : Int} {xs ys : List Int} {x y : Int} {j : Nat} (hx : xs.drop j = x :: xs.drop (j + 1)) (hy : ys.drop j = y :: ys.drop (j + 1)) :
    (List.zipWith (fun x y => decW P Q y x e) xs ys).take (j + 1) = (List.zipWith (fun x y => decW P Q y x e) xs ys).take j ++ [decW P Q y x e] := by
  have hj : j < xs.length := by
    rcases Nat.lt_or_ge j xs.length with h | h
    · exact h
    · rw [List.drop_of_length_le h] at hx; cases hx
  have hj' : j < ys.length := by
    rcases Nat.lt_or_ge j ys.length with h | h
    · exact h
    · rw [List.drop_of_length_le h] at hy; cases hy
  rw [List.drop_eq_getElem_cons hj] at hx
  rw [List.drop_eq_getElem_cons hj'] at hy
  rw [List.take_succ_eq_append_getElem (by simp; omega)]
  simp only [List.getElem_zipWith]
  rw [(List.cons.inj hx).1, (List.cons.inj hy).1]
theorem nCols_all {ps : List LinD} {p : LinD} (h : p ∈ ps) : wid p.1 ≤ nCols ps := by
  induction ps with
  | nil => cases h
  | cons a t ih =>
    unfold nCols at *
    simp only [List.map_cons, List.sum_cons, List.mem_cons] at *
    rcases h with rfl | h
    · omega
    · have := ih h; omega
theorem nCols_split (ps : List LinD) (k : Nat) : nCols (ps.take k) + nCols (ps.drop k) = nCols ps := by
  unfold nCols
  rw [← List.sum_append, ← List.map_append, List.take_append_drop]

end Go.Proofs.Ytglfbhkdmkneoaa

/- Sigma proofs, the program: what is left of a challenge; the verifier; the prover. -/
namespace Go.Proofs.Ytglfbhkdmkneoaa
open Go.RowKit
set_option linter.unusedVariables false
set_option linter.unusedSimpArgs false

theorem ssub_any (q a b : Int) (h2 : 2 ≤ q) (h3 : q ≤ 2000000000) (ha0 : 0 ≤ a) (ha : a < q) (hb0 : 0 ≤ b) (hb : b < q) (w : World) :
    Calls Try.prog 85 #[.int .i64 q, .int .i64 a, .int .i64 b] w fun e w' => e = .returned (.int .i64 ((a - b) % q)) ∧ w = w' := by
  go_enter Try.func85, Try.ntmps85
  go_wp2
  go_ret
  refine ⟨?_, rfl⟩
  show Ending.returned (.int .i64 ((a - b + q) % q)) = _
  rw [Int.add_emod_right]
theorem subF_step {Q e t : Int} {cs rest : List Int} {c : Int} {k : Nat} (h : cs.drop k = c :: rest) (ht : t = subF Q e (cs.drop k)) : t = subF Q ((e - c) % Q) rest := by
  rw [ht, h, ← Int.add_emod_right]; rfl

theorem InE.dr {P : Nat} {w : World} {v : Value} {zs : List Int} (h : InE P w v zs) : InE P w.drew v zs := h
/-- What is left of a challenge, if there is one. -/
def msV (P Q G : Int) (s : ByteArray) (els cm ch : List Int) : Int := if chB P Q G s (els ++ cm) 3 then subF Q (chX P Q G s (els ++ cm)) ch else 0
def EqOut (v : Value) (w : World) (e : Ending) (w' : World) : Prop := e = .returned v ∧ Below w.heap.size w w'

theorem rows_pair {B C : Nat} {w : World} {x y : Value} {a b : List Int} (hx : InI B w x a) (hy : InI C w y b) (t : TypeId) : InS (w.alloc (.cells #[x, y] t)).heap.size (w.alloc (.cells #[x, y] t)) (.slice (some ⟨w.heap.size, 0, none⟩) 2 2) [a, b] := by
  have hb := ba w (.cells #[x, y] t)
  have h1 := hx.below hb
  have h2 := hy.below hb
  refine ⟨Nat.le_refl _, some ⟨w.heap.size, 0, none⟩, 2, rfl, (fun h => by cases h), .inr ⟨w.heap.size, 0, rfl, by simp, by simp, fun i z hz => ?_⟩⟩
  match i, hz with
  | 0, hz =>
    simp only [List.getElem?_cons_zero, Option.some.injEq] at hz; subst hz
    exact ⟨x, cell_here _ _ _ rfl _ _ _ rfl, h1.wide h1.le (Nat.le_refl _)⟩
  | 1, hz =>
    simp only [List.getElem?_cons_succ, List.getElem?_cons_zero, Option.some.injEq] at hz; subst hz
    exact ⟨y, cell_here _ _ _ rfl _ _ _ rfl, h2.wide h2.le (Nat.le_refl _)⟩
theorem concatRows_any {B : Nat} {v : Value} {w : World} {a b : List Int} (hl : a.length + b.length ≤ 4000000) (h0 : 0 < a.length) (hz : InS B w v [a, b]) :
    Calls Try.prog 127 #[v] w (OwnI w (a ++ b)) := by
  have h := concat_any (rows := [a, b]) (by simp) (by simp only [nS_cons]; simp [nS]; omega) (by simp only [nS_cons]; simp [nS]; omega) hz
  rwa [show [a, b].flatten = a ++ b by simp] at h

end Go.Proofs.Ytglfbhkdmkneoaa

