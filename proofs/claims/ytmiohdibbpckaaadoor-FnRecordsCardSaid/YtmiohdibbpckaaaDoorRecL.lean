/- ParseList of the reference: a text is split, its parts are read. -/
import Derived.Test.YtmiohdibbpckaaaDoorRecK
import Derived.Laws.Strings3
import Derived.Laws.Strings2
namespace Go.Proofs.YtmiohdibbpckaaaDoor
open Go.RowKit

theorem Tryd.infoST : (Tryd.prog.info? 9).map (fun i => (i.zero, i.size, i.bytes)) = some (some (.string ByteArray.empty), 1, 16) := by kernel_rfl

/-! ### The plain facts -/
/-- The parts of a text between the bytes b; cur: what the part at hand has so far. -/
def pcs (b : UInt8) : List UInt8 → List UInt8 → List (List UInt8)
  | cur, [] => [cur]
  | cur, c :: t => if c = b then cur :: pcs b [] t else pcs b (cur ++ [c]) t
theorem pcs_nil (b : UInt8) (cur : List UInt8) : pcs b cur [] = [cur] := by rw [pcs]
theorem pcs_sep (b : UInt8) (cur t : List UInt8) : pcs b cur (b :: t) = cur :: pcs b [] t := by rw [pcs, if_pos rfl]
theorem pcs_go {b c : UInt8} (cur t : List UInt8) (h : c ≠ b) : pcs b cur (c :: t) = pcs b (cur ++ [c]) t := by rw [pcs, if_neg h]
theorem pcs_length (b : UInt8) (t : List UInt8) : ∀ cur, (pcs b cur t).length ≤ t.length + 1 := by
  induction t with
  | nil => intro cur; simp [pcs_nil]
  | cons c t ih =>
    intro cur
    by_cases h : c = b
    · subst h; rw [pcs_sep]; have := ih []; simp; omega
    · rw [pcs_go _ _ h]; have := ih (cur ++ [c]); simp; omega
theorem pcs_head (b : UInt8) (t : List UInt8) : ∀ cur, ∃ x ps, pcs b cur t = (cur ++ x) :: ps := by
  induction t with
  | nil => intro cur; exact ⟨[], [], by simp [pcs_nil]⟩
  | cons c t ih =>
    intro cur
    by_cases h : c = b
    · subst h; exact ⟨[], pcs c [] t, by rw [pcs_sep, List.append_nil]⟩
    · obtain ⟨x, ps, hx⟩ := ih (cur ++ [c])
      exact ⟨c :: x, ps, by rw [pcs_go _ _ h, hx]; simp⟩
theorem ext_list (s : ByteArray) (a b : Nat) : (s.extract a b).data.toList = (s.data.toList.drop a).take (b - a) := by
  rw [ByteArray.data_extract, Array.toList_extract]
theorem take_more {L : List UInt8} {a i : Nat} (h : i < L.length) (ha : a ≤ i) : (L.drop a).take (i + 1 - a) = (L.drop a).take (i - a) ++ [L[i]] := by
  have hl : i - a < (L.drop a).length := by simp; omega
  rw [show i + 1 - a = i - a + 1 by omega, List.take_succ_eq_append_getElem hl]
  congr 2
  simp only [List.getElem_drop]
  congr 1; omega

/-- The digits of a number. -/
def dgF (l : List UInt8) (n : Int) : Option Int := l.foldlM (fun n c => dgN n c.toNat) n
theorem dgF_nil (n : Int) : dgF [] n = some n := rfl
theorem dgF_cons (c : UInt8) (t : List UInt8) (n : Int) : dgF (c :: t) n = (dgN n c.toNat).bind (dgF t) := by
  unfold dgF; rw [List.foldlM_cons]; rfl
theorem dgF_append (l t : List UInt8) (n : Int) : dgF (l ++ t) n = (dgF l n).bind (dgF t) := by
  unfold dgF; rw [List.foldlM_append]; rfl
def numO (l : List UInt8) : Option Int := if l = [] then none else dgF l (-1)
theorem numO_nil : numO [] = none := if_pos rfl
theorem numO_some {l : List UInt8} (h : l ≠ []) : numO l = dgF l (-1) := if_neg h
theorem dgF_range {l : List UInt8} : ∀ {n m : Int}, -1 ≤ n → dgF l n = some m → l ≠ [] → 0 ≤ m ∧ m ≤ 4611686018427387903 := by
  induction l with
  | nil => intro n m _ _ h; exact absurd rfl h
  | cons c t ih =>
    intro n m hn h _
    rw [dgF_cons] at h
    cases hd : dgN n c.toNat with
    | none => rw [hd] at h; cases h
    | some k =>
      rw [hd] at h
      have hk := dgN_range hn hd
      cases t with
      | nil => cases h; omega
      | cons d t => exact ih (by omega) h (by simp)
/-- More than 19 digits are too many. -/
theorem dgF_grow {l : List UInt8} : ∀ {n m : Int}, 1 ≤ n → dgF l n = some m → 10 ^ l.length * n ≤ m := by
  induction l with
  | nil => intro n m _ h; cases h; simp
  | cons c t ih =>
    intro n m hn h
    rw [dgF_cons] at h
    cases hd : dgN n c.toNat with
    | none => rw [hd] at h; cases h
    | some k =>
      rw [hd] at h
      have hk : 10 * n ≤ k := by
        unfold dgN at hd
        split at hd
        · cases hd
        split at hd
        · cases hd
        split at hd
        · cases hd
        split at hd
        · omega
        split at hd
        · cases hd
        · cases hd; omega
      have := ih (n := k) (m := m) (by omega) h
      have h2 : (10 : Int) ^ t.length * (10 * n) ≤ 10 ^ t.length * k := Int.mul_le_mul_of_nonneg_left hk (Int.pow_nonneg (by omega))
      rw [List.length_cons, Int.pow_succ, Int.mul_assoc]
      omega
theorem dgN_first {c m : Int} (h : dgN (-1) c = some m) : m = c - 48 ∧ 48 ≤ c ∧ c ≤ 57 := by
  have := dgN_range (by omega) h
  refine ⟨?_, this.2.2.1, this.2.2.2.1⟩
  unfold dgN at h
  rw [if_neg (by omega), if_neg (by omega), if_neg (by omega), if_pos rfl] at h
  exact (Option.some.inj h).symm
theorem numO_long {l : List UInt8} (h : 19 < l.length) : numO l = none := by
  cases hd : numO l with
  | none => rfl
  | some m =>
    exfalso
    cases l with
    | nil => simp at h
    | cons c t =>
      rw [numO_some (by simp), dgF_cons] at hd
      cases hc : dgN (-1) c.toNat with
      | none => rw [hc] at hd; cases hd
      | some k =>
        rw [hc] at hd
        have hk := dgN_first hc
        by_cases h0 : k = 0
        · subst h0
          cases t with
          | nil => simp at h
          | cons d t =>
            replace hd : dgF (d :: t) 0 = some m := hd
            rw [dgF_cons] at hd
            have : dgN 0 d.toNat = none := by
              cases hx : dgN 0 d.toNat with
              | none => rfl
              | some y => exact absurd rfl (dgN_range (by omega) hx).2.2.2.2
            rw [this] at hd; cases hd
        · replace hd : dgF t k = some m := hd
          have hg := dgF_grow (by omega) hd
          have hr := dgF_range (by omega) hd (by intro e; subst e; simp at h)
          have h19 : 19 ≤ t.length := by simp at h; omega
          have hp : (10 : Int) ^ 19 ≤ 10 ^ t.length := by
            have := Nat.pow_le_pow_right (n := 10) (by omega) h19
            exact_mod_cast this
          have : (10 : Int) ^ t.length * 1 ≤ 10 ^ t.length * k := Int.mul_le_mul_of_nonneg_left (by omega) (Int.pow_nonneg (by omega))
          have e : (10 : Int) ^ 19 = 10000000000000000000 := by decide
          omega
theorem numO_zero {c : UInt8} {t : List UInt8} (hc : c.toNat = 48) (ht : t ≠ []) : numO (c :: t) = none := by
  rw [numO_some (by simp), dgF_cons, hc]
  rw [show dgN (-1) ((48 : Nat) : Int) = some 0 by decide]
  cases t with
  | nil => exact absurd rfl ht
  | cons d t =>
    show dgF (d :: t) 0 = none
    rw [dgF_cons]
    have : dgN 0 d.toNat = none := by
      cases hx : dgN 0 d.toNat with
      | none => rfl
      | some y => exact absurd rfl (dgN_range (by omega) hx).2.2.2.2
    rw [this]; rfl

/-- The numbers of all parts. -/
def numsO (ps : List (List UInt8)) : Option (List Int) := ps.mapM numO
theorem numsO_nil : numsO [] = some [] := rfl
theorem numsO_cons (p : List UInt8) (ps : List (List UInt8)) : numsO (p :: ps) = (numO p).bind fun n => (numsO ps).map fun l => n :: l := by
  unfold numsO
  rw [List.mapM_cons]
  cases numO p with
  | none => rfl
  | some n => cases List.mapM numO ps <;> rfl
theorem numsO_facts {ps : List (List UInt8)} : ∀ {l : List Int}, numsO ps = some l → l.length = ps.length ∧ digsB l = true := by
  induction ps with
  | nil => intro l h; cases h; exact ⟨rfl, rfl⟩
  | cons p ps ih =>
    intro l h
    rw [numsO_cons] at h
    cases hp : numO p with
    | none => rw [hp] at h; cases h
    | some n =>
      rw [hp] at h
      cases hq : numsO ps with
      | none => rw [hq] at h; cases h
      | some t =>
        rw [hq] at h
        cases h
        obtain ⟨h1, h2⟩ := ih hq
        refine ⟨by simp [h1], digsB_true.2 fun z hz => ?_⟩
        rcases List.mem_cons.1 hz with rfl | hz
        · have hne : p ≠ [] := by rintro rfl; rw [numO_nil] at hp; cases hp
          rw [numO_some hne] at hp
          exact dgF_range (by omega) hp hne
        · exact digsB_true.1 h2 z hz
/-- The program's way through the parts. -/
def goP : List Int → List (List UInt8) → Option (List Int)
  | acc, [] => some acc
  | acc, p :: ps => (numO p).bind fun n => if acc.length = 400 then none else goP (acc ++ [n]) ps
theorem goP_nums (ps : List (List UInt8)) : ∀ acc : List Int, acc.length ≤ 400 → goP acc ps = (numsO ps).bind fun l => if acc.length + l.length ≤ 400 then some (acc ++ l) else none := by
  induction ps with
  | nil => intro acc h; simp [goP, numsO_nil, h]
  | cons p ps ih =>
    intro acc h
    rw [goP, numsO_cons]
    cases numO p with
    | none => rfl
    | some n =>
      simp only [Option.bind_some]
      by_cases h4 : acc.length = 400
      · rw [if_pos h4]
        cases numsO ps with
        | none => rfl
        | some l => simp; omega
      · rw [if_neg h4, ih (acc ++ [n]) (by simp; omega)]
        cases numsO ps with
        | none => rfl
        | some l => simp [Nat.add_assoc, Nat.add_comm 1]
theorem plN_pcs (rest : List UInt8) : ∀ (acc : List Int) (cur : List UInt8) (n : Int), dgF cur (-1) = some n → (cur = [] ↔ n = -1) → plN (rest ++ [44]) acc n = goP acc (pcs 44 cur rest) := by
  induction rest with
  | nil =>
    intro acc cur n h1 h2
    rw [pcs_nil, List.nil_append, plN_cons, goP]
    by_cases hn : n = -1
    · obtain rfl := h2.2 hn
      rw [show (((44 : UInt8).toNat : Nat) : Int) = 44 from rfl, plS_stop (.inl hn), numO_nil]; rfl
    · rw [numO_some (fun e => hn (h2.1 e)), h1]
      by_cases h4 : acc.length = 400
      · rw [show (((44 : UInt8).toNat : Nat) : Int) = 44 from rfl, plS_stop (.inr h4)]; simp [h4]
      · rw [show (((44 : UInt8).toNat : Nat) : Int) = 44 from rfl, plS_comma hn h4]; simp [h4, plN_nil, goP]
  | cons c t ih =>
    intro acc cur n h1 h2
    rw [List.cons_append, plN_cons]
    by_cases hc : c = 44
    · subst hc
      rw [pcs_sep, goP]
      by_cases hn : n = -1
      · obtain rfl := h2.2 hn
        rw [show (((44 : UInt8).toNat : Nat) : Int) = 44 from rfl, plS_stop (.inl hn), numO_nil]; rfl
      · rw [numO_some (fun e => hn (h2.1 e)), h1]
        by_cases h4 : acc.length = 400
        · rw [show (((44 : UInt8).toNat : Nat) : Int) = 44 from rfl, plS_stop (.inr h4)]; simp [h4]
        · rw [show (((44 : UInt8).toNat : Nat) : Int) = 44 from rfl, plS_comma hn h4]
          simp only [Option.bind_some, h4, if_false]
          exact ih _ [] (-1) rfl (by simp)
    · rw [pcs_go _ _ hc]
      have hci : ((c.toNat : Nat) : Int) ≠ 44 := by
        intro e
        exact hc (UInt8.toNat_inj.1 (by show c.toNat = 44; omega))
      rw [plS_digit hci]
      have hcur : dgF (cur ++ [c]) (-1) = dgN n c.toNat := by
        rw [dgF_append, h1]
        show dgF [c] n = _
        rw [dgF_cons]; cases dgN n c.toNat <;> rfl
      cases hd : dgN n c.toNat with
      | none =>
        obtain ⟨x, ps, hx⟩ := pcs_head 44 t (cur ++ [c])
        rw [hx, goP, numO_some (by simp), dgF_append, hcur, hd]; rfl
      | some m =>
        simp only [Option.map_some, Option.bind_some]
        refine ih acc (cur ++ [c]) m (by rw [hcur, hd]) ⟨fun h => by simp at h, fun h => ?_⟩
        have hn0 : -1 ≤ n := by
          by_cases e : cur = []
          · rw [h2.1 e]; omega
          · have := dgF_range (by omega) h1 e; omega
        have := dgN_range hn0 hd; omega
/-- What the program answers is what the parts' numbers say. -/
theorem plO_nums {s : ByteArray} (h : s ≠ ⟨#[45]⟩) : plO s = (numsO (pcs 44 [] s.data.toList)).bind fun l => if hashB l then some l else none := by
  rw [plO, if_neg h, plN_pcs _ [] [] (-1) rfl (by simp), goP_nums _ _ (by simp)]
  cases hq : numsO (pcs 44 [] s.data.toList) with
  | none => rfl
  | some l =>
    have := (numsO_facts hq).2
    simp [hashB, this]

/-! ### The reference splits a text -/
/-- The parts of a text in a row of the call's own. -/
def StrOut (w : World) (b : UInt8) (s : ByteArray) (e : Ending) (w' : World) : Prop :=
  ∃ (va : Option Addr) (k vc : Nat) (ws : List ByteArray), e = .returned (.slice va k vc) ∧ w'.ownsRow w.heap.size 9 1 (.slice va k vc) k (ws.map Value.string) ∧ ws.map (fun x => x.data.toList) = pcs b [] s.data.toList ∧ ws.length ≤ s.size + 1 ∧ (∀ x ∈ ws, x.size ≤ s.size) ∧ Below w.heap.size w w'

end Go.Proofs.YtmiohdibbpckaaaDoor

/- ParseList of the reference: a part is read; the list. -/
namespace Go.Proofs.YtmiohdibbpckaaaDoor
open Go.RowKit

/-- A number is read from its byte i on. -/
theorem dgF_at {s : ByteArray} {i : Nat} (hi : i < s.size) (n : Int) : dgF (s.data.toList.drop i) n = (dgN n (s[i]'hi).toNat).bind (dgF (s.data.toList.drop (i + 1))) := by
  have hl : i < s.data.toList.length := by simpa using hi
  rw [List.drop_eq_getElem_cons hl, dgF_cons]; rfl

theorem str_cell {w : World} {B q cap i : Nat} {ad : Option Addr} {ws : List ByteArray} {x : ByteArray} (h : w.ownsRow B 9 1 (.slice ad q cap) q (ws.map Value.string)) (hx : ws[i]? = some x) :
    ∃ b off, ad = some ⟨b, off, none⟩ ∧ w.cell? ⟨b, off + i, none⟩ = some (.string x) := by
  have hn : ws.length = q := by have := h.1; simpa using this
  have hi : i < q := by rw [← hn]; exact (List.getElem?_eq_some_iff.1 hx).1
  rcases h.2 with ⟨h1, h2⟩ | ⟨g, cap', cur, h1, _⟩
  · omega
  · simp only [Value.slice.injEq] at h1
    obtain ⟨rfl, _, rfl⟩ := h1
    have hc := World.ownsRow.cellAt h i (by omega)
    exact ⟨g, 0, rfl, by rw [Nat.zero_add, hc]; simp [hx]⟩

theorem numO_range {l : List UInt8} {m : Int} (h : numO l = some m) : 0 ≤ m ∧ m ≤ 4611686018427387903 := by
  have hne : l ≠ [] := by rintro rfl; rw [numO_nil] at h; cases h
  rw [numO_some hne] at h
  exact dgF_range (by omega) h hne

theorem plL_length (s : ByteArray) : (plL s).length ≤ 400 := by
  unfold plL
  by_cases hm : s = ⟨#[45]⟩
  · rw [plO, if_pos hm]; simp
  · rw [plO_nums hm]
    cases numsO (pcs 44 [] s.data.toList) with
    | none => simp
    | some l =>
      rw [Option.bind_some]
      split
      · rename_i h; exact (hashB_true.1 h).1
      · simp
theorem parseList_ans (s : ByteArray) (hs : s.size ≤ 1048576) (w : World) :
    Calls Tryd.prog 28 #[.string s] w (AnsI w (plL s) (plB s)) := parseList_any s hs w
end Go.Proofs.YtmiohdibbpckaaaDoor

