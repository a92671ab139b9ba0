/- ParseList of the reference: a text is split, its parts are read. -/
import Derived.Test.YtmiohdibbpckaaaRecK
import Derived.Laws.Strings3
import Derived.Laws.Strings2
namespace Go.Proofs.Ytmiohdibbpckaaa
open Go.RowKit

theorem Try.infoST : (Try.prog.info? 9).map (fun i => (i.zero, i.size, i.bytes)) = some (some (.string ByteArray.empty), 1, 16) := by kernel_rfl

/-! ### The plain facts -/
/-- The parts of a text between the bytes b; cur: what the part at hand has so far. -/
def pcs (b : UInt8) : List UInt8 → List UInt8 → List (List UInt8)
  | cur, [] => [cur]
  | cur, c :: t => if c = b then cur :: pcs b [] t else pcs b (cur ++ [c]) t
theorem pcs_nil (b : UInt8) (cur : List UInt8) : pcs b cur [] = [cur] := by rw [pcs]
theorem pcs_sep (b : UInt8) (cur t : List UInt8) : pcs b cur (b :: t) = cur :: pcs b [] t := by rw [pcs, if_pos rfl]
theorem pcs_go {b c : UInt8} (cur t : List UInt8) (h : c ≠ b) : pcs b cur (c :: t) = pcs b (cur ++ [c]) t := by rw [pcs, if_neg h]
theorem pcs_length (b : UInt8) (t : List UInt8) : ∀ cur, (pcs b cur t).length ≤ t.length + 1 := by
  induction t with
  | nil => intro cur; simp [pcs_nil]
  | cons c t ih =>
    intro cur
    by_cases h : c = b
    · subst h; rw [pcs_sep]; have := ih []; simp; omega
    · rw [pcs_go _ _ h]; have := ih (cur ++ [c]); simp; omega
theorem pcs_head (b : UInt8) (t : List UInt8) : ∀ cur, ∃ x ps, pcs b cur t = (cur ++ x) :: ps := by
  induction t with
  | nil => intro cur; exact ⟨[], [], by simp [pcs_nil]⟩
  | cons c t ih =>
    intro cur
    by_cases h : c = b
    · subst h; exact ⟨[], pcs c [] t, by rw [pcs_sep, List.append_nil]⟩
    · obtain ⟨x, ps, hx⟩ := ih (cur ++ [c])
      exact ⟨c :: x, ps, by rw [pcs_go _ _ h, hx]; simp⟩
theorem ext_list (s : ByteArray) (a b : Nat) : (s.extract a b).data.toList = (s.data.toList.drop a).take (b - a) := by
  rw [ByteArray.data_extract, Array.toList_extract]
theorem take_more {L : List UInt8} {a i : Nat} (h : i < L.length) (ha : a ≤ i) : (L.drop a).take (i + 1 - a) = (L.drop a).take (i - a) ++ [L[i]] := by
  have hl : i - a < (L.drop a).length := by simp; omega
  rw [show i + 1 - a = i - a + 1 by omega, List.take_succ_eq_append_getElem hl]
  congr 2
  simp only [List.getElem_drop]
  congr 1; omega

/-- The digits of a number. -/
def dgF (l : List UInt8) (n : Int) : Option Int := l.foldlM (fun n c => dgN n c.toNat) n
theorem dgF_nil (n : Int) : dgF [] n = some n := rfl
theorem dgF_cons (c : UInt8) (t : List UInt8) (n : Int) : dgF (c :: t) n = (dgN n c.toNat).bind (dgF t) := by
  unfold dgF; rw [List.foldlM_cons]; rfl
theorem dgF_append (l t : List UInt8) (n : Int) : dgF (l ++ t) n = (dgF l n).bind (dgF t) := by
  unfold dgF; rw [List.foldlM_append]; rfl
def numO (l : List UInt8) : Option Int := if l = [] then none else dgF l (-1)
theorem numO_nil : numO [] = none := if_pos rfl
theorem numO_some {l : List UInt8} (h : l ≠ []) : numO l = dgF l (-1) := if_neg h
theorem dgF_range {l : List UInt8} : ∀ {n m : Int}, -1 ≤ n → dgF l n = some m → l ≠ [] → 0 ≤ m ∧ m ≤ 4611686018427387903 := by
  induction l with
  | nil => intro n m _ _ h; exact absurd rfl h
  | cons c t ih =>
    intro n m hn h _
    rw [dgF_cons] at h
    cases hd : dgN n c.toNat with
    | none => rw [hd] at h; cases h
    | some k =>
      rw [hd] at h
      have hk := dgN_range hn hd
      cases t with
      | nil => cases h; omega
      | cons d t => exact ih (by omega) h (by simp)
/-- More than 19 digits are too many. -/
theorem dgF_grow {l : List UInt8} : ∀ {n m : Int}, 1 ≤ n → dgF l n = some m → 10 ^ l.length * n ≤ m := by
  induction l with
  | nil => intro n m _ h; cases h; simp
  | cons c t ih =>
    intro n m hn h
    rw [dgF_cons] at h
    cases hd : dgN n c.toNat with
    | none => rw [hd] at h; cases h
    | some k =>
      rw [hd] at h
      have hk : 10 * n ≤ k := by
        unfold dgN at hd
        split at hd
        · cases hd
        split at hd
        · cases hd
        split at hd
        · cases hd
        split at hd
        · omega
        split at hd
        · cases hd
        · cases hd; omega
      have := ih (n := k) (m := m) (by omega) h
      have h2 : (10 : Int) ^ t.length * (10 * n) ≤ 10 ^ t.length * k := Int.mul_le_mul_of_nonneg_left hk (Int.pow_nonneg (by omega))
      rw [List.length_cons, Int.pow_succ, Int.mul_assoc]
      omega
theorem dgN_first {c m : Int} (h : dgN (-1) c = some m) : m = c - 48 ∧ 48 ≤ c ∧ c ≤ 57 := by
  have := dgN_range (by omega) h
  refine ⟨?_, this.2.2.1, this.2.2.2.1⟩
  unfold dgN at h
  rw [if_neg (by omega), if_neg (by omega), if_neg (by omega), if_pos rfl] at h
  exact (Option.some.inj h).symm
theorem numO_long {l : List UInt8} (h : 19 < l.length) : numO l = none := by
  cases hd : numO l with
  | none => rfl
  | some m =>
    exfalso
    cases l with
    | nil => simp at h
    | cons c t =>
      rw [numO_some (by simp), dgF_cons] at hd
      cases hc : dgN (-1) c.toNat with
      | none => rw [hc] at hd; cases hd
      | some k =>
        rw [hc] at hd
        have hk := dgN_first hc
        by_cases h0 : k = 0
        · subst h0
          cases t with
          | nil => simp at h
          | cons d t =>
            replace hd : dgF (d :: t) 0 = some m := hd
            rw [dgF_cons] at hd
            have : dgN 0 d.toNat = none := by
              cases hx : dgN 0 d.toNat with
              | none => rfl
              | some y => exact absurd rfl (dgN_range (by omega) hx).2.2.2.2
            rw [this] at hd; cases hd
        · replace hd : dgF t k = some m := hd
          have hg := dgF_grow (by omega) hd
          have hr := dgF_range (by omega) hd (by intro e; subst e; simp at h)
          have h19 : 19 ≤ t.length := by simp at h; omega
          have hp : (10 : Int) ^ 19 ≤ 10 ^ t.length := by
            have := Nat.pow_le_pow_right (n := 10) (by omega) h19
            exact_mod_cast this
          have : (10 : Int) ^ t.length * 1 ≤ 10 ^ t.length * k := Int.mul_le_mul_of_nonneg_left (by omega) (Int.pow_nonneg (by omega))
          have e : (10 : Int) ^ 19 = 10000000000000000000 := by decide
          omega
theorem numO_zero {c : UInt8} {t : List UInt8} (hc : c.toNat = 48) (ht : t ≠ []) : numO (c :: t) = none := by
  rw [numO_some (by simp), dgF_cons, hc]
  rw [show dgN (-1) ((48 : Nat) : Int) = some 0 by decide]
  cases t with
  | nil => exact absurd rfl ht
  | cons d t =>
    show dgF (d :: t) 0 = none
    rw [dgF_cons]
    have : dgN 0 d.toNat = none := by
      cases hx : dgN 0 d.toNat with
      | none => rfl
      | some y => exact absurd rfl (dgN_range (by omega) hx).2.2.2.2
    rw [this]; rfl

/-- The numbers of all parts. -/
def numsO (ps : List (List UInt8)) : Option (List Int) := ps.mapM numO
theorem numsO_nil : numsO [] = some [] := rfl
theorem numsO_cons (p : List UInt8) (ps : List (List UInt8)) : numsO (p :: ps) = (numO p).bind fun n => (numsO ps).map fun l => n :: l := by
  unfold numsO
  rw [List.mapM_cons]
  cases numO p with
  | none => rfl
  | some n => cases List.mapM numO ps <;> rfl
theorem numsO_facts {ps : List (List UInt8)} : ∀ {l : List Int}, numsO ps = some l → l.length = ps.length ∧ digsB l = true := by
  induction ps with
  | nil => intro l h; cases h; exact ⟨rfl, rfl⟩
  | cons p ps ih =>
    intro l h
    rw [numsO_cons] at h
    cases hp : numO p with
    | none => rw [hp] at h; cases h
    | some n =>
      rw [hp] at h
      cases hq : numsO ps with
      | none => rw [hq] at h; cases h
      | some t =>
        rw [hq] at h
        cases h
        obtain ⟨h1, h2⟩ := ih hq
        refine ⟨by simp [h1], digsB_true.2 fun z hz => ?_⟩
        rcases List.mem_cons.1 hz with rfl | hz
        · have hne : p ≠ [] := by rintro rfl; rw [numO_nil] at hp; cases hp
          rw [numO_some hne] at hp
          exact dgF_range (by omega) hp hne
        · exact digsB_true.1 h2 z hz
/-- The program's way through the parts. -/
def goP : List Int → List (List UInt8) → Option (List Int)
  | acc, [] => some acc
  | acc, p :: ps => (numO p).bind fun n => if acc.length = 400 then none else goP (acc ++ [n]) ps
theorem goP_nums (ps : List (List UInt8)) : ∀ acc : List Int, acc.length ≤ 400 → goP acc ps = (numsO ps).bind fun l => if acc.length + l.length ≤ 400 then some (acc ++ l) else none := by
  induction ps with
  | nil => intro acc h; simp [goP, numsO_nil, h]
  | cons p ps ih =>
    intro acc h
    rw [goP, numsO_cons]
    cases numO p with
    | none => rfl
    | some n =>
      simp only [Option.bind_some]
      by_cases h4 : acc.length = 400
      · rw [if_pos h4]
        cases numsO ps with
        | none => rfl
        | some l => simp; omega
      · rw [if_neg h4, ih (acc ++ [n]) (by simp; omega)]
        cases numsO ps with
        | none => rfl
        | some l => simp [Nat.add_assoc, Nat.add_comm 1]
theorem plN_pcs (rest : List UInt8) : ∀ (acc : List Int) (cur : List UInt8) (n : Int), dgF cur (-1) = some n → (cur = [] ↔ n = -1) → plN (rest ++ [44]) acc n = goP acc (pcs 44 cur rest) := by
  induction rest with
  | nil =>
    intro acc cur n h1 h2
    rw [pcs_nil, List.nil_append, plN_cons, goP]
    by_cases hn : n = -1
    · obtain rfl := h2.2 hn
      rw [show (((44 : UInt8).toNat : Nat) : Int) = 44 from rfl, plS_stop (.inl hn), numO_nil]; rfl
    · rw [numO_some (fun e => hn (h2.1 e)), h1]
      by_cases h4 : acc.length = 400
      · rw [show (((44 : UInt8).toNat : Nat) : Int) = 44 from rfl, plS_stop (.inr h4)]; simp [h4]
      · rw [show (((44 : UInt8).toNat : Nat) : Int) = 44 from rfl, plS_comma hn h4]; simp [h4, plN_nil, goP]
  | cons c t ih =>
    intro acc cur n h1 h2
    rw [List.cons_append, plN_cons]
    by_cases hc : c = 44
    · subst hc
      rw [pcs_sep, goP]
      by_cases hn : n = -1
      · obtain rfl := h2.2 hn
        rw [show (((44 : UInt8).toNat : Nat) : Int) = 44 from rfl, plS_stop (.inl hn), numO_nil]; rfl
      · rw [numO_some (fun e => hn (h2.1 e)), h1]
        by_cases h4 : acc.length = 400
        · rw [show (((44 : UInt8).toNat : Nat) : Int) = 44 from rfl, plS_stop (.inr h4)]; simp [h4]
        · rw [show (((44 : UInt8).toNat : Nat) : Int) = 44 from rfl, plS_comma hn h4]
          simp only [Option.bind_some, h4, if_false]
          exact ih _ [] (-1) rfl (by simp)
    · rw [pcs_go _ _ hc]
      have hci : ((c.toNat : Nat) : Int) ≠ 44 := by
        intro e
        exact hc (UInt8.toNat_inj.1 (by show c.toNat = 44; omega))
      rw [plS_digit hci]
      have hcur : dgF (cur ++ [c]) (-1) = dgN n c.toNat := by
        rw [dgF_append, h1]
        show dgF [c] n = _
        rw [dgF_cons]; cases dgN n c.toNat <;> rfl
      cases hd : dgN n c.toNat with
      | none =>
        obtain ⟨x, ps, hx⟩ := pcs_head 44 t (cur ++ [c])
        rw [hx, goP, numO_some (by simp), dgF_append, hcur, hd]; rfl
      | some m =>
        simp only [Option.map_some, Option.bind_some]
        refine ih acc (cur ++ [c]) m (by rw [hcur, hd]) ⟨fun h => by simp at h, fun h => ?_⟩
        have hn0 : -1 ≤ n := by
          by_cases e : cur = []
          · rw [h2.1 e]; omega
          · have := dgF_range (by omega) h1 e; omega
        have := dgN_range hn0 hd; omega
/-- What the program answers is what the parts' numbers say. -/
theorem plO_nums {s : ByteArray} (h : s ≠ ⟨#[45]⟩) : plO s = (numsO (pcs 44 [] s.data.toList)).bind fun l => if hashB l then some l else none := by
  rw [plO, if_neg h, plN_pcs _ [] [] (-1) rfl (by simp), goP_nums _ _ (by simp)]
  cases hq : numsO (pcs 44 [] s.data.toList) with
  | none => rfl
  | some l =>
    have := (numsO_facts hq).2
    simp [hashB, this]

/-! ### The reference splits a text -/
/-- The parts of a text in a row of the call's own. -/
def StrOut (w : World) (b : UInt8) (s : ByteArray) (e : Ending) (w' : World) : Prop :=
  ∃ (va : Option Addr) (k vc : Nat) (ws : List ByteArray), e = .returned (.slice va k vc) ∧ w'.ownsRow w.heap.size 9 1 (.slice va k vc) k (ws.map Value.string) ∧ ws.map (fun x => x.data.toList) = pcs b [] s.data.toList ∧ ws.length ≤ s.size + 1 ∧ (∀ x ∈ ws, x.size ≤ s.size) ∧ Below w.heap.size w w'

set_option maxRecDepth 100000 in
set_option maxHeartbeats 1600000 in
theorem l1Split_any (s : ByteArray) (b : UInt8) (hs : s.size ≤ 1048576) (w : World) :
    Calls Try.prog 71 #[.string s, .int .u8 b.toNat] w (StrOut w b s) := by
  have hsi : (s.size : Int) ≤ 1048576 := by omega
  obtain ⟨i0, hi, hz0, hz1, hz2⟩ := info_parts Try.infoST
  have HLN := Lib.hid (show s.data.toList.length = s.size by simp)
  go_enter Try.func71, Try.ntmps71
  go_wp2
  go_loopw [5, 6, 7] (fun V F I wr => ∃ (i a k : Nat) (va : Option Addr) (vc : Nat) (ws : List ByteArray), i ≤ s.size ∧ a ≤ i ∧ I = .int .i64 i ∧ F = .int .i64 a ∧ V = .slice va k vc ∧ wr.ownsRow w.heap.size 9 1 (.slice va k vc) k (ws.map Value.string) ∧ Below w.heap.size w wr ∧ k ≤ a ∧ (∀ x ∈ ws, x.size ≤ s.size) ∧ ws.map (fun x => x.data.toList) ++ pcs b ((s.data.toList.drop a).take (i - a)) (s.data.toList.drop i) = pcs b [] s.data.toList) (fun _ _ I _ => s.size - (intOf I).toNat)
  case atStart => exact ⟨0, 0, 0, none, 0, [], Nat.zero_le _, Nat.zero_le _, rfl, rfl, rfl, World.ownsRow_nil _ _ _ _, Below.refl _ _, Nat.zero_le _, by simp, by simp⟩
  case round =>
    obtain ⟨i, a, k, va, vc, ws, his, hai, rfl, rfl, rfl, hown, hbel, hka, hsz, heq⟩ := hrel
    have hkl : ws.length = k := by have := hown.1; simpa using this
    have HO := Lib.hid hown
    have HB := Lib.hid hbel
    have HKL := Lib.hid hkl
    have HSZ := Lib.hid hsz
    have HEQ := Lib.hid heq
    clear hown hbel hsz hkl heq
    have hai0 : (a : Int) ≤ (i : Int) := by omega
    have hisi : (i : Int) ≤ (s.size : Int) := by omega
    by_cases hi1 : i < s.size
    · have hi1i : (i : Int) < (s.size : Int) := by omega
      have hlt : i < s.data.toList.length := by rw [HLN.out]; exact hi1
      have HD := Lib.hid (show s.data.toList.drop i = (s[i]'hi1) :: s.data.toList.drop (i + 1) by rw [List.drop_eq_getElem_cons hlt]; rfl)
      have HT := Lib.hid (show (s.data.toList.drop a).take (i + 1 - a) = (s.data.toList.drop a).take (i - a) ++ [s[i]'hi1] from take_more hlt hai)
      clear hlt
      by_cases hc : (s[i]'hi1) = b
      · have e1 : (((s[i]'hi1).toNat : Int) == (b.toNat : Int)) = true := by rw [beq_iff_eq, hc]
        have HR := Lib.hid (show (ws ++ [s.extract a i]).map (fun x => x.data.toList) ++ pcs b ((s.data.toList.drop (i + 1)).take (i + 1 - (i + 1))) (s.data.toList.drop (i + 1)) = pcs b [] s.data.toList by
          rw [← HEQ.out, HD.out, hc, pcs_sep]; simp)
        have HS2 := Lib.hid (show ∀ x ∈ ws ++ [s.extract a i], x.size ≤ s.size by
          intro x hx
          rcases List.mem_append.1 hx with hx | hx
          · exact HSZ.out x hx
          · obtain rfl := List.mem_singleton.1 hx
            rw [ByteArray.size_extract]; omega)
        generalize hx : s.extract a i = x at HR HS2
        clear hc
        go_wp2_with (at_builtin; refine wpList_append_own _ rfl _ _ 81 rfl w.heap.size 9 i0 (.string ByteArray.empty) 1 16 Try.underlying81 hi hz0 hz1 hz2 rfl (by decide) _ k (ws.map Value.string) rfl (HO.out.alloc _) ⟨wr.heap.size, 0, none⟩ 1 1 [.string x] rfl rfl (cell_one_new _ _ _) (by intro u hu; simp at hu; subst hu; rfl) (by unfold maxLen; omega) (by omega) (Nat.le_trans HB.out.size (ba wr _).size) ?_; intro v' w2 hown' hgrow _; obtain ⟨va', vc', rfl⟩ := own_shape hown'; have HO2 := Lib.hid hown'; have HB2 := Lib.hid ((HB.out.trans ((ba wr _).mono HB.out.size)).grown hgrow (Nat.le_trans HB.out.size (ba wr _).size) (fun q hq => (HO.out.lt q hq).1)); clear hown' hgrow)
        go_roundw
        case rel => exact ⟨i + 1, i + 1, k + 1, va', vc', ws ++ [x], by omega, by omega, by go_num, by go_num, rfl, by simpa using HO2.out, HB2.out, by omega, HS2.out, HR.out⟩
        case measure => simp only [intOf]; omega
      · have e1 : (((s[i]'hi1).toNat : Int) == (b.toNat : Int)) = false := by
          rw [beq_eq_false_iff_ne]; intro h; exact hc (UInt8.toNat_inj.1 (by omega))
        have HR := Lib.hid (show ws.map (fun x => x.data.toList) ++ pcs b ((s.data.toList.drop a).take (i + 1 - a)) (s.data.toList.drop (i + 1)) = pcs b [] s.data.toList by
          rw [← HEQ.out, HD.out, pcs_go _ _ hc, HT.out])
        clear hc
        go_wp2
        go_roundw
        case rel => exact ⟨i + 1, a, k, va, vc, ws, by omega, by omega, by go_num, rfl, rfl, HO.out, HB.out, by omega, HSZ.out, HR.out⟩
        case measure => simp only [intOf]; omega
    · obtain rfl : i = s.size := by omega
      have HR := Lib.hid (show (ws ++ [s.extract a s.size]).map (fun x => x.data.toList) = pcs b [] s.data.toList by
        rw [← HEQ.out, show s.data.toList.drop s.size = [] from List.drop_eq_nil_of_le (by rw [HLN.out]; omega), pcs_nil]; simp)
      have HS2 := Lib.hid (show ∀ x ∈ ws ++ [s.extract a s.size], x.size ≤ s.size by
        intro x hx
        rcases List.mem_append.1 hx with hx | hx
        · exact HSZ.out x hx
        · obtain rfl := List.mem_singleton.1 hx
          rw [ByteArray.size_extract]; omega)
      generalize hx : s.extract a s.size = x at HR HS2
      go_wp2_with (at_builtin; refine wpList_append_own _ rfl _ _ 81 rfl w.heap.size 9 i0 (.string ByteArray.empty) 1 16 Try.underlying81 hi hz0 hz1 hz2 rfl (by decide) _ k (ws.map Value.string) rfl (HO.out.alloc _) ⟨wr.heap.size, 0, none⟩ 1 1 [.string x] rfl rfl (cell_one_new _ _ _) (by intro u hu; simp at hu; subst hu; rfl) (by unfold maxLen; omega) (by omega) (Nat.le_trans HB.out.size (ba wr _).size) ?_; intro v' w2 hown' hgrow _; obtain ⟨va', vc', rfl⟩ := own_shape hown'; have HO2 := Lib.hid hown'; have HB2 := Lib.hid ((HB.out.trans ((ba wr _).mono HB.out.size)).grown hgrow (Nat.le_trans HB.out.size (ba wr _).size) (fun q hq => (HO.out.lt q hq).1)); clear hown' hgrow)
      go_ret
      exact ⟨va', k + 1, vc', ws ++ [x], rfl, by simpa using HO2.out, HR.out, by simp [HKL.out]; omega, HS2.out, HB2.out⟩

end Go.Proofs.Ytmiohdibbpckaaa

