/- SplitRecords of the program and of the reference. -/
import Derived.Test.YtmiohdibbpckaaaRecE
namespace Go.Proofs.Ytmiohdibbpckaaa
open Go.RowKit

theorem InI.cut {P : Nat} {w : World} {b off n cap : Nat} {x : Int} {t : List Int} (h : InI P w (.slice (some ⟨b, off, none⟩) (n + 1) cap) (x :: t)) (hn : t.length = n) :
    InI P w (.slice (if cap = 1 then some ⟨b, off, none⟩ else some ⟨b, off + 1, none⟩) n (cap - 1)) t := by
  have hc := h.cap
  have hp := h.parts
  have hq := hp.2.1.cut (cap := cap) 1 (by simp) (by simp; omega)
  rw [List.drop_one, List.tail_cons] at hq
  refine ⟨h.1, _, cap - 1, by rw [hn], hq, fun h0 => ?_, by omega⟩
  split at h0 <;> cases h0

set_option maxRecDepth 100000 in
set_option maxHeartbeats 1600000 in
theorem splitRecords_any {P : Nat} {w : World} {v : Value} {zs : List Int} (h : InI P w v zs) (hl : zs.length ≤ 1048576) :
    Calls Try.prog 45 #[v] w (AnsS w (if hashB zs then splRes (zs.headD 0).toNat (zs.drop 1) else []) (hashB zs && decide (0 < zs.length) && splOk (zs.headD 0).toNat (zs.drop 1))) := by
  obtain ⟨ad, cap, rfl⟩ := h.shape
  obtain ⟨hzl, hin, hnil⟩ := h.parts
  cases zs with
  | nil =>
    rw [show (if hashB [] = true then splRes (([] : List Int).headD 0).toNat (([] : List Int).drop 1) else []) = [] from by split <;> rfl, show (hashB [] && decide (0 < ([] : List Int).length) && splOk (([] : List Int).headD 0).toNat (([] : List Int).drop 1)) = false from by simp]
    clear h hin
    simp only [List.length_nil]
    go_enter Try.func45, Try.ntmps45
    go_wp2
    go_ret2
    exact ansS_nil (Below.refl _ _)
  | cons x t =>
    generalize hn : t.length = n at *
    have hlen : (x :: t).length = n + 1 := by simp [hn]
    rw [hlen] at h hl ⊢
    have HL := Lib.hid hlen
    have HI := Lib.hid hin.ints
    have hm0 : ((((n + 1 : Nat)) : Int) == 0) = false := by rw [beq_eq_false_iff_ne]; omega
    have hm1 : ((n : Int) + 1 == 0) = false := by rw [beq_eq_false_iff_ne]; omega
    cases hr : hashB (x :: t)
    · rw [show (if false = true then splRes ((x :: t).headD 0).toNat ((x :: t).drop 1) else []) = [] from rfl, show (false && decide (0 < n + 1) && splOk ((x :: t).headD 0).toNat ((x :: t).drop 1)) = false from rfl]
      have HR := Lib.hid hr
      clear hr h hin hlen hn hzl
      go_enter Try.func45, Try.ntmps45
      go_wp2_with fail
      refine (isRecord_any _ _ _ (x :: t) HL.out (by omega) _ HI.out).mono ?_
      rw [HR.out]
      rintro e w' ⟨rfl, rfl⟩
      go_wp2
      go_ret2
      exact ansS_nil (Below.refl _ _)
    · have hdg := digsB_true.1 (hashB_true.1 hr).2
      obtain ⟨hx0, hx1⟩ := hdg x (by simp)
      obtain ⟨q, rfl⟩ : ∃ q : Nat, x = q := ⟨x.toNat, by omega⟩
      rw [show (if true = true then splRes (((q : Int) :: t).headD 0).toNat (((q : Int) :: t).drop 1) else []) = splRes q t from by simp, show (true && decide (0 < n + 1) && splOk (((q : Int) :: t).headD 0).toNat (((q : Int) :: t).drop 1)) = splOk q t from by simp]
      obtain ⟨b, off, z, rfl, hbl, hc, hdr⟩ := hin.ints.at (k := 0) (by simp)
      obtain rfl : (q : Int) = z := by simpa using (List.cons.inj hdr).1
      rw [Nat.add_zero] at hc
      have HR := Lib.hid hr
      have hcut := (h.cut hn).belowP ((Below.refl P w).drew)
      have HD := Lib.hid (fun z (hz : z ∈ t) => hdg z (List.mem_cons_of_mem _ hz))
      have HN := Lib.hid (show t.length ≤ 1048576 by omega)
      have hq1 : q ≤ 4611686018427387903 := by omega
      have hm2 : (1 : Int) ≤ ((n + 1 : Nat) : Int) := by omega
      have hm3 : 0 < n + 1 := by omega
      have hm4 : (1 : Int) ≤ (n : Int) + 1 := by omega
      have hm5 : 0 < (n : Int) + 1 := by omega
      by_cases g1 : cap = 1
      · subst g1
        rw [if_pos rfl] at hcut
        have HC := Lib.hid (show InI P w.drew (.slice (some ⟨b, off, none⟩) n 0) t from hcut)
        clear hr h hin hlen hn hzl hdg hdr hcut
        go_enter Try.func45, Try.ntmps45
        go_wp2_with fail
        refine (isRecord_any _ _ _ _ HL.out (by omega) _ HI.out).mono ?_
        rw [HR.out]
        rintro e w' ⟨rfl, rfl⟩
        go_wp2
        go_region_held3 (fun w' => w'.cell? ⟨b, off, none⟩ = some (.int .i64 q)) (first | with_reducible exact y0 | exact hc) ((first | (go_at_call 55; (with_reducible refine (decodeParts_any q HC.out HN.out HD.out hq1).mono ?_); rintro e wa ⟨va, rfl, hoa, hba⟩; have HOa := Lib.hid (show OwS w.heap.size wa.heap.size wa va (splRes q t) from hoa); have HBa := Lib.hid (show Below w.heap.size w wa from bt ((Below.refl _ w).drew) hba); have y0 := (HBa.out.cell (p := ⟨b, off, none⟩) hbl).trans hc; clear hoa hba)))
        all_goals (
          go_wp2
          go_ret2
          exact ⟨va, rfl, HOa.out, HBa.out⟩)
      · rw [if_neg g1] at hcut
        have HC := Lib.hid hcut
        clear hr h hin hlen hn hzl hdg hdr hcut
        go_enter Try.func45, Try.ntmps45
        go_wp2_with fail
        refine (isRecord_any _ _ _ _ HL.out (by omega) _ HI.out).mono ?_
        rw [HR.out]
        rintro e w' ⟨rfl, rfl⟩
        go_wp2
        go_region_held3 (fun w' => w'.cell? ⟨b, off, none⟩ = some (.int .i64 q)) (first | with_reducible exact y0 | exact hc) ((first | (go_at_call 55; (with_reducible refine (decodeParts_any q HC.out HN.out HD.out hq1).mono ?_); rintro e wa ⟨va, rfl, hoa, hba⟩; have HOa := Lib.hid (show OwS w.heap.size wa.heap.size wa va (splRes q t) from hoa); have HBa := Lib.hid (show Below w.heap.size w wa from bt ((Below.refl _ w).drew) hba); have y0 := (HBa.out.cell (p := ⟨b, off, none⟩) hbl).trans hc; clear hoa hba)))
        all_goals (
          go_wp2
          go_ret2
          exact ⟨va, rfl, HOa.out, HBa.out⟩)

/-! ### The reference -/
/-- What is taken from the front: a list of one's own, and the rest, which stays where it is. -/
def TakeOut (P : Nat) (w : World) (zs : List Int) (e : Ending) (w' : World) : Prop :=
  ∃ a r, e = .returned (.tuple #[a, r, .bool true]) ∧ OwI w.heap.size w'.heap.size w' a (tkA zs) ∧ InI P w' r (tkR zs) ∧ Below w.heap.size w w'

theorem l4Take_no {P : Nat} {w : World} {v : Value} {zs : List Int} (h : InI P w v zs) (hl : zs.length ≤ 1048576) (hb : tkB zs = false) :
    Calls Try.prog 68 #[v] w fun e w' => e = .returned (.tuple #[.slice none 0 0, .slice none 0 0, .bool false]) ∧ w = w' := by
  obtain ⟨ad, cap, rfl⟩ := h.shape
  obtain ⟨hzl, hin, hnil⟩ := h.parts
  cases zs with
  | nil =>
    clear h hin
    simp only [List.length_nil]
    go_enter Try.func68, Try.ntmps68
    go_wp2
    go_ret3
    exact ⟨rfl, rfl⟩
  | cons x t =>
    obtain ⟨b, off, z, rfl, hbl, hc, hdr⟩ := hin.ints.at (k := 0) (by simp)
    obtain rfl : x = z := by simpa using (List.cons.inj hdr).1
    rw [Nat.add_zero] at hc
    simp only [List.length_cons] at hl ⊢
    generalize hn : t.length = n at *
    have hx : x < 0 ∨ (n : Int) + 1 ≤ x := by
      rw [← Bool.not_eq_true, tkB_cons] at hb; omega
    have hm1 : ((n : Int) + 1 == 0) = false := by rw [beq_eq_false_iff_ne]; omega
    have hm3 : 0 < n + 1 := by omega
    have hm5 : 0 < (n : Int) + 1 := by omega
    clear h hin hb hn hdr hzl
    rcases hx with hx | hx
    · go_enter Try.func68, Try.ntmps68
      go_wp2
      go_ret3
      exact ⟨rfl, rfl⟩
    · have hx2 : ¬ x < 0 := by omega
      go_enter Try.func68, Try.ntmps68
      go_wp2
      go_ret3
      exact ⟨rfl, rfl⟩

def OwnN (w : World) (n : Nat) (zs : List Int) (e : Ending) (w' : World) : Prop :=
  ∃ (va : Option Addr) (vc : Nat), e = .returned (.slice va n vc) ∧ w'.ownsRow w.heap.size 3 1 (.slice va n vc) n (zs.map (Value.int .i64)) ∧ Below w.heap.size w w'
theorem l1Own_n (ad : Option Addr) (n cap : Nat) (zs : List Int) (hn : zs.length = n) (hl : n ≤ 1000000000) (hnil : ad = none → cap = 0) (w : World) (hz : IsInts w ad zs) :
    Calls Try.prog 73 #[.slice ad n cap] w (OwnN w n zs) := by
  subst hn
  exact l1Own_any ad _ cap zs rfl hl hnil w hz

theorem inI_mk {P : Nat} {w : World} {ad : Option Addr} {n cap : Nat} {zs : List Int} (h0 : P ≤ w.heap.size) (h : InB P w ad zs) (hn : zs.length = n) (hnil : ad = none → cap = 0) (hc : n ≤ cap) : InI P w (.slice ad n cap) zs := by
  subst hn
  exact ⟨h0, ad, cap, rfl, h, hnil, hc⟩

set_option maxRecDepth 100000 in
set_option maxHeartbeats 1600000 in
theorem l4Take_yes {P : Nat} {w : World} {v : Value} {zs : List Int} (h : InI P w v zs) (hl : zs.length ≤ 1048576) (hb : tkB zs = true) :
    Calls Try.prog 68 #[v] w (TakeOut P w zs) := by
  obtain ⟨ad, cap, rfl⟩ := h.shape
  obtain ⟨hzl, hin, hnil⟩ := h.parts
  have hcap := h.cap
  have hP := h.1
  cases zs with
  | nil => simp [tkB] at hb
  | cons x t =>
    obtain ⟨b, off, z, rfl, hbl, hc, hdr⟩ := hin.ints.at (k := 0) (by simp)
    obtain rfl : x = z := by simpa using (List.cons.inj hdr).1
    rw [Nat.add_zero] at hc
    obtain ⟨hx0, hx1⟩ := tkB_cons.1 hb
    obtain ⟨q, rfl⟩ : ∃ q : Nat, x = (q : Int) := ⟨x.toNat, by omega⟩
    have eA : tkA ((q : Int) :: t) = t.take q := by simp [tkA]
    have eR : tkR ((q : Int) :: t) = t.drop q := by simp [tkR, Nat.add_comm 1 q]
    have c1 := (hin.cut (cap := cap) 1 (by simp) (by simpa using hcap)).takeN q
    have c2 := hin.cut (cap := cap) (q + 1) (by simp; omega) (by simpa using hcap)
    rw [List.drop_one, List.tail_cons] at c1
    rw [List.drop_succ_cons] at c2
    simp only [List.length_cons] at hl hcap ⊢
    generalize hn : t.length = n at *
    have hm1 : ((n : Int) + 1 == 0) = false := by rw [beq_eq_false_iff_ne]; omega
    have hm3 : 0 < n + 1 := by omega
    have hm5 : 0 < (n : Int) + 1 := by omega
    have hx2 : ¬ (q : Int) < 0 := by omega
    have hx3 : (q : Int) < (n : Int) + 1 := by omega
    have hx4 : q < n + 1 := by omega
    have hq0 : 0 ≤ (q : Int) := by omega
    have hq1 : (q : Int) ≤ 1048576 := by omega
    have hq2 : (q : Int) + 1 ≤ (n : Int) + 1 := by omega
    have hq3 : (q : Int) + 1 ≤ (cap : Int) := by omega
    have hq5 : q ≤ n := by omega
    have hq6 : (q : Int) ≤ (n : Int) := by omega
    have hq8 : (0 : Int) ≤ (q : Int) + 1 := by omega
    have hq9 : (q : Int) + 1 ≤ ((n + 1 : Nat) : Int) := by omega
    have hq10 : ((q : Int) + 1).toNat = q + 1 := by omega
    have hq4 : (1 : Int) ≤ (q : Int) + 1 := by omega
    have HEA := Lib.hid eA
    have HER := Lib.hid eR
    have HLA := Lib.hid (show (t.take q).length = q by simp; omega)
    have HLR := Lib.hid (show (t.drop q).length = n - q by simp; omega)
    by_cases g1 : cap = 1
    · subst g1
      obtain rfl : n = 0 := by omega
      obtain rfl : q = 0 := by omega
      rw [if_pos rfl] at c1 c2
      rw [show ((0 : Nat) : Int) = 0 from rfl] at hc
      have HC1 := Lib.hid (c1.below ((Below.refl P w).drew))
      have HC2 := Lib.hid c2
      clear h hin hzl hb hdr c1 c2 hn eA eR
      go_enter Try.func68, Try.ntmps68
      go_wp2
      first | (go_region_held3 (fun w' => True) (trivial) ((first | (go_at_call 73; (refine (l1Own_n (some ⟨b, off, none⟩) 0 0 (t.take 0) HLA.out (by omega) (fun h => by cases h) _ (by exact HC1.out.ints)).mono ?_); rintro e wa ⟨va, vc, rfl, hoa, hba⟩; have HOa := Lib.hid (show wa.ownsRow w.heap.size 3 1 (.slice va 0 vc) 0 ((t.take 0).map (Value.int .i64)) from hoa); have HBa := Lib.hid (show Below w.heap.size w wa from bt ((Below.refl _ w).drew) hba); clear hoa hba)))) | fail
      all_goals (
        go_wp2
        go_ret3
        refine ⟨_, _, rfl, ?_, ?_, HBa.out⟩
        · rw [HEA.out]; exact owI_mk HOa.out HBa.out.size
        · rw [HER.out]; exact inI_mk (Nat.le_trans hP HBa.out.size) (HC2.out.below (HBa.out.mono hP)) (by have := HLR.out; omega) (fun h => by cases h) (by omega))
    by_cases g2 : cap = q + 1
    · subst g2
      have hq00 : ¬ q = 0 := by omega
      rw [if_neg g1] at c1
      rw [if_pos rfl] at c2
      clear g1
      have HC1 := Lib.hid (c1.below ((Below.refl P w).drew))
      have HC2 := Lib.hid c2
      clear h hin hzl hb hdr c1 c2 hn eA eR
      go_enter Try.func68, Try.ntmps68
      go_wp2
      first | (go_region_held3 (fun w' => True) (trivial) ((first | (go_at_call 73; (refine (l1Own_n (some ⟨b, off + 1, none⟩) q q (t.take q) HLA.out (by omega) (fun h => by cases h) _ (by exact HC1.out.ints)).mono ?_); rintro e wa ⟨va, vc, rfl, hoa, hba⟩; have HOa := Lib.hid (show wa.ownsRow w.heap.size 3 1 (.slice va q vc) q ((t.take q).map (Value.int .i64)) from hoa); have HBa := Lib.hid (show Below w.heap.size w wa from bt ((Below.refl _ w).drew) hba); clear hoa hba)))) | fail
      all_goals (
        go_wp2
        go_ret3
        refine ⟨_, _, rfl, ?_, ?_, HBa.out⟩
        · rw [HEA.out]; exact owI_mk HOa.out HBa.out.size
        · rw [HER.out]; exact inI_mk (Nat.le_trans hP HBa.out.size) (HC2.out.below (HBa.out.mono hP)) (by have := HLR.out; omega) (fun h => by cases h) (by omega))
    · rw [if_neg g1] at c1
      rw [if_neg g2] at c2
      have HC1 := Lib.hid (c1.below ((Below.refl P w).drew))
      have HC2 := Lib.hid c2
      clear h hin hzl hb hdr c1 c2 hn eA eR
      go_enter Try.func68, Try.ntmps68
      go_wp2
      first | (go_region_held3 (fun w' => True) (trivial) ((first | (go_at_call 73; (refine (l1Own_n (some ⟨b, off + 1, none⟩) q (cap - 1) (t.take q) HLA.out (by omega) (fun h => by cases h) _ (by exact HC1.out.ints)).mono ?_); rintro e wa ⟨va, vc, rfl, hoa, hba⟩; have HOa := Lib.hid (show wa.ownsRow w.heap.size 3 1 (.slice va q vc) q ((t.take q).map (Value.int .i64)) from hoa); have HBa := Lib.hid (show Below w.heap.size w wa from bt ((Below.refl _ w).drew) hba); clear hoa hba)))) | fail
      all_goals (
        go_wp2
        go_ret3
        refine ⟨_, _, rfl, ?_, ?_, HBa.out⟩
        · rw [HEA.out]; exact owI_mk HOa.out HBa.out.size
        · rw [HER.out]; exact inI_mk (Nat.le_trans hP HBa.out.size) (HC2.out.below (HBa.out.mono hP)) (by have := HLR.out; omega) (fun h => by cases h) (by omega))

/-! ### The reference's list of lists -/
theorem owI_out {Q P base n : Nat} {w w' : World} {u v : Value} {z : List Int} {vs : List Value} (h : OwI Q P w u z) (ho : w.ownsRow base 22 1 v n vs) (hg : w.grownBy w' v.ownBlock) : OwI Q P w' u z := by
  refine ⟨own_block h.1 (fun g hgu => ?_), h.2.1, Nat.le_trans h.2.2.1 hg.size, h.2.2.2⟩
  refine hg.block g (by have := h.2.1 g hgu; have := h.2.2.1; omega) (fun e => ?_)
  rcases h.1.2 with ⟨rfl, _⟩ | ⟨g1, c1, cur1, rfl, _, hh1, _⟩
  · simp [Value.ownBlock] at hgu
  · rcases ho.2 with ⟨rfl, _⟩ | ⟨g2, c2, cur2, rfl, _, hh2, _⟩
    · simp [Value.ownBlock] at e
    · simp [Value.ownBlock] at e hgu
      subst hgu
      subst e
      rw [hh1] at hh2
      simp at hh2
theorem InI.out {P base n : Nat} {w w' : World} {u v : Value} {z : List Int} {vs : List Value} (h : InI P w u z) (hP : P ≤ base) (ho : w.ownsRow base 22 1 v n vs) (hg : w.grownBy w' v.ownBlock) : InI P w' u z :=
  h.belowP ((Below.refl P w).grown hg h.1 (fun k hk => Nat.le_trans hP (ho.lt k hk).1))

theorem rows_snoc {Q P : Nat} {w : World} {vs : List Value} {acc : List (List Int)} {a : Value} {z : List Int} (h : ∀ (i : Nat) z, acc[i]? = some z → ∃ u, vs[i]? = some u ∧ OwI Q P w u z) (hl : vs.length = acc.length) (ha : OwI Q P w a z) :
    ∀ (i : Nat) z', (acc ++ [z])[i]? = some z' → ∃ u, (vs ++ [a])[i]? = some u ∧ OwI Q P w u z' := by
  intro i z' hi
  by_cases hlt : i < acc.length
  · rw [List.getElem?_append_left hlt] at hi
    obtain ⟨u, hu, ho⟩ := h i z' hi
    exact ⟨u, by rw [List.getElem?_append_left (by omega)]; exact hu, ho⟩
  · rw [List.getElem?_append_right (by omega)] at hi
    have h0 : i - acc.length = 0 := by
      rcases Nat.eq_zero_or_pos (i - acc.length) with h | h
      · exact h
      · rw [List.getElem?_eq_none (by simp; omega)] at hi; cases hi
    rw [h0] at hi
    simp at hi
    subst hi
    exact ⟨a, by rw [List.getElem?_append_right (by omega), show i - vs.length = 0 by omega]; rfl, ha⟩
theorem inS_of_rows {Q base n cap : Nat} {w : World} {va : Option Addr} {vs : List Value} {acc : List (List Int)} (ho : w.ownsRow base 22 1 (.slice va n cap) n vs) (hl : acc.length = n)
    (h : ∀ (i : Nat) z, acc[i]? = some z → ∃ u, vs[i]? = some u ∧ OwI Q w.heap.size w u z) : InS w.heap.size w (.slice va n cap) acc := by
  subst hl
  rcases ho.2 with ⟨h1, hn⟩ | ⟨g, cap', cur, h1, _, hg, _⟩
  · simp only [Value.slice.injEq] at h1
    obtain ⟨rfl, _, rfl⟩ := h1
    exact ⟨Nat.le_refl _, none, 0, rfl, fun _ => rfl, .inl (List.length_eq_zero_iff.1 hn)⟩
  · simp only [Value.slice.injEq] at h1
    obtain ⟨rfl, _, rfl⟩ := h1
    have hgl := (Array.getElem?_eq_some_iff.1 hg).1
    refine ⟨Nat.le_refl _, some ⟨g, 0, none⟩, cap, rfl, (fun h => by cases h), .inr ⟨g, 0, rfl, hgl, hgl, fun i z hz => ?_⟩⟩
    obtain ⟨u, hu, hi⟩ := h i z hz
    refine ⟨u, ?_, hi.toIn⟩
    have := ho.cells (g := g) rfl i u hu
    have e1 : (⟨g, 0, none⟩ : Addr).add i = ⟨g, 0 + i, none⟩ := by
      unfold Addr.add; split
      · subst_vars; rfl
      · rfl
    rwa [e1] at this

/-- A list of lists that the reference answers: it reads so. -/
def AnsR (w : World) (zss : List (List Int)) (ok : Bool) (e : Ending) (w' : World) : Prop := ∃ v, e = .returned (.tuple #[v, .bool ok]) ∧ (ok = true → InS w'.heap.size w' v zss) ∧ Below w.heap.size w w'

def cspB (zs : List Int) : Bool := hashB zs && decide (0 < zs.length) && splOk (zs.headD 0).toNat (zs.drop 1)

set_option maxRecDepth 100000 in
set_option maxHeartbeats 1600000 in
theorem cSplit_any {P : Nat} {w : World} {v : Value} {zs : List Int} (h : InI P w v zs) (hl : zs.length ≤ 1048576) :
    Calls Try.prog 63 #[v] w (AnsR w (splRes (zs.headD 0).toNat (zs.drop 1)) (cspB zs)) := by
  obtain ⟨ad, cap, rfl⟩ := h.shape
  obtain ⟨hzl, hin, hnil⟩ := h.parts
  have hP := h.1
  cases hr : hashB zs
  · have e1 : cspB zs = false := by simp [cspB, hr]
    rw [e1]
    have HR := Lib.hid hr
    have HI := Lib.hid hin.ints
    generalize hm : zs.length = m at h hl
    have HM := Lib.hid hm
    clear e1 hr h hin hzl hm
    go_enter Try.func63, Try.ntmps63
    go_wp2_with fail
    refine (l4Record_any _ _ _ zs HM.out (by omega) _ HI.out).mono ?_
    rw [HR.out]
    rintro e w' ⟨rfl, rfl⟩
    go_wp2
    go_ret2
    exact ⟨_, rfl, (fun h => by cases h), Below.refl _ _⟩
  cases zs with
  | nil =>
    rw [show cspB [] = false from by simp [cspB]]
    have HR := Lib.hid hr
    have HI := Lib.hid hin.ints
    simp only [List.length_nil]
    clear hr h hin
    go_enter Try.func63, Try.ntmps63
    go_wp2_with fail
    refine (l4Record_any _ 0 _ _ rfl (by omega) _ HI.out).mono ?_
    rw [HR.out]
    rintro e w' ⟨rfl, rfl⟩
    go_wp2
    go_ret2
    exact ⟨_, rfl, (fun h => by cases h), Below.refl _ _⟩
  | cons x t =>
    have hdg := digsB_true.1 (hashB_true.1 hr).2
    obtain ⟨hx0, hx1⟩ := hdg x (by simp)
    obtain ⟨q, rfl⟩ : ∃ q : Nat, x = q := ⟨x.toNat, by omega⟩
    obtain ⟨b, off, z, rfl, hbl, hc, hdr⟩ := hin.ints.at (k := 0) (by simp)
    obtain rfl : (q : Int) = z := by simpa using (List.cons.inj hdr).1
    rw [Nat.add_zero] at hc
    have e1 : cspB ((q : Int) :: t) = splOk q t := by simp [cspB, hr]
    rw [e1, show splRes ((((q : Int) :: t).headD 0).toNat) (((q : Int) :: t).drop 1) = splRes q t from by simp]
    generalize hn : t.length = n at *
    have hlen : ((q : Int) :: t).length = n + 1 := by simp [hn]
    rw [hlen] at h hl ⊢
    have HL := Lib.hid hlen
    have HI := Lib.hid hin.ints
    have HR := Lib.hid hr
    have hm1 : ((n : Int) + 1 == 0) = false := by rw [beq_eq_false_iff_ne]; omega
    have hm3 : 0 < n + 1 := by omega
    have hm5 : 0 < (n : Int) + 1 := by omega
    have hm4 : (1 : Int) ≤ (n : Int) + 1 := by omega
    have hn400 : n ≤ 400 := by have := (hashB_true.1 hr).1; rw [hlen] at this; omega
    by_cases hq : n + 1 < q
    · have hqi : (n : Int) + 1 < (q : Int) := by omega
      obtain ⟨e2, _⟩ := splOk_none (spl_short q t [] (by omega))
      rw [e2]
      clear e1 e2 hr h hin hlen hn hzl hdg hdr
      go_enter Try.func63, Try.ntmps63
      go_wp2_with fail
      refine (l4Record_any _ _ _ _ HL.out (by omega) _ HI.out).mono ?_
      rw [HR.out]
      rintro e w' ⟨rfl, rfl⟩
      go_wp2
      go_ret2
      exact ⟨_, rfl, (fun h => by cases h), Below.refl _ _⟩
    · have hqi : (q : Int) ≤ (n : Int) + 1 := by omega
      have hqn : q ≤ n + 1 := by omega
      have hcut := h.cut hn
      have HD := Lib.hid (fun z (hz : z ∈ t) => hdg z (List.mem_cons_of_mem _ hz))
      have hcap := h.cap
      obtain ⟨i0, hi, hz0, hz1, hz2⟩ := info_parts Try.infoSL
      by_cases g1 : cap = 1
      · subst g1
        rw [if_pos rfl] at hcut
        have HC := Lib.hid (show InI P w (.slice (some ⟨b, off, none⟩) n 0) t from hcut)
        clear hr h hin hlen hn hzl hdg hdr hcut hcap e1
        go_enter Try.func63, Try.ntmps63
        go_wp2_with fail
        refine (l4Record_any _ _ _ _ HL.out (by omega) _ HI.out).mono ?_
        rw [HR.out]
        rintro e w' ⟨rfl, rfl⟩
        go_wp2
        go_loopw [4, 5, 6, 7, 8, 9] (fun V R K _ _ _ wr => ∃ (k : Nat) (va : Option Addr) (vc : Nat) (vs : List Value) (acc : List (List Int)) (ra : Option Addr) (rl rc : Nat) (rest : List Int), k ≤ q ∧ K = .int .i64 k ∧ V = .slice va k vc ∧ R = .slice ra rl rc ∧ InI P wr (.slice ra rl rc) rest ∧ rl ≤ n ∧ acc.length = k ∧ wr.ownsRow w.heap.size 22 1 (.slice va k vc) k vs ∧ (∀ (i : Nat) z, acc[i]? = some z → ∃ u, vs[i]? = some u ∧ OwI w.heap.size wr.heap.size wr u z) ∧ Below w.heap.size w wr ∧ spl q t [] = spl (q - k) rest acc) (fun _ _ K _ _ _ _ => q - (intOf K).toNat)
        case atStart => exact ⟨0, none, 0, [], [], _, _, _, t, Nat.zero_le _, rfl, rfl, rfl, HC.out, Nat.le_refl _, rfl, World.ownsRow_nil _ _ _ _, (fun i z hz => by simp at hz), Below.refl _ _, rfl⟩
        case round =>
          obtain ⟨k, va, vc, vs, acc, ra, rl, rc, rest, hk, rfl, rfl, rfl, hri, hrl, hacc, hown, hrows, hbel, he⟩ := hrel
          have hcr := (hbel.cell (p := ⟨b, off, none⟩) hbl).trans hc
          have hrln := hri.parts.1
          have HRI := Lib.hid hri
          have HB := Lib.hid hbel
          have HO := Lib.hid hown
          have HROW := Lib.hid hrows
          have HACC := Lib.hid hacc
          have HRLN := Lib.hid hrln
          have hvl : vs.length = k := by have := hown.1; simpa using this
          have HVL := Lib.hid hvl
          by_cases hkq : k < q
          · have hkqi : (k : Int) < (q : Int) := by omega
            cases hb : tkB rest
            · have e2 : spl q t [] = none := by
                rw [he, show q - k = (q - k - 1) + 1 by omega]; exact spl_stop hb
              have HE := Lib.hid (splOk_none e2)
              have HTB := Lib.hid hb
              clear hri hrln hown hrows hacc hbel he e2 hb hvl
              go_wp2_with fail
              refine (l4Take_no HRI.out (by have := HRLN.out; omega) HTB.out).mono ?_
              rintro e w' ⟨rfl, rfl⟩
              go_wp2
              go_ret2
              rw [HE.out.1]
              exact ⟨_, rfl, (fun h => by cases h), HB.out⟩
            · have he2 : spl q t [] = spl (q - (k + 1)) (tkR rest) (acc ++ [tkA rest]) := by
                rw [he, show q - k = (q - (k + 1)) + 1 by omega, spl_go hb]
              have HE := Lib.hid he2
              have HTB := Lib.hid hb
              have HRL := Lib.hid (tkR_length hb)
              clear hri hrln hown hrows hacc hbel he he2 hb hvl
              go_wp2_with fail
              refine (l4Take_yes HRI.out (by have := HRLN.out; omega) HTB.out).mono ?_
              rintro e w1 ⟨a, r2, rfl, hoa, hir, hba⟩
              obtain ⟨aa, ac, rfl⟩ := own_shape hoa.1
              obtain ⟨ra2, rc2, rfl⟩ := hir.shape
              have hal := ba w1 (.cells #[.slice aa (tkA rest).length ac] 22)
              have HOA := Lib.hid (hoa.below hal)
              have HIR := Lib.hid (hir.below hal)
              have HO1 := Lib.hid (own_below (own_below HO.out hba) hal)
              have HR1 := Lib.hid (fun (i : Nat) z (hz : acc[i]? = some z) => (fun ⟨u, hu, ho⟩ => ⟨u, hu, ((ho.below hba).below hal).wide (Nat.le_refl _) (Nat.le_trans hba.size hal.size) (Nat.le_refl _)⟩ : _ → ∃ u, vs[i]? = some u ∧ OwI w.heap.size _ _ u z) (HROW.out i z hz))
              have HB1 := Lib.hid (HB.out.trans ((bt hba hal).mono HB.out.size))
              have hk401 : k ≤ 401 := by omega
              have hlr : (tkR rest).length ≤ n := by have := HRL.out; have := HRLN.out; omega
              generalize hta : (tkA rest).length = la at *
              have HTA := Lib.hid hta
              generalize htr : (tkR rest).length = lr at *
              have HTR := Lib.hid htr
              clear hoa hir hba hal hta htr
              go_wp2_with (at_builtin; refine wpList_append_own _ rfl _ _ 53 rfl w.heap.size 22 i0 (.slice none 0 0) 1 24 Try.underlying53 hi hz0 hz1 hz2 rfl (by decide) _ k vs rfl HO1.out ⟨w1.heap.size, 0, none⟩ 1 1 [.slice aa la ac] rfl rfl (cell_one_new _ _ _) (by intro u hu; simp at hu; subst hu; rfl) (by unfold maxLen; omega) (by omega) HB1.out.size ?_; intro v' w2 hown' hgrow _; obtain ⟨va', vc', rfl⟩ := own_shape hown'; have HO2 := Lib.hid hown'; have HIR2 := Lib.hid (HIR.out.out hP HO1.out hgrow); have HOA2 := Lib.hid (owI_out HOA.out HO1.out hgrow); have HR2 := Lib.hid (fun (i : Nat) z (hz : acc[i]? = some z) => (fun ⟨u, hu, ho⟩ => ⟨u, hu, (owI_out ho HO1.out hgrow).wide (Nat.le_refl _) hgrow.size (Nat.le_refl _)⟩ : _ → ∃ u, vs[i]? = some u ∧ OwI w.heap.size w2.heap.size w2 u z) (HR1.out i z hz)); have HB2 := Lib.hid (HB1.out.grown hgrow HB1.out.size (fun q hq => (HO1.out.lt q hq).1)); clear hown' hgrow)
              go_roundw
              case rel =>
                refine ⟨k + 1, va', vc', vs ++ [.slice aa la ac], acc ++ [tkA rest], ra2, lr, rc2, tkR rest, by omega, by go_num, rfl, rfl, HIR2.out, by omega, by have := HACC.out; simp [this], HO2.out, rows_snoc HR2.out (by rw [HVL.out, HACC.out]) (HOA2.out.wide HB.out.size (by have := HO2.out; have := HOA2.out.2.2.1; omega) (Nat.le_refl _)), HB2.out, HE.out⟩
              case measure => simp only [intOf]; omega
          · have HE := Lib.hid he
            obtain rfl : k = q := by omega
            clear hri hrln hown hrows hacc hbel he hvl
            by_cases h0 : rl = 0
            · subst h0
              obtain rfl : rest = [] := List.length_eq_zero_iff.1 HRLN.out
              go_wp2
              go_ret2
              have e4 := HE.out
              rw [Nat.sub_self] at e4
              obtain ⟨q1, q2⟩ := splOk_some (show spl k t [] = some (acc, []) from e4)
              rw [q1, q2]
              exact ⟨_, rfl, fun _ => inS_of_rows HO.out HACC.out HROW.out, HB.out⟩
            · have hl0 : 0 < rl := by omega
              have hl1 : ((rl : Int) == 0) = false := by rw [beq_eq_false_iff_ne]; omega
              go_wp2
              go_ret2
              have e4 := HE.out
              rw [Nat.sub_self] at e4
              obtain ⟨q1, q2⟩ := splOk_more (show spl k t [] = some (acc, rest) from e4) (fun h => by have := HRLN.out; rw [h] at this; simp at this; omega)
              rw [q1]
              exact ⟨_, rfl, (fun h => by cases h), HB.out⟩
      · rw [if_neg g1] at hcut
        have HC := Lib.hid hcut
        clear hr h hin hlen hn hzl hdg hdr hcut hcap e1
        go_enter Try.func63, Try.ntmps63
        go_wp2_with fail
        refine (l4Record_any _ _ _ _ HL.out (by omega) _ HI.out).mono ?_
        rw [HR.out]
        rintro e w' ⟨rfl, rfl⟩
        go_wp2
        go_loopw [4, 5, 6, 7, 8, 9] (fun V R K _ _ _ wr => ∃ (k : Nat) (va : Option Addr) (vc : Nat) (vs : List Value) (acc : List (List Int)) (ra : Option Addr) (rl rc : Nat) (rest : List Int), k ≤ q ∧ K = .int .i64 k ∧ V = .slice va k vc ∧ R = .slice ra rl rc ∧ InI P wr (.slice ra rl rc) rest ∧ rl ≤ n ∧ acc.length = k ∧ wr.ownsRow w.heap.size 22 1 (.slice va k vc) k vs ∧ (∀ (i : Nat) z, acc[i]? = some z → ∃ u, vs[i]? = some u ∧ OwI w.heap.size wr.heap.size wr u z) ∧ Below w.heap.size w wr ∧ spl q t [] = spl (q - k) rest acc) (fun _ _ K _ _ _ _ => q - (intOf K).toNat)
        case atStart => exact ⟨0, none, 0, [], [], _, _, _, t, Nat.zero_le _, rfl, rfl, rfl, HC.out, Nat.le_refl _, rfl, World.ownsRow_nil _ _ _ _, (fun i z hz => by simp at hz), Below.refl _ _, rfl⟩
        case round =>
          obtain ⟨k, va, vc, vs, acc, ra, rl, rc, rest, hk, rfl, rfl, rfl, hri, hrl, hacc, hown, hrows, hbel, he⟩ := hrel
          have hcr := (hbel.cell (p := ⟨b, off, none⟩) hbl).trans hc
          have hrln := hri.parts.1
          have HRI := Lib.hid hri
          have HB := Lib.hid hbel
          have HO := Lib.hid hown
          have HROW := Lib.hid hrows
          have HACC := Lib.hid hacc
          have HRLN := Lib.hid hrln
          have hvl : vs.length = k := by have := hown.1; simpa using this
          have HVL := Lib.hid hvl
          by_cases hkq : k < q
          · have hkqi : (k : Int) < (q : Int) := by omega
            cases hb : tkB rest
            · have e2 : spl q t [] = none := by
                rw [he, show q - k = (q - k - 1) + 1 by omega]; exact spl_stop hb
              have HE := Lib.hid (splOk_none e2)
              have HTB := Lib.hid hb
              clear hri hrln hown hrows hacc hbel he e2 hb hvl
              go_wp2_with fail
              refine (l4Take_no HRI.out (by have := HRLN.out; omega) HTB.out).mono ?_
              rintro e w' ⟨rfl, rfl⟩
              go_wp2
              go_ret2
              rw [HE.out.1]
              exact ⟨_, rfl, (fun h => by cases h), HB.out⟩
            · have he2 : spl q t [] = spl (q - (k + 1)) (tkR rest) (acc ++ [tkA rest]) := by
                rw [he, show q - k = (q - (k + 1)) + 1 by omega, spl_go hb]
              have HE := Lib.hid he2
              have HTB := Lib.hid hb
              have HRL := Lib.hid (tkR_length hb)
              clear hri hrln hown hrows hacc hbel he he2 hb hvl
              go_wp2_with fail
              refine (l4Take_yes HRI.out (by have := HRLN.out; omega) HTB.out).mono ?_
              rintro e w1 ⟨a, r2, rfl, hoa, hir, hba⟩
              obtain ⟨aa, ac, rfl⟩ := own_shape hoa.1
              obtain ⟨ra2, rc2, rfl⟩ := hir.shape
              have hal := ba w1 (.cells #[.slice aa (tkA rest).length ac] 22)
              have HOA := Lib.hid (hoa.below hal)
              have HIR := Lib.hid (hir.below hal)
              have HO1 := Lib.hid (own_below (own_below HO.out hba) hal)
              have HR1 := Lib.hid (fun (i : Nat) z (hz : acc[i]? = some z) => (fun ⟨u, hu, ho⟩ => ⟨u, hu, ((ho.below hba).below hal).wide (Nat.le_refl _) (Nat.le_trans hba.size hal.size) (Nat.le_refl _)⟩ : _ → ∃ u, vs[i]? = some u ∧ OwI w.heap.size _ _ u z) (HROW.out i z hz))
              have HB1 := Lib.hid (HB.out.trans ((bt hba hal).mono HB.out.size))
              have hk401 : k ≤ 401 := by omega
              have hlr : (tkR rest).length ≤ n := by have := HRL.out; have := HRLN.out; omega
              generalize hta : (tkA rest).length = la at *
              have HTA := Lib.hid hta
              generalize htr : (tkR rest).length = lr at *
              have HTR := Lib.hid htr
              clear hoa hir hba hal hta htr
              go_wp2_with (at_builtin; refine wpList_append_own _ rfl _ _ 53 rfl w.heap.size 22 i0 (.slice none 0 0) 1 24 Try.underlying53 hi hz0 hz1 hz2 rfl (by decide) _ k vs rfl HO1.out ⟨w1.heap.size, 0, none⟩ 1 1 [.slice aa la ac] rfl rfl (cell_one_new _ _ _) (by intro u hu; simp at hu; subst hu; rfl) (by unfold maxLen; omega) (by omega) HB1.out.size ?_; intro v' w2 hown' hgrow _; obtain ⟨va', vc', rfl⟩ := own_shape hown'; have HO2 := Lib.hid hown'; have HIR2 := Lib.hid (HIR.out.out hP HO1.out hgrow); have HOA2 := Lib.hid (owI_out HOA.out HO1.out hgrow); have HR2 := Lib.hid (fun (i : Nat) z (hz : acc[i]? = some z) => (fun ⟨u, hu, ho⟩ => ⟨u, hu, (owI_out ho HO1.out hgrow).wide (Nat.le_refl _) hgrow.size (Nat.le_refl _)⟩ : _ → ∃ u, vs[i]? = some u ∧ OwI w.heap.size w2.heap.size w2 u z) (HR1.out i z hz)); have HB2 := Lib.hid (HB1.out.grown hgrow HB1.out.size (fun q hq => (HO1.out.lt q hq).1)); clear hown' hgrow)
              go_roundw
              case rel =>
                refine ⟨k + 1, va', vc', vs ++ [.slice aa la ac], acc ++ [tkA rest], ra2, lr, rc2, tkR rest, by omega, by go_num, rfl, rfl, HIR2.out, by omega, by have := HACC.out; simp [this], HO2.out, rows_snoc HR2.out (by rw [HVL.out, HACC.out]) (HOA2.out.wide HB.out.size (by have := HO2.out; have := HOA2.out.2.2.1; omega) (Nat.le_refl _)), HB2.out, HE.out⟩
              case measure => simp only [intOf]; omega
          · have HE := Lib.hid he
            obtain rfl : k = q := by omega
            clear hri hrln hown hrows hacc hbel he hvl
            by_cases h0 : rl = 0
            · subst h0
              obtain rfl : rest = [] := List.length_eq_zero_iff.1 HRLN.out
              go_wp2
              go_ret2
              have e4 := HE.out
              rw [Nat.sub_self] at e4
              obtain ⟨q1, q2⟩ := splOk_some (show spl k t [] = some (acc, []) from e4)
              rw [q1, q2]
              exact ⟨_, rfl, fun _ => inS_of_rows HO.out HACC.out HROW.out, HB.out⟩
            · have hl0 : 0 < rl := by omega
              have hl1 : ((rl : Int) == 0) = false := by rw [beq_eq_false_iff_ne]; omega
              go_wp2
              go_ret2
              have e4 := HE.out
              rw [Nat.sub_self] at e4
              obtain ⟨q1, q2⟩ := splOk_more (show spl k t [] = some (acc, rest) from e4) (fun h => by have := HRLN.out; rw [h] at this; simp at this; omega)
              rw [q1]
              exact ⟨_, rfl, (fun h => by cases h), HB.out⟩

/-- What is answered. -/
def spR (zs : List Int) : List (List Int) := if hashB zs then splRes (zs.headD 0).toNat (zs.drop 1) else []
theorem spR_no {zs : List Int} (h : cspB zs = false) : spR zs = [] := by
  unfold spR
  split
  · rename_i hr
    cases zs with
    | nil => rfl
    | cons x t =>
      have h2 : splOk x.toNat t = false := by simpa [cspB, hr] using h
      simp only [List.headD_cons, List.drop_one, List.tail_cons]
      unfold splOk at h2
      unfold splRes
      split <;> simp_all
  · rfl
theorem spR_yes {zs : List Int} (h : cspB zs = true) : spR zs = splRes (zs.headD 0).toNat (zs.drop 1) := by
  have : hashB zs = true := by simp only [cspB, Bool.and_eq_true] at h; exact h.1.1
  simp [spR, this]
theorem spR_bound (zs : List Int) : (spR zs).length ≤ zs.length ∧ nS (spR zs) ≤ zs.length := by
  unfold spR
  split
  · have := splRes_bound (zs.headD 0).toNat (zs.drop 1)
    simp only [List.length_drop] at this
    omega
  · simp [nS]
def AnsQ (w : World) (zss : List (List Int)) (ok : Bool) (e : Ending) (w' : World) : Prop := ∃ v, e = .returned (.tuple #[v, .bool ok]) ∧ InS w'.heap.size w' v zss ∧ Below w.heap.size w w'

theorem sSplitRecords_any {P : Nat} {w : World} {v : Value} {zs : List Int} (h : InI P w v zs) (hl : zs.length ≤ 1048576) :
    Calls Try.prog 44 #[v] w (AnsQ w (spR zs) (cspB zs)) := by
  obtain ⟨ad, cap, rfl⟩ := h.shape
  have H := Lib.hid h
  clear h
  cases hb : cspB zs
  · rw [spR_no hb]
    have HB := Lib.hid hb
    clear hb
    go_enter Try.func44, Try.ntmps44
    go_wp2_with fail
    refine (cSplit_any H.out hl).mono ?_
    rw [HB.out]
    rintro e w1 ⟨v1, rfl, ho, hb1⟩
    have HB1 := Lib.hid hb1
    clear ho hb1
    go_wp2
    go_ret2
    exact ⟨_, rfl, ⟨Nat.le_refl _, none, 0, rfl, fun _ => rfl, .inl rfl⟩, HB1.out⟩
  · rw [spR_yes hb]
    have HB := Lib.hid hb
    clear hb
    go_enter Try.func44, Try.ntmps44
    go_wp2_with fail
    refine (cSplit_any H.out hl).mono ?_
    rw [HB.out]
    rintro e w1 ⟨v1, rfl, ho, hb1⟩
    have HO := Lib.hid (ho rfl)
    have HB1 := Lib.hid hb1
    clear ho hb1
    go_wp2
    go_ret2
    exact ⟨_, rfl, HO.out, HB1.out⟩

theorem splitRecords_ans {P : Nat} {w : World} {v : Value} {zs : List Int} (h : InI P w v zs) (hl : zs.length ≤ 1048576) :
    Calls Try.prog 45 #[v] w (AnsS w (spR zs) (cspB zs)) := splitRecords_any h hl

end Go.Proofs.Ytmiohdibbpckaaa

