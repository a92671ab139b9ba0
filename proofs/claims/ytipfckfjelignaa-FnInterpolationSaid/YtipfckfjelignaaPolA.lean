/- Fields, lists of residues, differences and quotients; a multiple of a polynomial is added to another, in place. -/
import Derived.Test.YtipfckfjelignaaPolF
import Derived.Test.YtipfckfjelignaaInvAll
namespace Go.Proofs.Ytipfckfjelignaa
open Go.RowKit

/-- What a row of a variadic argument is: where it lies, its capacity, what it reads as. -/
abbrev RowD := Option Addr × Nat × List Int
def AreRows (w : World) (b off : Nat) (rows : List RowD) : Prop :=
  ∀ k r, rows[k]? = some r → w.cell? ⟨b, off + k, none⟩ = some (.slice r.1 r.2.2.length r.2.1) ∧ IsInts w r.1 r.2.2
theorem AreRows.at {w : World} {b off : Nat} {rows : List RowD} (h : AreRows w b off rows) {k : Nat} (hk : k < rows.length) :
    ∃ ad cap zs, w.cell? ⟨b, off + k, none⟩ = some (.slice ad zs.length cap) ∧ IsInts w ad zs ∧ rows.drop k = (ad, cap, zs) :: rows.drop (k + 1) := by
  obtain ⟨h1, h2⟩ := h k rows[k] (by simp [hk])
  exact ⟨_, _, _, h1, h2, by rw [List.drop_eq_getElem_cons hk]⟩
theorem rows_one (w : World) (ad : Option Addr) (n cap : Nat) (zs : List Int) (hn : zs.length = n) (t : TypeId) (hz : IsInts w ad zs) : AreRows (w.alloc (.cells #[.slice ad n cap] t)) w.heap.size 0 [(ad, cap, zs)] := by
  intro k r h
  match k with
  | 0 =>
    simp only [List.getElem?_cons_zero, Option.some.injEq] at h
    subst h; subst hn
    exact ⟨World.cell?_alloc_at _ _ _ _ rfl, hz.below ((Below.refl _ _).alloc (Nat.le_refl _) _) (Nat.le_refl _)⟩
  | k + 1 => simp at h
theorem rows_two (w : World) (ad ad' : Option Addr) (n n' cap cap' : Nat) (zs zs' : List Int) (hn : zs.length = n) (hn' : zs'.length = n') (t : TypeId) (hz : IsInts w ad zs) (hz' : IsInts w ad' zs') :
    AreRows (w.alloc (.cells #[.slice ad n cap, .slice ad' n' cap'] t)) w.heap.size 0 [(ad, cap, zs), (ad', cap', zs')] := by
  intro k r h
  match k with
  | 0 =>
    simp only [List.getElem?_cons_zero, Option.some.injEq] at h
    subst h; subst hn
    exact ⟨World.cell?_alloc_at _ _ _ _ rfl, hz.below ((Below.refl _ _).alloc (Nat.le_refl _) _) (Nat.le_refl _)⟩
  | 1 =>
    simp only [List.getElem?_cons_succ, List.getElem?_cons_zero, Option.some.injEq] at h
    subst h; subst hn'
    exact ⟨World.cell?_alloc_at _ _ _ _ rfl, hz'.below ((Below.refl _ _).alloc (Nat.le_refl _) _) (Nat.le_refl _)⟩
  | k + 2 => simp at h

theorem mem_drop' {α : Type} {zs rest : List α} {z : α} {k : Nat} (h : zs.drop k = z :: rest) : z ∈ zs :=
  List.mem_of_mem_drop (i := k) (by rw [h]; exact List.mem_cons_self)

/-- A list of at most 24 residues. -/
def shortB (zs : List Int) (q : Int) : Bool := decide (zs.length ≤ 24) && listB zs q
def fieldB (q : Int) (rows : List (List Int)) : Bool := isPr q && rows.all fun zs => shortB zs q
theorem rowAll_step {p : List Int → Bool} {rows rest : List RowD} {r : RowD} {k : Nat} {t : Bool} (h : rows.drop k = r :: rest) (hb : t = ((rows.drop k).all fun r => p r.2.2)) :
    (p r.2.2 = true → t = rest.all fun r => p r.2.2) ∧ (p r.2.2 = false → t = false) := by
  rw [hb, h]; simp only [List.all_cons]
  exact ⟨fun h => by rw [h]; simp, fun h => by rw [h]; simp⟩
theorem short_list {zs : List Int} {q : Int} (h : zs.length ≤ 24) : shortB zs q = listB zs q := by simp [shortB, h]
theorem short_long {zs : List Int} {q : Int} (h : ¬ zs.length ≤ 24) : shortB zs q = false := by simp [shortB, h]
theorem shortB_of {zs : List Int} {q : Int} (h : shortB zs q = true) : 2 ≤ q ∧ q ≤ 2000000000 ∧ zs.length ≤ 24 ∧ ∀ z ∈ zs, 0 ≤ z ∧ z < q := by
  unfold shortB at h
  simp only [Bool.and_eq_true, decide_eq_true_eq] at h
  obtain ⟨a, b, _, d⟩ := res_of_list h.2
  exact ⟨a, b, h.1, d⟩
theorem short_of {zs : List Int} {q : Int} (h2 : 2 ≤ q) (h3 : q ≤ 2000000000) (hl : zs.length ≤ 24) (hr : ∀ z ∈ zs, 0 ≤ z ∧ z < q) : shortB zs q = true := by
  rw [short_list hl]; exact listB_of h2 h3 (by omega) hr

set_option maxHeartbeats 1600000 in
theorem inField_any (q : Int) (b off n cap : Nat) (rows : List RowD) (hn : rows.length = n) (hl : n ≤ 1000000) (hll : ∀ r ∈ rows, r.2.2.length ≤ 17592186044416) (w : World) (hr : AreRows w b off rows) :
    Calls Try.prog 93 #[.int .i64 q, .slice (some ⟨b, off, none⟩) n cap] w fun e w' => e = .returned (.bool (fieldB q (rows.map fun r => r.2.2))) ∧ w = w' := by
  have HLL := Lib.hid hll
  have HN := Lib.hid hn
  clear hll hn
  cases hp : isPr q
  · have e1 : fieldB q (rows.map fun r => r.2.2) = false := by simp [fieldB, hp]
    rw [e1]
    have HP := Lib.hid hp
    clear hp e1
    go_enter Try.func93, Try.ntmps93
    go_wp2_with fail
    refine (isPrimeB_any _ _).mono ?_; rintro e w' ⟨rfl, rfl⟩; rw [HP.out]
    go_wp2
    go_ret
    exact ⟨rfl, rfl⟩
  · have e1 : fieldB q (rows.map fun r => r.2.2) = rows.all fun r => shortB r.2.2 q := by simp [fieldB, hp]; rfl
    rw [e1]
    have HP := Lib.hid hp
    clear hp e1
    go_enter Try.func93, Try.ntmps93
    go_wp2_with fail
    refine (isPrimeB_any _ _).mono ?_; rintro e w' ⟨rfl, rfl⟩; rw [HP.out]
    go_wp2_with fail
    go_loop [6, 12] (fun _ K => ∃ k : Nat, k ≤ n ∧ K = .int .i64 k ∧ (rows.all fun r => shortB r.2.2 q) = ((rows.drop k).all fun r => shortB r.2.2 q)) (fun _ K => n - (intOf K).toNat)
    case atStart => exact ⟨0, Nat.zero_le _, rfl, rfl⟩
    case round =>
      obtain ⟨k, hk, rfl, he⟩ := hrel
      by_cases hkn : k < n
      · obtain ⟨ad, cap', zs, hc, hz, hd⟩ := hr.at (k := k) (by have := HN.out; omega)
        have hzl := HLL.out _ (mem_drop' hd)
        dsimp only at hzl
        have HS := Lib.hid (rowAll_step (p := fun zs => shortB zs q) hd he)
        clear he hd
        by_cases h24 : zs.length ≤ 24
        · have HSL := Lib.hid (short_list (q := q) h24)
          have h24i : (zs.length : Int) ≤ 24 := by omega
          cases hi' : listB zs q
          · have HI := Lib.hid hi'
            clear hi'
            go_wp2_with fail
            refine (areResidues_any _ _ _ zs _ rfl (by omega) _ hz).mono ?_; rintro e w' ⟨rfl, rfl⟩; rw [HI.out]
            go_wp2
            go_ret
            exact ⟨by rw [HS.out.2 (HSL.out.trans HI.out)]; rfl, rfl⟩
          · have HI := Lib.hid hi'
            clear hi'
            go_wp2_with fail
            refine (areResidues_any _ _ _ zs _ rfl (by omega) _ hz).mono ?_; rintro e w' ⟨rfl, rfl⟩; rw [HI.out]
            go_wp2
            go_round
            case rel => exact ⟨k + 1, by omega, by go_num, HS.out.1 (HSL.out.trans HI.out)⟩
            case measure => simp only [intOf]; omega
        · have HSL := Lib.hid (short_long (q := q) h24)
          have h24i : (24 : Int) < (zs.length : Int) := by omega
          go_wp2
          go_ret
          exact ⟨by rw [HS.out.2 HSL.out]; rfl, rfl⟩
      · have HE := Lib.hid he
        clear he
        go_wp2
        go_ret
        refine ⟨?_, rfl⟩
        rw [HE.out, List.drop_of_length_le (by have := HN.out; omega)]; rfl

theorem yModulus_any (q : Int) (w : World) : Calls Try.prog 136 #[.int .i64 q] w fun e w' => e = .returned (.bool (isPr q)) ∧ w = w' := by
  cases hm : modB q
  · have hp : isPr q = false := by
      cases h : isPr q
      · rfl
      · obtain ⟨h1, h2, _⟩ := isPr_num h
        rw [modB_true.2 ⟨h1, h2⟩] at hm; cases hm
    rw [hp]
    have HM := Lib.hid hm
    clear hm hp
    go_enter Try.func136, Try.ntmps136
    go_wp2_with fail
    refine (nModulus_any _ _).mono ?_; rintro e w' ⟨rfl, rfl⟩; rw [HM.out]
    go_wp2
    go_ret
    exact ⟨rfl, rfl⟩
  · obtain ⟨h1, h2⟩ := modB_true.1 hm
    have hp : isPr q = Num.prB q := by
      unfold isPr; rw [inB_true.2 ⟨by omega, h2⟩]; rfl
    rw [hp]
    have HM := Lib.hid hm
    clear hm hp
    cases hb : Num.prB q
    · have HB := Lib.hid hb
      clear hb
      go_enter Try.func136, Try.ntmps136
      go_wp2_with fail
      refine (nModulus_any _ _).mono ?_; rintro e w' ⟨rfl, rfl⟩; rw [HM.out]
      go_wp2_with fail
      refine (nPrime_any _ (by omega) _).mono ?_; rintro e w' ⟨rfl, rfl⟩; rw [HB.out]
      go_wp2
      go_ret
      exact ⟨rfl, rfl⟩
    · have HB := Lib.hid hb
      clear hb
      go_enter Try.func136, Try.ntmps136
      go_wp2_with fail
      refine (nModulus_any _ _).mono ?_; rintro e w' ⟨rfl, rfl⟩; rw [HM.out]
      go_wp2_with fail
      refine (nPrime_any _ (by omega) _).mono ?_; rintro e w' ⟨rfl, rfl⟩; rw [HB.out]
      go_wp2
      go_ret
      exact ⟨rfl, rfl⟩

set_option maxHeartbeats 1600000 in
theorem yGood_any (q : Int) (b off n cap : Nat) (rows : List RowD) (hn : rows.length = n) (hl : n ≤ 1000000) (hll : ∀ r ∈ rows, r.2.2.length ≤ 17592186044416) (w : World) (hr : AreRows w b off rows) :
    Calls Try.prog 102 #[.int .i64 q, .slice (some ⟨b, off, none⟩) n cap] w fun e w' => e = .returned (.bool (fieldB q (rows.map fun r => r.2.2))) ∧ w = w' := by
  have HLL := Lib.hid hll
  have HN := Lib.hid hn
  clear hll hn
  cases hp : isPr q
  · have e1 : fieldB q (rows.map fun r => r.2.2) = false := by simp [fieldB, hp]
    rw [e1]
    have HP := Lib.hid hp
    clear hp e1
    go_enter Try.func102, Try.ntmps102
    go_wp2_with fail
    refine (yModulus_any _ _).mono ?_; rintro e w' ⟨rfl, rfl⟩; rw [HP.out]
    go_wp2
    go_ret
    exact ⟨rfl, rfl⟩
  · have e1 : fieldB q (rows.map fun r => r.2.2) = rows.all fun r => shortB r.2.2 q := by simp [fieldB, hp]; rfl
    rw [e1]
    obtain ⟨q2, q3, _⟩ := isPr_num hp
    have HM := Lib.hid (modB_true.2 ⟨q2, q3⟩)
    have HP := Lib.hid hp
    clear hp e1
    go_enter Try.func102, Try.ntmps102
    go_wp2_with fail
    refine (yModulus_any _ _).mono ?_; rintro e w' ⟨rfl, rfl⟩; rw [HP.out]
    go_wp2_with fail
    go_loop [6, 12] (fun _ K => ∃ k : Nat, k ≤ n ∧ K = .int .i64 k ∧ (rows.all fun r => shortB r.2.2 q) = ((rows.drop k).all fun r => shortB r.2.2 q)) (fun _ K => n - (intOf K).toNat)
    case atStart => exact ⟨0, Nat.zero_le _, rfl, rfl⟩
    case round =>
      obtain ⟨k, hk, rfl, he⟩ := hrel
      by_cases hkn : k < n
      · obtain ⟨ad, cap', zs, hc, hz, hd⟩ := hr.at (k := k) (by have := HN.out; omega)
        have hzl := HLL.out _ (mem_drop' hd)
        dsimp only at hzl
        have HS := Lib.hid (rowAll_step (p := fun zs => shortB zs q) hd he)
        clear he hd
        by_cases h24 : zs.length ≤ 24
        · have HSL := Lib.hid (short_list (q := q) h24)
          have HA := Lib.hid (show listB zs q = allIn zs 0 (q - 1) by rw [allIn_res HM.out]; unfold listB; rw [HM.out]; simp; omega)
          have h24i : (zs.length : Int) ≤ 24 := by omega
          cases hi' : allIn zs 0 (q - 1)
          · have HI := Lib.hid hi'
            clear hi'
            go_wp2_with fail
            refine (l1All_any _ _ _ zs _ _ rfl (by omega) _ hz).mono ?_; rintro e w' ⟨rfl, rfl⟩; rw [HI.out]
            go_wp2
            go_ret
            exact ⟨by rw [HS.out.2 (HSL.out.trans (HA.out.trans HI.out))]; rfl, rfl⟩
          · have HI := Lib.hid hi'
            clear hi'
            go_wp2_with fail
            refine (l1All_any _ _ _ zs _ _ rfl (by omega) _ hz).mono ?_; rintro e w' ⟨rfl, rfl⟩; rw [HI.out]
            go_wp2
            go_round
            case rel => exact ⟨k + 1, by omega, by go_num, HS.out.1 (HSL.out.trans (HA.out.trans HI.out))⟩
            case measure => simp only [intOf]; omega
        · have HSL := Lib.hid (short_long (q := q) h24)
          have h24i : (24 : Int) < (zs.length : Int) := by omega
          go_wp2
          go_ret
          exact ⟨by rw [HS.out.2 HSL.out]; rfl, rfl⟩
      · have HE := Lib.hid he
        clear he
        go_wp2
        go_ret
        refine ⟨?_, rfl⟩
        rw [HE.out, List.drop_of_length_le (by have := HN.out; omega)]; rfl

theorem subtract_any (q a b : Int) (h2 : 2 ≤ q) (h3 : q ≤ 2000000000) (ha0 : 0 ≤ a) (ha : a < q) (hb0 : 0 ≤ b) (hb : b < q) (w : World) :
    Calls Try.prog 128 #[.int .i64 q, .int .i64 a, .int .i64 b] w fun e w' => e = .returned (.int .i64 ((a - b) % q)) ∧ w = w' := by
  go_enter Try.func128, Try.ntmps128
  go_wp2
  go_ret
  refine ⟨?_, rfl⟩
  show Ending.returned (.int .i64 ((a - b + q) % q)) = _
  rw [Int.add_emod_right]

theorem mul_res {q a b : Int} (h3 : q ≤ 2000000000) (ha0 : 0 ≤ a) (ha : a < q) (hb0 : 0 ≤ b) (hb : b < q) : 0 ≤ a * b ∧ a * b ≤ 4000000000000000000 := prod_bound ⟨ha0, ha⟩ ⟨hb0, hb⟩ h3

theorem divide_any (q a b : Int) (h2 : 2 ≤ q) (h3 : q ≤ 2000000000) (ha0 : 0 ≤ a) (ha : a < q) (hb0 : 0 ≤ b) (hb : b < q) (hok : Num.invOk b q = true) (w : World) :
    Calls Try.prog 97 #[.int .i64 q, .int .i64 a, .int .i64 b] w fun e w' => e = .returned (.int .i64 (a * Num.inv b q % q)) ∧ w = w' := by
  obtain ⟨_, i0, i1⟩ := inv_res ⟨hb0, hb⟩ h2 hok
  obtain ⟨p0, p1⟩ := mul_res h3 ha0 ha i0 i1
  have HK := Lib.hid hok
  clear hok
  go_enter Try.func97, Try.ntmps97
  go_wp2_with fail
  refine (invert_any _ _ (by omega) (by omega) (by omega) _).mono ?_; rintro e w' ⟨rfl, rfl⟩; rw [HK.out]
  go_wp2
  go_ret
  exact ⟨rfl, rfl⟩

/-- What a row of one's own reads as, and that it may be written. -/
theorem own_at {wr : World} {B g n cap j : Nat} {zs : List Int} (hown : wr.ownsRow B 3 1 (.slice (some ⟨g, 0, none⟩) n cap) n (zs.map (Value.int .i64))) (hj : j < n) {z : Int} (hz : zs[j]? = some z) :
    wr.cell? ⟨g, j, none⟩ = some (.int .i64 z) ∧ wr.frozen? ⟨g, j, none⟩ = false := by
  refine ⟨?_, hown.frozenAt j⟩
  rw [hown.cellAt j (by omega)]
  simp [hz]
theorem own_set {wr : World} {B g n cap j : Nat} {zs : List Int} (hown : wr.ownsRow B 3 1 (.slice (some ⟨g, 0, none⟩) n cap) n (zs.map (Value.int .i64))) (z : Int) :
    (wr.setCell ⟨g, j, none⟩ (.int .i64 z)).ownsRow B 3 1 (.slice (some ⟨g, 0, none⟩) n cap) n ((zs.set j z).map (Value.int .i64)) := by
  have := (hown.stored j (.int .i64 z)).1
  rwa [← List.map_set] at this
/-- Where the row stands after k rounds. -/
def rowAt (q c : Int) (P gs : List Int) (off k : Nat) : List Int := P.take off ++ axpy q (P.drop off) c (gs.take k)
theorem rowAt_get {q c : Int} {P gs : List Int} {off k : Nat} (hk : off + k < P.length) : (rowAt q c P gs off k)[off + k]? = P[off + k]? := by
  unfold rowAt
  rw [List.getElem?_append_right (by simp; omega)]
  have : off + k - (P.take off).length = k := by simp; omega
  rw [this, axpy_get _ _ _ (by simp; omega), List.getElem?_drop]
theorem rowAt_step {q c a b : Int} {P gs rest : List Int} {off k : Nat} (hk : off + k < P.length) (ha : P[off + k]? = some a) (hb : gs.drop k = b :: rest) : (rowAt q c P gs off k).set (off + k) ((a + c * b) % q) = rowAt q c P gs off (k + 1) := by
  unfold rowAt
  rw [List.set_append_right _ _ (by simp; omega)]
  have : off + k - (P.take off).length = k := by simp; omega
  rw [this, axpy_step _ _ _ a b (by rw [List.getElem?_drop]; exact ha)]
  have h : (gs.drop k)[0]? = some b := by rw [hb]; rfl
  rwa [List.getElem?_drop, Nat.add_zero] at h
theorem rowAt_zero (q c : Int) (P gs : List Int) (off : Nat) : rowAt q c P gs off 0 = P := by
  unfold rowAt; rw [List.take_zero, axpy_nil, List.take_append_drop]
theorem rowAt_all {q c : Int} {P gs : List Int} {off k : Nat} (h : gs.length ≤ k) : rowAt q c P gs off k = P.take off ++ axpy q (P.drop off) c gs := by
  unfold rowAt; rw [List.take_of_length_le h]

theorem ints_lt {w : World} {ad : Option Addr} {zs : List Int} (h : IsInts w ad zs) (h0 : zs ≠ []) : ∀ a, ad = some a → a.block < w.heap.size := by
  rcases h with h | ⟨b, off, rfl, hb, _⟩
  · exact absurd h h0
  · rintro a ⟨⟩; exact hb
theorem ints_ne {w : World} {ad : Option Addr} {zs : List Int} {g : Nat} (h : IsInts w ad zs) (hg : w.heap.size ≤ g) : zs ≠ [] → ∀ a, ad = some a → some a.block ≠ some g := by
  intro h0 a ha h'
  have := ints_lt h h0 a ha
  simp only [Option.some.injEq] at h'
  omega
def AddPost (w : World) (B g N C : Nat) (zs : List Int) (e : Ending) (w' : World) : Prop :=
  (∃ v, e = .returned v) ∧ w'.ownsRow B 3 1 (.slice (some ⟨g, 0, none⟩) N C) N (zs.map (Value.int .i64)) ∧ w.grownBy w' (some g)

set_option maxHeartbeats 1600000 in
theorem addMultiple_any (q c : Int) (B g off len cap N C : Nat) (P : List Int) (ad : Option Addr) (n cap' : Nat) (gs : List Int) (h2 : 2 ≤ q) (h3 : q ≤ 2000000000) (hc0 : 0 ≤ c) (hc : c < q)
    (hP : ∀ z ∈ P, 0 ≤ z ∧ z < q) (hg : ∀ z ∈ gs, 0 ≤ z ∧ z < q) (hn : gs.length = n) (hnl : n ≤ len) (hol : off + len ≤ N) (hN : N ≤ 1000000) (w : World)
    (hown : w.ownsRow B 3 1 (.slice (some ⟨g, 0, none⟩) N C) N (P.map (Value.int .i64))) (hz : IsInts w ad gs) (hne : gs ≠ [] → ∀ a, ad = some a → some a.block ≠ some g) :
    Calls Try.prog 96 #[.int .i64 q, .slice (some ⟨g, off, none⟩) len cap, .int .i64 c, .slice ad n cap'] w (AddPost w B g N C (P.take off ++ axpy q (P.drop off) c gs)) := by
  have hPl : P.length = N := by have := hown.1; simpa using this
  have HP := Lib.hid hP
  have HG := Lib.hid hg
  have HN := Lib.hid hn
  have HPL := Lib.hid hPl
  have HOW := Lib.hid hown
  clear hP hg hn hPl hown
  go_enter Try.func96, Try.ntmps96
  go_wp2_with fail
  go_loopw [8, 9, 12] (fun _ _ K wr => ∃ k : Nat, k ≤ n ∧ K = .int .i64 k ∧ wr.ownsRow B 3 1 (.slice (some ⟨g, 0, none⟩) N C) N ((rowAt q c P gs off k).map (Value.int .i64)) ∧ w.grownBy wr (some g)) (fun _ _ K _ => n - (intOf K).toNat)
  case atStart => exact ⟨0, Nat.zero_le _, rfl, by rw [rowAt_zero]; exact HOW.out, grown_of_below (Below.refl _ _) _⟩
  case round =>
    obtain ⟨k, hk, rfl, hownr, hgr⟩ := hrel
    by_cases hkn : k < n
    · obtain ⟨b, o', z, rfl, hb, hcz, hd⟩ := (hz.grown hgr (hne (by intro h; have := HN.out; simp [h] at this; omega))).at (k := k) (by have := HN.out; omega)
      have hok : off + k < P.length := by rw [HPL.out]; omega
      have hpk : P[off + k]? = some P[off + k] := by simp [hok]
      obtain ⟨hcu, hfu⟩ := own_at hownr (j := off + k) (by omega) ((rowAt_get hok).trans hpk)
      have hpr := HP.out P[off + k] (List.getElem_mem hok)
      have hzr := HG.out z (mem_drop hd)
      obtain ⟨m0, m1⟩ := mul_res h3 hc0 hc hzr.1 hzr.2
      have HO := Lib.hid (own_set (j := off + k) hownr ((P[off + k] + c * z) % q))
      have HS := Lib.hid (rowAt_step (q := q) (c := c) hok hpk hd)
      have HGR := Lib.hid hgr
      have HD := Lib.hid hd
      generalize P[off + k] = p at *
      clear hownr hgr hd hpk hok
      go_wp2
      go_roundw
      case rel =>
        refine ⟨k + 1, by omega, by go_num, ?_, grown_trans HGR.out (grown_cell _ _ _)⟩
        have h := HO.out
        rwa [HS.out] at h
      case measure => simp only [intOf]; omega
    · have HO := Lib.hid hownr
      have HGR := Lib.hid hgr
      clear hownr hgr
      go_wp2
      go_end0
      refine ⟨⟨_, rfl⟩, ?_, HGR.out⟩
      have h := HO.out
      rwa [rowAt_all (by have := HN.out; omega)] at h

end Go.Proofs.Ytipfckfjelignaa

