/- ParseList of the reference: a part is read; the list. -/
import Derived.Test.YtmiohdibbpckaaaRecL
namespace Go.Proofs.Ytmiohdibbpckaaa
open Go.RowKit

/-- A number is read from its byte i on. -/
theorem dgF_at {s : ByteArray} {i : Nat} (hi : i < s.size) (n : Int) : dgF (s.data.toList.drop i) n = (dgN n (s[i]'hi).toNat).bind (dgF (s.data.toList.drop (i + 1))) := by
  have hl : i < s.data.toList.length := by simpa using hi
  rw [List.drop_eq_getElem_cons hl, dgF_cons]; rfl

set_option maxRecDepth 100000 in
set_option maxHeartbeats 1600000 in
theorem l4Number_any (s : ByteArray) (hs : s.size ≤ 1048576) (w : World) :
    Calls Try.prog 72 #[.string s] w fun e w' => e = .returned (.int .i64 ((numO s.data.toList).getD (-1))) ∧ Below w.heap.size w w' := by
  have hln : s.data.toList.length = s.size := by simp
  by_cases hr : 1 ≤ s.size ∧ s.size ≤ 19
  · obtain ⟨h1, h19⟩ := hr
    have hin : inB (s.size : Int) 1 19 = true := inB_true.2 (by omega)
    have HIN := Lib.hid hin
    have h0s : 0 < s.size := by omega
    have hsi : (s.size : Int) ≤ 19 := by omega
    have hsi1 : (1 : Int) ≤ (s.size : Int) := by omega
    have hne : s.data.toList ≠ [] := by intro e; rw [e] at hln; simp at hln; omega
    have hcons : s.data.toList = (s[0]'h0s) :: s.data.toList.drop 1 := by
      have := List.drop_eq_getElem_cons (l := s.data.toList) (i := 0) (by omega)
      rw [List.drop_zero] at this
      exact this
    by_cases hz : (s[0]'h0s).toNat = 48 ∧ 1 < s.size
    · obtain ⟨hz0, hz1⟩ := hz
      have e0 : numO s.data.toList = none := by
        rw [hcons]; exact numO_zero hz0 (by intro e; have := congrArg List.length e; simp at this; omega)
      rw [e0]
      have e1 : (((s[0]'h0s).toNat : Int) == 48) = true := by rw [beq_iff_eq]; omega
      have e2 : (1 : Int) < (s.size : Int) := by omega
      clear hcons hin e0
      go_enter Try.func72, Try.ntmps72
      go_wp2_with (go_at_call 70; refine (l1In_any _ _ _ _).mono ?_; rintro e w' ⟨rfl, rfl⟩; rw [HIN.out])
      go_ret
      exact ⟨rfl, Below.refl _ _⟩
    · have e1 : (((s[0]'h0s).toNat : Int) == 48) = false ∨ ¬ (1 : Int) < (s.size : Int) := by
        by_cases h : (s[0]'h0s).toNat = 48
        · exact .inr (by omega)
        · exact .inl (by rw [beq_eq_false_iff_ne]; omega)
      have hlead : 1 < s.size → (s[0]'h0s).toNat ≠ 48 := fun h e => hz ⟨e, h⟩
      rw [numO_some hne]
      generalize hR : dgF s.data.toList (-1) = R
      have HR := Lib.hid hR
      have HLEAD := Lib.hid hlead
      have HLN := Lib.hid hln
      clear hcons hin hR hlead hln hz
      cases hb : (((s[0]'h0s).toNat : Int) == 48)
      · clear e1
        go_enter Try.func72, Try.ntmps72
        go_wp2_with (go_at_call 70; refine (l1In_any _ _ _ _).mono ?_; rintro e w' ⟨rfl, rfl⟩; rw [HIN.out])
        go_loopw [3, 4, 5] (fun N I _ wr => ∃ (i : Nat) (n : Int), i ≤ s.size ∧ I = .int .i64 i ∧ N = .int .i64 n ∧ wr = w ∧ 0 ≤ n ∧ n ≤ 4611686018427387903 ∧ (i = 0 → n = 0) ∧ (0 < i → 1 < s.size → 1 ≤ n) ∧ dgF (s.data.toList.drop i) (if i = 0 then -1 else n) = R) (fun _ I _ _ => s.size - (intOf I).toNat)
        case atStart => exact ⟨0, 0, Nat.zero_le _, rfl, rfl, rfl, by omega, by omega, fun _ => rfl, fun h => absurd h (Nat.lt_irrefl 0), HR.out⟩
        case round =>
          obtain ⟨i, n, his, rfl, rfl, rfl, hn0, hn1, hi0, hi1, heq⟩ := hrel
          by_cases hi : i < s.size
          · have hii : (i : Int) < (s.size : Int) := by omega
            rw [dgF_at hi] at heq
            obtain ⟨c, hc⟩ : ∃ c : Int, c = (((s[i]'hi).toNat : Nat) : Int) := ⟨_, rfl⟩
            rw [← hc] at heq
            have hc0 : 0 ≤ c ∧ c ≤ 255 := by have := (s[i]'hi).toNat_lt; omega
            obtain ⟨hc1, hc2⟩ := hc0
            have hnz : (if i = 0 then (-1 : Int) else n) ≠ 0 := by
              split
              · omega
              · have := hi1 (by omega) (by omega); omega
            have hlead0 : i = 0 → 1 < s.size → c ≠ 48 := fun h0 h1 => by subst h0; rw [hc]; have := HLEAD.out h1; omega
            have hcw : (((s[i]'hi).toNat : Nat) : Int) = c := hc.symm
            have e5 : IntKind.i64.wrap (c - 48) = c - 48 := by rw [IntKind.wrap_i64]; omega
            by_cases hk : 48 ≤ c ∧ c ≤ 57
            · have HIK := Lib.hid (show inB (c - 48) 0 9 = true from inB_true.2 (by omega))
              obtain ⟨hk0, hk1⟩ := hk
              have e7 : IntKind.i64.wrap (4611686018427387903 - (c - 48)) = 4611686018427387903 - (c - 48) := by rw [IntKind.wrap_i64]; omega
              have e8 : (4611686018427387903 - (c - 48)).tdiv 10 = (4611686018427387903 - (c - 48)) / 10 := Int.tdiv_eq_ediv_of_nonneg (by omega)
              by_cases hg : (4611686018427387903 - (c - 48)) / 10 < n
              · have HN := Lib.hid (show R = none by
                  rw [← heq]
                  have h0 : ¬ i = 0 := fun h => by have := hi0 h; omega
                  rw [if_neg h0] at hnz ⊢
                  have : dgN n c = none := by unfold dgN; rw [if_neg (by omega), if_neg (by omega), if_neg hnz, if_neg (by omega), if_pos hg]
                  rw [this]; rfl)
                clear heq hnz hlead0 hi1 hi0 hc
                go_wp2_with (go_at_call 70; refine (l1In_any _ _ _ _).mono ?_; rintro e w' ⟨rfl, rfl⟩; rw [HIK.out])
                go_ret
                rw [HN.out]
                exact ⟨rfl, Below.refl _ _⟩
              · have e9 : IntKind.i64.wrap (10 * n) = 10 * n := by rw [IntKind.wrap_i64]; omega
                have e10 : IntKind.i64.wrap (10 * n + (c - 48)) = 10 * n + (c - 48) := by rw [IntKind.wrap_i64]; omega
                have hm : dgN (if i = 0 then (-1 : Int) else n) c = some (10 * n + (c - 48)) := by
                  unfold dgN
                  rw [if_neg (by omega), if_neg (by omega), if_neg hnz]
                  by_cases h0 : i = 0
                  · rw [if_pos h0, if_pos rfl, hi0 h0]; congr 1; omega
                  · rw [if_neg h0, if_neg (by omega), if_neg hg]
                have HM := Lib.hid (show dgF (s.data.toList.drop (i + 1)) (if i + 1 = 0 then (-1 : Int) else 10 * n + (c - 48)) = R by
                  rw [← heq, hm, if_neg (by omega)]; rfl)
                have hp : 1 < s.size → 1 ≤ 10 * n + (c - 48) := fun h1 => by
                  by_cases h0 : i = 0
                  · have := hlead0 h0 h1; omega
                  · have := hi1 (by omega) h1; omega
                have HP := Lib.hid hp
                have hnn : 0 ≤ 10 * n + (c - 48) ∧ 10 * n + (c - 48) ≤ 4611686018427387903 := by omega
                obtain ⟨hnn0, hnn1⟩ := hnn
                clear heq hnz hlead0 hi1 hi0 hm hp hc
                go_wp2_with (go_at_call 70; refine (l1In_any _ _ _ _).mono ?_; rintro e w' ⟨rfl, rfl⟩; rw [HIK.out])
                go_roundw
                case rel => exact ⟨i + 1, 10 * n + (c - 48), by omega, by go_num, rfl, (by first | rfl | trivial), hnn0, hnn1, fun h => absurd h (by omega), fun _ => HP.out, HM.out⟩
                case measure => simp only [intOf]; omega
            · have HIK := Lib.hid (show inB (c - 48) 0 9 = false by rw [← Bool.not_eq_true, inB_true]; omega)
              have HN := Lib.hid (show R = none by
                rw [← heq]
                have : dgN (if i = 0 then (-1 : Int) else n) c = none := by
                  unfold dgN
                  by_cases h : c < 48
                  · rw [if_pos h]
                  · rw [if_neg h, if_pos (by omega)]
                rw [this]; rfl)
              clear heq hnz hlead0 hi1 hi0 hk hc
              go_wp2_with (go_at_call 70; refine (l1In_any _ _ _ _).mono ?_; rintro e w' ⟨rfl, rfl⟩; rw [HIK.out])
              go_ret
              rw [HN.out]
              exact ⟨rfl, Below.refl _ _⟩
          · have HN := Lib.hid (show R = some n by
              rw [← heq, if_neg (by omega), show s.data.toList.drop i = [] from List.drop_eq_nil_of_le (by rw [HLN.out]; omega)]; rfl)
            have hii : ¬ (i : Int) < (s.size : Int) := by omega
            clear heq hi0 hi1
            go_wp2
            go_ret
            rw [HN.out]
            exact ⟨rfl, Below.refl _ _⟩
      · have e2 : ¬ (1 : Int) < (s.size : Int) := e1.resolve_left (by rw [hb]; simp)
        clear e1
        go_enter Try.func72, Try.ntmps72
        go_wp2_with (go_at_call 70; refine (l1In_any _ _ _ _).mono ?_; rintro e w' ⟨rfl, rfl⟩; rw [HIN.out])
        go_loopw [3, 4, 5] (fun N I _ wr => ∃ (i : Nat) (n : Int), i ≤ s.size ∧ I = .int .i64 i ∧ N = .int .i64 n ∧ wr = w ∧ 0 ≤ n ∧ n ≤ 4611686018427387903 ∧ (i = 0 → n = 0) ∧ (0 < i → 1 < s.size → 1 ≤ n) ∧ dgF (s.data.toList.drop i) (if i = 0 then -1 else n) = R) (fun _ I _ _ => s.size - (intOf I).toNat)
        case atStart => exact ⟨0, 0, Nat.zero_le _, rfl, rfl, rfl, by omega, by omega, fun _ => rfl, fun h => absurd h (Nat.lt_irrefl 0), HR.out⟩
        case round =>
          obtain ⟨i, n, his, rfl, rfl, rfl, hn0, hn1, hi0, hi1, heq⟩ := hrel
          by_cases hi : i < s.size
          · have hii : (i : Int) < (s.size : Int) := by omega
            rw [dgF_at hi] at heq
            obtain ⟨c, hc⟩ : ∃ c : Int, c = (((s[i]'hi).toNat : Nat) : Int) := ⟨_, rfl⟩
            rw [← hc] at heq
            have hc0 : 0 ≤ c ∧ c ≤ 255 := by have := (s[i]'hi).toNat_lt; omega
            obtain ⟨hc1, hc2⟩ := hc0
            have hnz : (if i = 0 then (-1 : Int) else n) ≠ 0 := by
              split
              · omega
              · have := hi1 (by omega) (by omega); omega
            have hlead0 : i = 0 → 1 < s.size → c ≠ 48 := fun h0 h1 => by subst h0; rw [hc]; have := HLEAD.out h1; omega
            have hcw : (((s[i]'hi).toNat : Nat) : Int) = c := hc.symm
            have e5 : IntKind.i64.wrap (c - 48) = c - 48 := by rw [IntKind.wrap_i64]; omega
            by_cases hk : 48 ≤ c ∧ c ≤ 57
            · have HIK := Lib.hid (show inB (c - 48) 0 9 = true from inB_true.2 (by omega))
              obtain ⟨hk0, hk1⟩ := hk
              have e7 : IntKind.i64.wrap (4611686018427387903 - (c - 48)) = 4611686018427387903 - (c - 48) := by rw [IntKind.wrap_i64]; omega
              have e8 : (4611686018427387903 - (c - 48)).tdiv 10 = (4611686018427387903 - (c - 48)) / 10 := Int.tdiv_eq_ediv_of_nonneg (by omega)
              by_cases hg : (4611686018427387903 - (c - 48)) / 10 < n
              · have HN := Lib.hid (show R = none by
                  rw [← heq]
                  have h0 : ¬ i = 0 := fun h => by have := hi0 h; omega
                  rw [if_neg h0] at hnz ⊢
                  have : dgN n c = none := by unfold dgN; rw [if_neg (by omega), if_neg (by omega), if_neg hnz, if_neg (by omega), if_pos hg]
                  rw [this]; rfl)
                clear heq hnz hlead0 hi1 hi0 hc
                go_wp2_with (go_at_call 70; refine (l1In_any _ _ _ _).mono ?_; rintro e w' ⟨rfl, rfl⟩; rw [HIK.out])
                go_ret
                rw [HN.out]
                exact ⟨rfl, Below.refl _ _⟩
              · have e9 : IntKind.i64.wrap (10 * n) = 10 * n := by rw [IntKind.wrap_i64]; omega
                have e10 : IntKind.i64.wrap (10 * n + (c - 48)) = 10 * n + (c - 48) := by rw [IntKind.wrap_i64]; omega
                have hm : dgN (if i = 0 then (-1 : Int) else n) c = some (10 * n + (c - 48)) := by
                  unfold dgN
                  rw [if_neg (by omega), if_neg (by omega), if_neg hnz]
                  by_cases h0 : i = 0
                  · rw [if_pos h0, if_pos rfl, hi0 h0]; congr 1; omega
                  · rw [if_neg h0, if_neg (by omega), if_neg hg]
                have HM := Lib.hid (show dgF (s.data.toList.drop (i + 1)) (if i + 1 = 0 then (-1 : Int) else 10 * n + (c - 48)) = R by
                  rw [← heq, hm, if_neg (by omega)]; rfl)
                have hp : 1 < s.size → 1 ≤ 10 * n + (c - 48) := fun h1 => by
                  by_cases h0 : i = 0
                  · have := hlead0 h0 h1; omega
                  · have := hi1 (by omega) h1; omega
                have HP := Lib.hid hp
                have hnn : 0 ≤ 10 * n + (c - 48) ∧ 10 * n + (c - 48) ≤ 4611686018427387903 := by omega
                obtain ⟨hnn0, hnn1⟩ := hnn
                clear heq hnz hlead0 hi1 hi0 hm hp hc
                go_wp2_with (go_at_call 70; refine (l1In_any _ _ _ _).mono ?_; rintro e w' ⟨rfl, rfl⟩; rw [HIK.out])
                go_roundw
                case rel => exact ⟨i + 1, 10 * n + (c - 48), by omega, by go_num, rfl, (by first | rfl | trivial), hnn0, hnn1, fun h => absurd h (by omega), fun _ => HP.out, HM.out⟩
                case measure => simp only [intOf]; omega
            · have HIK := Lib.hid (show inB (c - 48) 0 9 = false by rw [← Bool.not_eq_true, inB_true]; omega)
              have HN := Lib.hid (show R = none by
                rw [← heq]
                have : dgN (if i = 0 then (-1 : Int) else n) c = none := by
                  unfold dgN
                  by_cases h : c < 48
                  · rw [if_pos h]
                  · rw [if_neg h, if_pos (by omega)]
                rw [this]; rfl)
              clear heq hnz hlead0 hi1 hi0 hk hc
              go_wp2_with (go_at_call 70; refine (l1In_any _ _ _ _).mono ?_; rintro e w' ⟨rfl, rfl⟩; rw [HIK.out])
              go_ret
              rw [HN.out]
              exact ⟨rfl, Below.refl _ _⟩
          · have HN := Lib.hid (show R = some n by
              rw [← heq, if_neg (by omega), show s.data.toList.drop i = [] from List.drop_eq_nil_of_le (by rw [HLN.out]; omega)]; rfl)
            have hii : ¬ (i : Int) < (s.size : Int) := by omega
            clear heq hi0 hi1
            go_wp2
            go_ret
            rw [HN.out]
            exact ⟨rfl, Below.refl _ _⟩
  · have e0 : numO s.data.toList = none := by
      by_cases h : s.size = 0
      · rw [show s.data.toList = [] from List.length_eq_zero_iff.1 (by omega)]; exact numO_nil
      · exact numO_long (by omega)
    have HIN := Lib.hid (show inB (s.size : Int) 1 19 = false by rw [← Bool.not_eq_true, inB_true]; omega)
    rw [e0]
    clear hr e0 hln
    go_enter Try.func72, Try.ntmps72
    go_wp2_with (go_at_call 70; refine (l1In_any _ _ _ _).mono ?_; rintro e w' ⟨rfl, rfl⟩; rw [HIN.out])
    go_ret
    exact ⟨rfl, Below.refl _ _⟩

theorem str_cell {w : World} {B q cap i : Nat} {ad : Option Addr} {ws : List ByteArray} {x : ByteArray} (h : w.ownsRow B 9 1 (.slice ad q cap) q (ws.map Value.string)) (hx : ws[i]? = some x) :
    ∃ b off, ad = some ⟨b, off, none⟩ ∧ w.cell? ⟨b, off + i, none⟩ = some (.string x) := by
  have hn : ws.length = q := by have := h.1; simpa using this
  have hi : i < q := by rw [← hn]; exact (List.getElem?_eq_some_iff.1 hx).1
  rcases h.2 with ⟨h1, h2⟩ | ⟨g, cap', cur, h1, _⟩
  · omega
  · simp only [Value.slice.injEq] at h1
    obtain ⟨rfl, _, rfl⟩ := h1
    have hc := World.ownsRow.cellAt h i (by omega)
    exact ⟨g, 0, rfl, by rw [Nat.zero_add, hc]; simp [hx]⟩

theorem numO_range {l : List UInt8} {m : Int} (h : numO l = some m) : 0 ≤ m ∧ m ≤ 4611686018427387903 := by
  have hne : l ≠ [] := by rintro rfl; rw [numO_nil] at h; cases h
  rw [numO_some hne] at h
  exact dgF_range (by omega) h hne

set_option maxRecDepth 100000 in
set_option maxHeartbeats 1600000 in
theorem cList_any (s : ByteArray) (hs : s.size ≤ 1048576) (w : World) :
    Calls Try.prog 64 #[.string s] w (AnsL w (plO s)) := by
  by_cases hm : s = ⟨#[45]⟩
  · subst hm
    rw [show plO ⟨#[45]⟩ = some [] from if_pos rfl]
    go_enter Try.func64, Try.ntmps64
    go_wp2
    go_ret2
    exact ⟨_, rfl, owI_nil _ _ (Nat.le_refl _), Below.refl _ _⟩
  · have hps := plO_nums hm
    have hne : (s.toList == [45]) = false := by
      rw [beq_eq_false_iff_ne]; intro h
      exact hm (WideShapes.bytes_inj (by rw [← ByteArray.toList_eq, h]))
    rw [hps]
    obtain ⟨i0, hi, hz0, hz1, hz2⟩ := info_parts Try.info3
    generalize hR : numsO (pcs 44 [] s.data.toList) = R
    have HR := Lib.hid hR
    clear hps hR
    go_enter Try.func64, Try.ntmps64
    go_wp2_with (go_at_call 71; refine (l1Split_any s 44 hs _).mono ?_)
    rintro e w1 ⟨sa, q, sc, ws, rfl, hown, hws, hwl, hwz, hb⟩
    have hql : ws.length = q := by have := hown.1; simpa using this
    have hq : q ≤ 1048577 := by omega
    rw [← hws] at HR
    have HS := Lib.hid hown
    have HB0 := Lib.hid hb
    have HQL := Lib.hid hql
    have HWZ := Lib.hid hwz
    clear hown hb hws hwl hql hwz
    go_wp2
    go_loopw [4, 6, 7, 13] (fun V _ _ I wr => ∃ (i : Nat) (va : Option Addr) (vc : Nat) (acc : List Int), i ≤ q ∧ I = .int .i64 i ∧ V = .slice va i vc ∧ wr.ownsRow w1.heap.size 3 1 (.slice va i vc) i (acc.map (Value.int .i64)) ∧ Below w1.heap.size w1 wr ∧ (numsO ((ws.drop i).map fun x => x.data.toList)).map (acc ++ ·) = R) (fun _ _ _ I _ => q - (intOf I).toNat)
    case atStart => exact ⟨0, none, 0, [], Nat.zero_le _, rfl, rfl, World.ownsRow_nil _ _ _ _, Below.refl _ _, by rw [List.drop_zero, HR.out]; cases R <;> simp⟩
    case round =>
      obtain ⟨i, va, vc, acc, hiq, rfl, rfl, hown, hbel, heq⟩ := hrel
      have HO := Lib.hid hown
      have HB := Lib.hid hbel
      have HEQ := Lib.hid heq
      clear hown hbel heq
      by_cases hi1 : i < q
      · have hiqi : (i : Int) < (q : Int) := by omega
        have hlt : i < ws.length := by rw [HQL.out]; exact hi1
        obtain ⟨x, hx⟩ : ∃ x, x = ws[i]'hlt := ⟨_, rfl⟩
        have HD := Lib.hid (show ws.drop i = x :: ws.drop (i + 1) by rw [List.drop_eq_getElem_cons hlt, hx])
        have hxs : x.size ≤ 1048576 := Nat.le_trans (HWZ.out x (by rw [hx]; exact List.getElem_mem hlt)) hs
        obtain ⟨b, off, rfl, hcell⟩ := str_cell (own_below HS.out HB.out) (show ws[i]? = some x by rw [hx]; simp [hlt])
        clear hlt hx
        cases hn : numO x.data.toList with
        | none =>
          have HN := Lib.hid (show none = R by rw [← HEQ.out, HD.out, List.map_cons, numsO_cons, hn]; rfl)
          have HV := Lib.hid (show (numO x.data.toList).getD (-1) = -1 by rw [hn]; rfl)
          clear hn
          go_wp2_with (go_at_call 72; refine (l4Number_any x hxs _).mono ?_; rw [HV.out]; rintro e w2 ⟨rfl, hb2⟩; have HB2 := Lib.hid (HB.out.trans (hb2.mono HB.out.size)); clear hb2)
          go_ret2
          rw [← HN.out]
          exact ansI_nil (bt HB0.out HB2.out)
        | some n =>
          obtain ⟨hn0, hn1⟩ := numO_range hn
          have HN := Lib.hid (show (numsO ((ws.drop (i + 1)).map fun x => x.data.toList)).map ((acc ++ [n]) ++ ·) = R by
            rw [← HEQ.out, HD.out, List.map_cons, numsO_cons, hn]
            cases numsO ((ws.drop (i + 1)).map fun x => x.data.toList) <;> simp)
          have HV := Lib.hid (show (numO x.data.toList).getD (-1) = n by rw [hn]; rfl)
          clear hn
          go_wp2_with (first
            | (at_builtin; refine wpList_append_ints rfl _ _ 22 rfl w1.heap.size 3 i0 Try.underlying22 hi hz0 hz1 hz2 _ i acc rfl (HO2.out.alloc _) (some ⟨w2.heap.size, 0, none⟩) 1 1 [n] rfl rfl (ints_spot w2 _ rfl [n] 3) (fun h => by cases h) (by omega) (Nat.le_trans HB2.out.size (ba w2 _).size) ?_; intro v' w3 hown' hgrow; obtain ⟨va', vc', rfl⟩ := own_shape hown'; have HO3 := Lib.hid hown'; have HB3 := Lib.hid ((HB2.out.trans ((ba w2 _).mono HB2.out.size)).grown hgrow (Nat.le_trans HB2.out.size (ba w2 _).size) (fun q hq => (HO2.out.lt q hq).1)); clear hown' hgrow)
            | (go_at_call 72; refine (l4Number_any x hxs _).mono ?_; rw [HV.out]; rintro e w2 ⟨rfl, hb2⟩; have HB2 := Lib.hid (HB.out.trans (hb2.mono HB.out.size)); have HO2 := Lib.hid (own_below HO.out hb2); clear hb2))
          go_roundw
          case rel => exact ⟨i + 1, va', vc', acc ++ [n], by omega, by go_num, rfl, HO3.out, HB3.out, HN.out⟩
          case measure => simp only [intOf]; omega
      · have HN := Lib.hid (show some acc = R by rw [← HEQ.out, show ws.drop i = [] from List.drop_eq_nil_of_le (by rw [HQL.out]; omega)]; simp [numsO_nil])
        have hiqi : ¬ (i : Int) < (q : Int) := by omega
        cases hh : hashB acc
        · have HH := Lib.hid hh
          go_wp2_with (go_at_call 50; refine (l4If_no va i vc acc (own_ints HO.out).2.1 (by omega) HH.out _ (own_ints HO.out).1).mono ?_; rintro e w' ⟨rfl, rfl⟩)
          go_ret2
          rw [← HN.out, Option.bind_some, HH.out]
          exact ansI_nil (bt HB0.out HB.out)
        · have HH := Lib.hid hh
          go_wp2_with (go_at_call 50; refine (l4If_yes va i vc acc (own_ints HO.out).2.1 (by omega) HH.out _ (own_ints HO.out).1).mono ?_; rintro e w' ⟨rfl, rfl⟩)
          go_ret2
          rw [← HN.out, Option.bind_some, HH.out]
          exact ⟨_, rfl, (owI_mk HO.out HB.out.size).wide HB0.out.size (Nat.le_refl _) (Nat.le_refl _), bt HB0.out HB.out⟩

theorem sParseList_any (s : ByteArray) (hs : s.size ≤ 1048576) (w : World) :
    Calls Try.prog 47 #[.string s] w (AnsL w (plO s)) := by
  go_enter Try.func47, Try.ntmps47
  go_wp2_with (go_at_call 64; refine (cList_any s hs _).mono ?_)
  rintro e w1 ⟨v, rfl, ho, hb⟩
  have HO := Lib.hid ho
  have HB := Lib.hid hb
  clear ho hb
  go_wp2
  go_ret2
  exact ⟨_, rfl, HO.out, HB.out⟩

theorem plL_length (s : ByteArray) : (plL s).length ≤ 400 := by
  unfold plL
  by_cases hm : s = ⟨#[45]⟩
  · rw [plO, if_pos hm]; simp
  · rw [plO_nums hm]
    cases numsO (pcs 44 [] s.data.toList) with
    | none => simp
    | some l =>
      rw [Option.bind_some]
      split
      · rename_i h; exact (hashB_true.1 h).1
      · simp
theorem parseList_ans (s : ByteArray) (hs : s.size ≤ 1048576) (w : World) :
    Calls Try.prog 48 #[.string s] w (AnsI w (plL s) (plB s)) := parseList_any s hs w
theorem sParseList_ans (s : ByteArray) (hs : s.size ≤ 1048576) (w : World) :
    Calls Try.prog 47 #[.string s] w (AnsI w (plL s) (plB s)) := sParseList_any s hs w

end Go.Proofs.Ytmiohdibbpckaaa

