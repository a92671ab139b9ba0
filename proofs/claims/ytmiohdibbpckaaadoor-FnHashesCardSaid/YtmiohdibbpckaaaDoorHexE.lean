/- Hexadecimal texts that are read: plain facts; strconv.ParseUint at base 16 and 62 bits. -/
import Derived.Test.YtmiohdibbpckaaaDoorHexD
import Derived.Test.YtmiohdibbpckaaaDoorShf
import Derived.Test.YtmiohdibbpckaaaDoorHshC
import Derived.Lib.IfaceEq
import Derived.Lib.ConvBytes
import Derived.Laws.Closers25
import Derived.Laws.Closers25b
import Derived.Laws.Strings3
import Derived.Lib.Strings
import Derived.Lib.Walk
import Derived.Lib.AtoiAllMem
namespace Go.Proofs.YtmiohdibbpckaaaDoor
open Go.RowKit

def dval (c : UInt8) : Nat := if c.toNat ≤ 57 then c.toNat - 48 else c.toNat - 87
theorem dval_hx {m : Nat} (h : m < 16) : dval (hx m) = m := by
  unfold dval
  rw [hx_nat h]
  unfold dig
  split <;> split <;> omega
theorem hx_cases {m : Nat} (h : m < 16) : (48 ≤ (hx m).toNat ∧ (hx m).toNat ≤ 57 ∧ m = (hx m).toNat - 48) ∨ (97 ≤ (hx m).toNat ∧ (hx m).toNat ≤ 102 ∧ m = (hx m).toNat - 87) := by
  rw [hx_nat h]
  unfold dig
  split <;> omega
def valL : List UInt8 → Nat
  | [] => 0
  | c :: l => dval c * 16 ^ l.length + valL l
theorem valL_hexK (k n : Nat) : valL (hexK k n) = n % 16 ^ k := by
  induction k with
  | zero => simp [hexK, valL, Nat.mod_one]
  | succ k ih =>
    show dval (hx (n / 16 ^ k % 16)) * 16 ^ (hexK k n).length + valL (hexK k n) = _
    rw [hexK_length, ih, dval_hx (Nat.mod_lt _ (by decide)), Nat.pow_succ, Nat.mod_mul, Nat.mul_comm, Nat.add_comm]
theorem hexK_snoc (k m d : Nat) (h : d < 16) : hexK (k + 1) (16 * m + d) = hexK k m ++ [hx d] := by
  induction k with
  | zero =>
    show [hx ((16 * m + d) / 16 ^ 0 % 16)] = [hx d]
    rw [Nat.pow_zero, Nat.div_one, show (16 * m + d) % 16 = d from by omega]
  | succ k ih =>
    show hx ((16 * m + d) / 16 ^ (k + 1) % 16) :: hexK (k + 1) (16 * m + d) = hx (m / 16 ^ k % 16) :: hexK k m ++ [hx d]
    rw [ih]
    have : (16 * m + d) / 16 ^ (k + 1) = m / 16 ^ k := by
      rw [Nat.pow_succ, Nat.mul_comm (16 ^ k) 16, ← Nat.div_div_eq_div_mul, show (16 * m + d) / 16 = m from by omega]
    rw [this]; rfl

/-- What a text reads as. -/
def pdN (s : ByteArray) : Nat := valL s.data.toList
def pdB (s : ByteArray) : Bool := decide (pdN s < 4611686018427387904) && decide (hexK 16 (pdN s) = s.data.toList)
def pdV (s : ByteArray) : Int := if pdB s then (pdN s : Int) else 0
theorem hexS_list {s : ByteArray} {n : Nat} (h : s.data.toList = hexK 16 n) : s = hexS 16 n := by
  unfold hexS
  rw [← h]
theorem pd_yes {s : ByteArray} {n : Nat} (h : n < 4611686018427387904) (hs : s.data.toList = hexK 16 n) : pdB s = true ∧ pdN s = n ∧ pdV s = n := by
  have e : pdN s = n := by
    unfold pdN
    rw [hs, valL_hexK, Nat.mod_eq_of_lt (Nat.lt_trans h (by decide))]
  have b : pdB s = true := by
    unfold pdB
    rw [e, hs]
    simp [h]
  exact ⟨b, e, by unfold pdV; rw [b, e]; rfl⟩
theorem pd_no {s : ByteArray} (h : ∀ n, n < 4611686018427387904 → s.data.toList ≠ hexK 16 n) : pdB s = false ∧ pdV s = 0 := by
  have b : pdB s = false := by
    cases e : pdB s with
    | false => rfl
    | true =>
      unfold pdB at e
      rw [Bool.and_eq_true, decide_eq_true_eq, decide_eq_true_eq] at e
      exact absurd e.2.symm (h _ e.1)
  exact ⟨b, by unfold pdV; rw [b]; rfl⟩
theorem pd_true {s : ByteArray} (h : pdB s = true) : pdN s < 4611686018427387904 ∧ s.data.toList = hexK 16 (pdN s) ∧ pdV s = pdN s := by
  have h0 := h
  unfold pdB at h
  rw [Bool.and_eq_true, decide_eq_true_eq, decide_eq_true_eq] at h
  exact ⟨h.1, h.2.symm, by unfold pdV; rw [h0]; rfl⟩

/-- What the first k digits of a text of n come to. -/
def Upto (bs : List UInt8) (a : Int) (k : Nat) : Prop := ∀ n, n < 4611686018427387904 → bs = hexK 16 n → a = ((n / 16 ^ (16 - k) : Nat) : Int)
theorem upto_zero (bs : List UInt8) : Upto bs 0 0 := fun n hn _ => by
  rw [Nat.div_eq_of_lt (Nat.lt_trans hn (by decide))]; rfl
theorem upto_char {bs : List UInt8} {a : Int} {k : Nat} {c : UInt8} (h : Upto bs a k) (hk : k < bs.length) (hc : bs[k] = c) {n : Nat} (hn : n < 4611686018427387904) (e : bs = hexK 16 n) :
    ∃ m, m < 16 ∧ c = hx m ∧ a * 16 + m = ((n / 16 ^ (16 - (k + 1)) : Nat) : Int) ∧ n / 16 ^ (16 - (k + 1)) ≤ n := by
  have hl : k < 16 := by rw [e, hexK_length] at hk; exact hk
  refine ⟨n / 16 ^ (16 - (k + 1)) % 16, Nat.mod_lt _ (by decide), ?_, ?_, Nat.div_le_self _ _⟩
  · subst e
    rw [← hc, hexK_get, show 16 - 1 - k = 16 - (k + 1) from by omega]
  · rw [h n hn e]
    have e2 : 16 - k = 16 - (k + 1) + 1 := by omega
    rw [e2, ← pow_next]
    omega
/-- The next digit. -/
theorem upto_next {bs : List UInt8} {a : Int} {k : Nat} {c : UInt8} (h : Upto bs a k) (hk : k < bs.length) (hc : bs[k] = c) {d : Int} (hd : (c.toNat ≤ 57 ∧ d = (c.toNat : Int) - 48) ∨ (97 ≤ c.toNat ∧ d = (c.toNat : Int) - 87) ∨ 102 < c.toNat ∨ (c.toNat < 97 ∧ 57 < c.toNat) ∨ c.toNat < 48) :
    Upto bs (a * 16 + d) (k + 1) := fun n hn e => by
  obtain ⟨m, hm, rfl, h1, _⟩ := upto_char h hk hc hn e
  rcases hx_cases hm with ⟨g1, g2, g3⟩ | ⟨g1, g2, g3⟩ <;> omega
/-- No text of a digest goes on like this. -/
theorem upto_none {bs : List UInt8} {a : Int} {k : Nat} {c : UInt8} (h : Upto bs a k) (hk : k < bs.length) (hc : bs[k] = c)
    (hb : (48 ≤ c.toNat ∧ c.toNat ≤ 57 ∧ 4611686018427387904 ≤ a * 16 + ((c.toNat : Int) - 48)) ∨ (97 ≤ c.toNat ∧ c.toNat ≤ 102 ∧ 4611686018427387904 ≤ a * 16 + ((c.toNat : Int) - 87)) ∨ c.toNat < 48 ∨ (57 < c.toNat ∧ c.toNat < 97) ∨ 102 < c.toNat) :
    ∀ n, n < 4611686018427387904 → bs ≠ hexK 16 n := fun n hn e => by
  obtain ⟨m, hm, rfl, h1, h2⟩ := upto_char h hk hc hn e
  rcases hx_cases hm with ⟨g1, g2, g3⟩ | ⟨g1, g2, g3⟩ <;> omega
theorem upto_end {bs : List UInt8} {a : Int} {k : Nat} (h : Upto bs a k) (hk : k = bs.length) {n : Nat} (hn : n < 4611686018427387904) (e : bs = hexK 16 n) : a = n := by
  have := h n hn e
  rw [e, hexK_length] at hk
  rw [this, hk]; simp
end Go.Proofs.YtmiohdibbpckaaaDoor

/- strconv.ParseUint at base 16 and 62 bits. -/
namespace Go.Proofs.YtmiohdibbpckaaaDoor
open Go.RowKit

/-- The two sentinels' variables. -/
def ErrAt (w : World) : Prop := (∃ te pe, w.cell? ⟨0, 0, none⟩ = some (.iface te pe)) ∧ ∃ te pe, w.cell? ⟨1, 0, none⟩ = some (.iface te pe)
theorem cell_below {w w' : World} {g : Nat} {v : Value} (h : w.cell? ⟨g, 0, none⟩ = some v) (hb : Below w.heap.size w w') : w'.cell? ⟨g, 0, none⟩ = some v := by
  have hl : g < w.heap.size := by
    unfold World.cell? at h
    cases e : w.heap[g]? with
    | none => simp only [e] at h; cases h
    | some x => exact (Array.getElem?_eq_some_iff.1 e).1
  rw [hb.cell (p := ⟨g, 0, none⟩) hl]; exact h
theorem ErrAt.below {w w' : World} (h : ErrAt w) (hb : Below w.heap.size w w') : ErrAt w' := by
  obtain ⟨⟨te, pe, h1⟩, te', pe', h2⟩ := h
  exact ⟨⟨te, pe, cell_below h1 hb⟩, te', pe', cell_below h2 hb⟩

abbrev errE (n : Int) : Value := .iface 118 (.int .i64 n)
theorem cmpE : (Tryd.prog.info? 118).map (·.comparable) = some true := by kernel_rfl

theorem toError_any (fn s : ByteArray) (base bits n : Int) (hn : n = 1 ∨ n = 2) (w : World) (hlim : s.size ≤ 281474976710656) (h : ErrAt w) :
    Calls Tryd.prog 85 #[.string fn, .string s, .int .i64 base, .int .i64 bits, errE n] w fun e w' => (∃ t v, e = .returned (.iface t v)) ∧ Below w.heap.size w w' := by
  obtain ⟨⟨te, pe, h1⟩, te', pe', h2⟩ := h
  have heq : ∀ a b W, (binOp .eql 75 (errE a) (errE b)).run Tryd.prog W = .ok (.bool (a == b)) W := fun a b W => Lib.run_eql_iface_int W a b Tryd.underlying75 cmpE Tryd.underlying118
  rcases hn with rfl | rfl
  · have q1 := heq 1 2
    have q2 := heq 1 1
    go_enter Tryd.func85, Tryd.ntmps85
    go_wp2_with (go_at_call 106; refine (Tryd.strconv_rangeError fn s _ _ hlim h2 (.inr ⟨_, _, rfl⟩)).mono ?_; rintro e w' ⟨N, rfl, _, _, hb⟩)
    go_ret
    exact ⟨⟨_, _, rfl⟩, hb⟩
  · have q1 := heq 2 2
    go_enter Tryd.func85, Tryd.ntmps85
    go_wp2_with (go_at_call 105; refine (Tryd.strconv_syntaxError fn s _ _ hlim h1 (.inr ⟨_, _, rfl⟩)).mono ?_; rintro e w' ⟨N, rfl, _, _, hb⟩)
    go_ret
    exact ⟨⟨_, _, rfl⟩, hb⟩

theorem lower_any (c : Int) (w : World) :
    Calls Tryd.prog 103 #[.int .u8 c] w fun e w' => e = .returned (.int .u8 (bits .or .u8 c 32)) ∧ w = w' := by
  go_enter Tryd.func103, Tryd.ntmps103
  go_wp2
  go_ret
  exact ⟨rfl, rfl⟩
end Go.Proofs.YtmiohdibbpckaaaDoor

/- strconv.ParseUint at base 16 and 62 bits: the walk. -/
namespace Go.Proofs.YtmiohdibbpckaaaDoor
open Go.RowKit

/-- What the inner function answers. -/
def PU (t : ByteArray) (e : Ending) : Prop :=
  ∃ (x : Int) (er : Value), e = .returned (.tuple #[.int .u64 x, er]) ∧ 0 ≤ x ∧ x < 4611686018427387904 ∧ ((er = .nilIface ∧ ∀ n, n < 4611686018427387904 → t.data.toList = hexK 16 n → x = (n : Int)) ∨ ((∃ i, (i = 1 ∨ i = 2) ∧ er = errE i) ∧ ∀ n, n < 4611686018427387904 → t.data.toList ≠ hexK 16 n))
theorem pu_bad {t : ByteArray} {x i : Int} (h0 : 0 ≤ x) (h1 : x < 4611686018427387904) (hi : i = 1 ∨ i = 2) (h : ∀ n, n < 4611686018427387904 → t.data.toList ≠ hexK 16 n) : PU t (.returned (.tuple #[.int .u64 x, errE i])) :=
  ⟨x, _, rfl, h0, h1, .inr ⟨⟨i, hi, rfl⟩, h⟩⟩
theorem or32 (c : Nat) (h : 97 ≤ c) (h2 : c ≤ 102) : bits BinOp.or IntKind.u8 (c : Int) 32 = c := by
  have : ∀ c : Fin 103, 97 ≤ c.val → bits BinOp.or IntKind.u8 (c.val : Int) 32 = c.val := by decide
  exact this ⟨c, by omega⟩ h
/-- The letters of another case, and what lies beside them: where the bit 32 leads. -/
theorem or32_back (c : Nat) (h : c < 256) (hn : ¬ (97 ≤ c ∧ c ≤ 102)) (hd : ¬ (48 ≤ c ∧ c ≤ 57)) : c < 48 ∨ (57 < c ∧ c < 97) ∨ 102 < c := by omega

set_option maxHeartbeats 32000000 in
set_option maxRecDepth 100000 in
theorem iParseUint_16 (t : ByteArray) (hmax : t.size ≤ 281474976710656) (w : World) :
    Calls Tryd.prog 84 #[.string t, .int .i64 16, .int .i64 62] w fun e w' => PU t e ∧ Below w.heap.size w w' := by
  by_cases hne : t.size = 0
  · obtain rfl : t = ⟨#[]⟩ := by
      apply ByteArray.ext
      exact Array.eq_empty_of_size_eq_zero hne
    go_enter Tryd.func84, Tryd.ntmps84
    go_wp2
    go_ret2
    exact ⟨pu_bad (by omega) (by omega) (.inr rfl) fun n _ h => by have := congrArg List.length h; rw [hexK_length] at this; exact absurd this (by decide), Below.refl _ _⟩
  have hbw := below_conv w t 5
  have hemp : t.toList.isEmpty = false := by
    rw [← decide_eq_emptyBytes]
    exact decide_eq_false (fun h => hne (by rw [h]; rfl))
  have hcv := Lib.run_convert_string_bytes (P := Tryd.prog) w 9 22 5 t (u := .string) Tryd.underlying9 Tryd.underlying22 Tryd.underlying5
  have hB : ∀ j, j < t.size → (Lib.bytesWorld w 5 t).cell? ⟨w.heap.size, j, none⟩ = some (.int .u8 (t.data.toList.getD j 0).toNat) := fun j hj => Lib.bytesWorld_cell w 5 t j hj
  obtain ⟨W1, hW1⟩ : ∃ W1, W1 = Lib.bytesWorld w 5 t := ⟨_, rfl⟩
  rw [← hW1] at hcv hB hbw
  clear hW1
  obtain ⟨bs, hL⟩ : ∃ bs, bs = t.data.toList := ⟨_, rfl⟩
  have hLn : bs.length = t.size := by rw [hL, Lib.size_eq]
  have HP : Hid (∀ e, PU t e ↔ ∃ (x : Int) (er : Value), e = .returned (.tuple #[.int .u64 x, er]) ∧ 0 ≤ x ∧ x < 4611686018427387904 ∧ ((er = .nilIface ∧ ∀ n, n < 4611686018427387904 → bs = hexK 16 n → x = (n : Int)) ∨ ((∃ i, (i = 1 ∨ i = 2) ∧ er = errE i) ∧ ∀ n, n < 4611686018427387904 → bs ≠ hexK 16 n))) := Lib.hid (fun e => by rw [hL]; exact Iff.rfl)
  rw [← hL] at hB
  clear hL
  have HBW := Lib.hid hbw
  clear hbw
  have hmv : IntKind.u64.wrap (IntKind.u64.wrap 4611686018427387904 - 1) = 4611686018427387903 := by
    rw [IntKind.wrap_u64, IntKind.wrap_u64]
    decide
  go_enter Tryd.func84, Tryd.ntmps84
  go_wp2
  go_loop [12, 13, 101] (fun vu vn vi => ∃ (k : Nat) (a : Int), vu = .bool false ∧ vn = .int .u64 a ∧ vi = .int .i64 k ∧ k ≤ t.size ∧ Hid (0 ≤ a ∧ a < 4611686018427387904 ∧ Upto bs a k))
    (fun _ _ vi => t.size - (intOf vi).toNat)
  case atStart => exact ⟨0, 0, rfl, rfl, rfl, by omega, by omega, by omega, upto_zero bs⟩
  case round =>
    obtain ⟨k, a, rfl, rfl, rfl, hk, hh⟩ := hrel
    obtain ⟨a0, a1, hup⟩ := hh.out
    clear hh
    by_cases hkn : k < t.size
    · have hc := hB k hkn
      have hget : bs.getD k 0 = bs[k]'(by omega) := by simp [List.getD, List.getElem?_eq_getElem (show k < bs.length by omega)]
      rw [hget] at hc
      obtain ⟨c, hcc⟩ : ∃ c, c = bs[k]'(by omega) := ⟨_, rfl⟩
      rw [← hcc] at hc
      have hc256 : c.toNat < 256 := c.toNat_lt
      have HN := Lib.hid (upto_none (c := c) hup (by omega) hcc.symm)
      have HX := Lib.hid (fun d => upto_next (c := c) (d := d) hup (by omega) hcc.symm)
      clear hB hget hup hcc
      by_cases hdig : 48 ≤ c.toNat ∧ c.toNat ≤ 57
      · obtain ⟨hd0, hd1⟩ := hdig
        by_cases hcut : 1152921504606846976 ≤ a
        · have HZ := Lib.hid (HN.out (.inl ⟨hd0, hd1, by omega⟩))
          go_wp2
          go_ret2
          exact ⟨(HP.out _).2 ⟨_, _, rfl, by omega, by omega, .inr ⟨⟨1, .inl rfl, rfl⟩, HZ.out⟩⟩, HBW.out⟩
        · have icut : a < 1152921504606846976 := by omega
          by_cases hov : 4611686018427387904 ≤ a * 16 + ((c.toNat : Int) - 48)
          · have HZ := Lib.hid (HN.out (.inl ⟨hd0, hd1, hov⟩))
            clear hcut
            go_wp2
            go_ret2
            exact ⟨(HP.out _).2 ⟨_, _, rfl, by omega, by omega, .inr ⟨⟨1, .inl rfl, rfl⟩, HZ.out⟩⟩, HBW.out⟩
          · have iov : a * 16 + ((c.toNat : Int) - 48) < 4611686018427387904 := by omega
            have HZ := Lib.hid (HX.out _ (.inl ⟨hd1, rfl⟩))
            clear hcut hov
            go_wp2
            refine ⟨⟨k + 1, a * 16 + ((c.toNat : Int) - 48), rfl, (by first | rfl | (congr 1; omega)), (by first | rfl | (congr 1; omega)), by omega, Lib.hid ⟨by omega, by omega, HZ.out⟩⟩, by simp [intOf]; omega⟩
      · by_cases h95 : c.toNat = 95
        · have HZ := Lib.hid (HN.out (by omega))
          rw [h95] at hc
          have hlow : ∀ w, Calls Tryd.prog 103 #[.int .u8 95] w fun e w' => e = .returned (.int .u8 127) ∧ w = w' := fun w => lower_any 95 w
          go_wp2_with (go_at_call 103; refine (hlow _).mono ?_; rintro e w' ⟨rfl, rfl⟩)
          go_ret2
          exact ⟨(HP.out _).2 ⟨_, _, rfl, by omega, by omega, .inr ⟨⟨2, .inr rfl, rfl⟩, HZ.out⟩⟩, HBW.out⟩
        · obtain ⟨v, hv⟩ : ∃ v, v = bits BinOp.or IntKind.u8 (c.toNat : Int) 32 := ⟨_, rfl⟩
          have hlow := lower_any (c.toNat : Int)
          rw [← hv] at hlow
          have hv0 := bits_lo_u8 .or (c.toNat : Int) 32
          have hv1 := bits_hi_u8 .or (c.toNat : Int) 32
          rw [← hv] at hv0 hv1
          have HV : 97 ≤ c.toNat → c.toNat ≤ 102 → v = c.toNat := fun g1 g2 => hv.trans (or32 _ g1 g2)
          clear hv
          have h95i : ¬ ((c.toNat : Int) = 95) := by omega
          by_cases hlet : 97 ≤ v ∧ v ≤ 102
          · obtain ⟨l0, l1⟩ := hlet
            have HD := Lib.hid (HX.out (v - 87) (by
              by_cases g : 97 ≤ c.toNat ∧ c.toNat ≤ 102
              · exact .inr (.inl ⟨g.1, by rw [HV g.1 g.2]⟩)
              · omega))
            have HE := Lib.hid (show 4611686018427387904 ≤ a * 16 + (v - 87) → ∀ n, n < 4611686018427387904 → bs ≠ hexK 16 n from fun hov => by
              by_cases g : 97 ≤ c.toNat ∧ c.toNat ≤ 102
              · exact HN.out (.inr (.inl ⟨g.1, g.2, by rw [← HV g.1 g.2]; exact hov⟩))
              · exact HN.out (by omega))
            clear HV HN HX
            have l2 : v ≤ 122 := by omega
            have l3 : v - 97 + 10 < 16 := by omega
            by_cases hcut : 1152921504606846976 ≤ a
            · have HZ := Lib.hid (HE.out (by omega))
              go_wp2_with (go_at_call 103; refine (hlow _).mono ?_; rintro e w' ⟨rfl, rfl⟩)
              all_goals go_ret2
              all_goals exact ⟨(HP.out _).2 ⟨_, _, rfl, by omega, by omega, .inr ⟨⟨1, .inl rfl, rfl⟩, HZ.out⟩⟩, HBW.out⟩
            · have icut : a < 1152921504606846976 := by omega
              by_cases hov : 4611686018427387904 ≤ a * 16 + (v - 87)
              · have HZ := Lib.hid (HE.out hov)
                have hov2 : 4611686018427387904 ≤ a * 16 + (v - 97 + 10) := by omega
                clear hcut hov
                go_wp2_with (go_at_call 103; refine (hlow _).mono ?_; rintro e w' ⟨rfl, rfl⟩)
                all_goals go_ret2
                all_goals exact ⟨(HP.out _).2 ⟨_, _, rfl, by omega, by omega, .inr ⟨⟨1, .inl rfl, rfl⟩, HZ.out⟩⟩, HBW.out⟩
              · have iov : a * 16 + (v - 97 + 10) < 4611686018427387904 := by omega
                clear hcut hov
                go_wp2_with (go_at_call 103; refine (hlow _).mono ?_; rintro e w' ⟨rfl, rfl⟩)
                all_goals refine ⟨⟨k + 1, a * 16 + (v - 87), rfl, (by congr 1; omega), (by first | rfl | (congr 1; omega)), by omega, Lib.hid ⟨by omega, by omega, HD.out⟩⟩, by simp [intOf]; omega⟩
          · have hcc : ¬ (97 ≤ c.toNat ∧ c.toNat ≤ 102) := fun g => by have := HV g.1 g.2; omega
            have HZ := Lib.hid (HN.out (by omega))
            clear HV
            by_cases g1 : v < 97
            · go_wp2_with (go_at_call 103; refine (hlow _).mono ?_; rintro e w' ⟨rfl, rfl⟩)
              all_goals go_ret2
              all_goals exact ⟨(HP.out _).2 ⟨_, _, rfl, by omega, by omega, .inr ⟨⟨2, .inr rfl, rfl⟩, HZ.out⟩⟩, HBW.out⟩
            · by_cases g2 : 122 < v
              · go_wp2_with (go_at_call 103; refine (hlow _).mono ?_; rintro e w' ⟨rfl, rfl⟩)
                all_goals go_ret2
                all_goals exact ⟨(HP.out _).2 ⟨_, _, rfl, by omega, by omega, .inr ⟨⟨2, .inr rfl, rfl⟩, HZ.out⟩⟩, HBW.out⟩
              · have g3 : 103 ≤ v := by omega
                have g4 : v ≤ 122 := by omega
                have g5 : 97 ≤ v := by omega
                go_wp2_with (go_at_call 103; refine (hlow _).mono ?_; rintro e w' ⟨rfl, rfl⟩)
                all_goals go_ret2
                all_goals exact ⟨(HP.out _).2 ⟨_, _, rfl, by omega, by omega, .inr ⟨⟨2, .inr rfl, rfl⟩, HZ.out⟩⟩, HBW.out⟩
    · have hkk : k = bs.length := by omega
      have HZ := Lib.hid (fun n hn e => upto_end (n := n) hup hkk hn e)
      clear hup
      go_wp2
      go_ret2
      exact ⟨(HP.out _).2 ⟨_, _, rfl, by omega, by omega, .inl ⟨rfl, HZ.out⟩⟩, HBW.out⟩
end Go.Proofs.YtmiohdibbpckaaaDoor

/- ParseDigest of the program. -/
namespace Go.Proofs.YtmiohdibbpckaaaDoor
open Go.RowKit

theorem parseUint_16 (t : ByteArray) (hmax : t.size ≤ 281474976710656) (w : World) (h : ErrAt w) :
    Calls Tryd.prog 49 #[.string t, .int .i64 16, .int .i64 62] w fun e w' =>
      (∃ (x : Int) (er : Value), e = .returned (.tuple #[.int .u64 x, er]) ∧ 0 ≤ x ∧ x < 4611686018427387904 ∧ ((er = .nilIface ∧ ∀ n, n < 4611686018427387904 → t.data.toList = hexK 16 n → x = (n : Int)) ∨ ((∃ ty v, er = .iface ty v) ∧ ∀ n, n < 4611686018427387904 → t.data.toList ≠ hexK 16 n))) ∧ Below w.heap.size w w' := by
  go_enter Tryd.func49, Tryd.ntmps49
  go_wp2_with fail
  refine (iParseUint_16 t hmax _).mono ?_
  rintro e w1 ⟨⟨x, er, rfl, x0, x1, hr⟩, hb1⟩
  have HB1 := Lib.hid hb1
  clear hb1
  rcases hr with ⟨rfl, hr⟩ | ⟨⟨i, hi, rfl⟩, hr⟩
  · have HR := Lib.hid hr
    clear hr
    go_wp2
    go_ret2
    exact ⟨⟨x, _, rfl, x0, x1, .inl ⟨rfl, HR.out⟩⟩, HB1.out⟩
  · have HR := Lib.hid hr
    clear hr
    go_wp2_with fail
    refine (toError_any _ t 16 62 i hi _ hmax (h.below HB1.out)).mono ?_
    rintro e w2 ⟨⟨ty, v, rfl⟩, hb2⟩
    have HB2 := Lib.hid (bt HB1.out hb2)
    clear hb2
    go_wp2
    go_ret2
    exact ⟨⟨x, _, rfl, x0, x1, .inr ⟨⟨_, _, rfl⟩, HR.out⟩⟩, HB2.out⟩

set_option maxRecDepth 100000 in
theorem parseDigest_any (t : ByteArray) (hmax : t.size ≤ 281474976710656) (w : World) (h : ErrAt w) (hT : TzAt w) :
    Calls Tryd.prog 11 #[.string t] w fun e w' => e = .returned (.tuple #[.int .i64 (pdV t), .bool (pdB t)]) ∧ Below w.heap.size w w' := by
  go_enter Tryd.func11, Tryd.ntmps11
  go_wp2_with fail
  refine (parseUint_16 t hmax _ h).mono ?_
  rintro e w1 ⟨⟨x, er, rfl, x0, x1, hr⟩, hb1⟩
  have HB1 := Lib.hid hb1
  clear hb1
  rcases hr with ⟨rfl, hr⟩ | ⟨⟨ty, v, rfl⟩, hr⟩
  · obtain ⟨n, rfl⟩ : ∃ n : Nat, x = n := ⟨x.toNat, by omega⟩
    have hn : n < 4611686018427387904 := by omega
    by_cases hs : t.data.toList = hexK 16 n
    · have hst := hexS_list hs
      obtain ⟨p1, p2, p3⟩ := pd_yes hn hs
      have P1 := Lib.hid p1
      have P3 := Lib.hid p3
      clear p1 p2 p3 hs hr
      subst hst
      go_wp2_with fail
      refine (textOfDigest_any n hn _ (hT.below HB1.out)).mono ?_
      rintro e w2 ⟨rfl, hb2⟩
      have HB2 := Lib.hid (bt HB1.out hb2)
      clear hb2
      go_wp2
      go_ret2
      exact ⟨by rw [P1.out, P3.out]; rfl, HB2.out⟩
    · have hno : ∀ m, m < 4611686018427387904 → t.data.toList ≠ hexK 16 m := fun m hm e => by
        have := hr m hm e
        obtain rfl : n = m := by omega
        exact hs e
      obtain ⟨p1, p2⟩ := pd_no hno
      have P1 := Lib.hid p1
      have P2 := Lib.hid p2
      have hne : ((hexS 16 n).toList == t.toList) = false := by
        rw [show (hexS 16 n).toList = hexK 16 n from by unfold hexS; simp, Lib.toList_data]
        exact beq_eq_false_iff_ne.2 (fun e => hs e.symm)
      clear hs hr p1 p2 hno
      have hc := textOfDigest_any n hn _ (hT.below HB1.out)
      generalize hexS 16 n = q at hc hne
      go_wp2_with fail
      refine hc.mono ?_
      rintro e w2 ⟨rfl, hb2⟩
      have HB2 := Lib.hid (bt HB1.out hb2)
      clear hb2
      go_wp2
      go_ret2
      exact ⟨by rw [P1.out, P2.out]; rfl, HB2.out⟩
  · obtain ⟨p1, p2⟩ := pd_no hr
    have P1 := Lib.hid p1
    have P2 := Lib.hid p2
    clear hr p1 p2
    go_wp2
    go_ret2
    exact ⟨by rw [P1.out, P2.out]; rfl, HB1.out⟩
end Go.Proofs.YtmiohdibbpckaaaDoor

/- ParseDigest of the reference; the law FnExactParseDigest. -/
namespace Go.Proofs.YtmiohdibbpckaaaDoor
open Go.RowKit

/-- What the reference's loop has read. -/
def Red (bs : List UInt8) (m k : Nat) : Prop := hexK k m = bs.take k ∧ (k = 0 → m = 0) ∧ (0 < k → m < 4 * 16 ^ (k - 1))
theorem red_zero (bs : List UInt8) : Red bs 0 0 := ⟨rfl, fun _ => rfl, fun h => absurd h (by omega)⟩
theorem red_small {bs : List UInt8} {m k : Nat} (h : Red bs m k) (hk : k ≤ 15) : m < 288230376151711744 := by
  by_cases h0 : k = 0
  · rw [h.2.1 h0]; decide
  · have := h.2.2 (by omega)
    have h2 : 16 ^ (k - 1) ≤ 16 ^ 14 := Nat.pow_le_pow_right (by decide) (by omega)
    have h3 : (16 : Nat) ^ 14 = 72057594037927936 := by decide
    omega
theorem red_next {bs : List UInt8} {m k d : Nat} {c : UInt8} (h : Red bs m k) (hk : k < bs.length) (hc : bs[k] = c) (hd : d < 16) (hx' : c = hx d) (h0 : k = 0 → d ≤ 3) : Red bs (16 * m + d) (k + 1) := by
  refine ⟨?_, fun e => absurd e (by omega), fun _ => ?_⟩
  · rw [hexK_snoc _ _ _ hd, h.1, List.take_succ_eq_append_getElem hk, hc, hx']
  · show 16 * m + d < 4 * 16 ^ k
    by_cases hk0 : k = 0
    · subst hk0
      rw [h.2.1 rfl]
      have := h0 rfl
      omega
    · obtain ⟨j, rfl⟩ : ∃ j, k = j + 1 := ⟨k - 1, by omega⟩
      have := h.2.2 (by omega)
      rw [Nat.pow_succ]
      have e : j + 1 - 1 = j := rfl
      rw [e] at this
      generalize 16 ^ j = q at *
      omega
theorem red_end {bs : List UInt8} {m : Nat} (h : Red bs m 16) (hl : bs.length = 16) : m < 4611686018427387904 ∧ bs = hexK 16 m := by
  refine ⟨?_, ?_⟩
  · have := h.2.2 (by omega)
    have h3 : (16 : Nat) ^ (16 - 1) = 1152921504606846976 := by decide
    omega
  · rw [h.1, List.take_of_length_le (by omega)]
theorem red_none {bs : List UInt8} {k : Nat} {c : UInt8} (hk : k < bs.length) (hc : bs[k] = c)
    (hb : ¬ (48 ≤ c.toNat ∧ c.toNat ≤ 57 ∨ 97 ≤ c.toNat ∧ c.toNat ≤ 102) ∨ (k = 0 ∧ (51 < c.toNat))) : ∀ n, n < 4611686018427387904 → bs ≠ hexK 16 n := fun n hn e => by
  subst e
  rw [hexK_get] at hc
  rcases hb with hb | ⟨rfl, hb⟩
  · rcases hx_cases (Nat.mod_lt (n / 16 ^ (16 - 1 - k)) (by decide : 0 < 16)) with ⟨g1, g2, _⟩ | ⟨g1, g2, _⟩ <;> rw [hc] at g1 g2 <;> omega
  · have h3 : n / 16 ^ (16 - 1 - 0) % 16 < 4 := by
      have h4 : n / 16 ^ (16 - 1 - 0) < 4 := by
        apply Nat.div_lt_of_lt_mul
        have : (16 : Nat) ^ (16 - 1 - 0) = 1152921504606846976 := by decide
        omega
      omega
    rcases hx_cases (Nat.mod_lt (n / 16 ^ (16 - 1 - 0)) (by decide : 0 < 16)) with ⟨g1, g2, g3⟩ | ⟨g1, g2, g3⟩ <;> rw [hc] at g1 g2 g3 <;> omega
theorem hx_of {c : UInt8} (h : 48 ≤ c.toNat ∧ c.toNat ≤ 57) : c = hx (c.toNat - 48) := by
  apply UInt8.toNat.inj
  rw [hx_nat (by omega)]
  unfold dig
  rw [if_pos (by omega)]; omega
theorem hx_of2 {c : UInt8} (h : 97 ≤ c.toNat ∧ c.toNat ≤ 102) : c = hx (c.toNat - 87) := by
  apply UInt8.toNat.inj
  rw [hx_nat (by omega)]
  unfold dig
  rw [if_neg (by omega)]; omega

/-! ### The law -/
end Go.Proofs.YtmiohdibbpckaaaDoor

/- From the listed sentinels to their variables' cells. -/
namespace Go.Proofs.YtmiohdibbpckaaaDoor
open Go.RowKit

theorem errVar_of_reads {W : World} {n : String} {d : DataW Unit} {nm : String} {g : Nat} (hg0 : Tryd.prog.globalNamed n = some g) (ht0 : (Tryd.prog.globals[g]?).map (·.type) = some 75)
    (h : Lib.VarReads Tryd.prog W n (.iface nm d)) : ∃ te pe, W.cell? ⟨g, 0, none⟩ = some (.iface te pe) := by
  obtain ⟨g', t, cs, fuel, p, hg, ht, hv, hd⟩ := h
  obtain rfl := Option.some.inj (hg0.symm.trans hg)
  obtain rfl := Option.some.inj (ht0.symm.trans ht)
  obtain ⟨f1, u, v, hcs, _, _⟩ := iface_of_trod Tryd.underlying75 hd
  have hc := World.var?_cell hg hv 0
  obtain ⟨cs⟩ := cs
  subst hcs
  exact ⟨u, v, by rw [hc]; rfl⟩
theorem g_syntax : Tryd.prog.globalNamed "strconv.ErrSyntax" = some 0 := by kernel_rfl
theorem t_syntax : (Tryd.prog.globals[0]?).map (·.type) = some 75 := by kernel_rfl
theorem g_range : Tryd.prog.globalNamed "strconv.ErrRange" = some 1 := by kernel_rfl
theorem t_range : (Tryd.prog.globals[1]?).map (·.type) = some 75 := by kernel_rfl
theorem errAt_of_laid {l : List (String × DataW Unit)} {W : World} (h : laidMet Tryd.prog l W) (h1 : ("strconv.ErrSyntax", (Rows.laid_strconv_ErrSyntax : DataW Unit)) ∈ l) (h2 : ("strconv.ErrRange", (Rows.laid_strconv_ErrRange : DataW Unit)) ∈ l) : ErrAt W :=
  ⟨errVar_of_reads g_syntax t_syntax (Lib.laidMet.reads h h1), errVar_of_reads g_range t_range (Lib.laidMet.reads h h2)⟩
end Go.Proofs.YtmiohdibbpckaaaDoor

