/- What all later texts use: blocks that are added, lists that are answered, a slice that is appended, digests. -/
import Derived.Test.YtdnofcpobpoehaaHsh
import Derived.Laws.ResultCell
import Derived.Laws.AppendOwn
import Derived.Laws.AppendOwnNone
import Derived.Maps.AppendAt
import Derived.Lib.ConvBytes
import Derived.Deep.RegionHeld3
import Derived.Deep.RegionLaw
namespace Go.Proofs.Ytdnofcpobpoehaa
open Go.RowKit

/-- Blocks that are added, one after the other. -/
theorem bt {w a b : World} (h : Below w.heap.size w a) (k : Below a.heap.size a b) : Below w.heap.size w b := h.trans (k.mono h.size)
theorem ba (w : World) (o : Obj) : Below w.heap.size w (w.alloc o) := (Below.refl _ _).alloc (Nat.le_refl _) o

/-- A result of a struct's type lies in a variable of its own. -/
theorem results_cell_one {fn : Func} {p : Tmp} {ty : TypeId} (h : fn.results = #[.cell p ty]) (tmps : Array Value) (P : Program) (w : World) :
    (results fn tmps).run P w = ((asAddr (tmps.getD p undef)).run P w).andThen fun a w₁ => (loadVar ty a).run P w₁ := by
  simp only [results, h]
  simp [Sem.run_bind, Result.andThen]

/-- A call returns a slice of integers of its own, and a bool. -/
def ListOut (w : World) (res : List Int) (ok : Bool) (e : Ending) (w' : World) : Prop :=
  ∃ ad n cap, e = .returned (.tuple #[.slice ad n cap, .bool ok]) ∧ w'.ownsRow w.heap.size 3 1 (.slice ad n cap) n (res.map (Value.int .i64)) ∧ Below w.heap.size w w'

theorem listOut_nil (w w' : World) (h : Below w.heap.size w w') : ListOut w [] false (.returned (.tuple #[.slice none 0 0, .bool false])) w' :=
  ⟨none, 0, 0, rfl, World.ownsRow_nil _ _ _ _, h⟩

theorem ints_of_own_any {w : World} {base n cap : Nat} {ad : Option Addr} {zs : List Int} {e : TypeId} (h : w.ownsRow base e 1 (.slice ad n cap) n (zs.map (Value.int .i64))) :
    IsInts w ad zs ∧ zs.length = n ∧ ∀ a, ad = some a → base ≤ a.block ∧ a.block < w.heap.size := by
  have hn : zs.length = n := by have := h.1; simpa using this
  rcases h.2 with ⟨h1, h2⟩ | ⟨g, cap', cur, h1, _⟩
  · simp only [Value.slice.injEq] at h1
    obtain ⟨rfl, _, _⟩ := h1
    subst h2
    exact ⟨.inl (List.length_eq_zero_iff.1 hn), hn, by simp⟩
  · simp only [Value.slice.injEq] at h1
    obtain ⟨rfl, _, _⟩ := h1
    obtain ⟨k1, k2, k3, k4⟩ := ints_of_own h
    exact ⟨k1, k2, by rintro a ⟨⟩; exact ⟨k3, k4⟩⟩

theorem own_shape {w : World} {base : Nat} {e : TypeId} {size : Nat} {v : Value} {n : Nat} {xs : List Value} (h : w.ownsRow base e size v n xs) : ∃ va vc, v = .slice va n vc := by
  rcases h.2 with ⟨rfl, rfl⟩ | ⟨g, cap, cur, rfl, _⟩
  · exact ⟨_, _, rfl⟩
  · exact ⟨_, _, rfl⟩

/-- Bytes that are known: cells of kind u8. -/
def IsBys (w : World) (ad : Option Addr) (zs : List Int) : Prop :=
  zs = [] ∨ ∃ b off, ad = some ⟨b, off, none⟩ ∧ b < w.heap.size ∧ ∀ i, i < zs.length → w.cell? ⟨b, off + i, none⟩ = some (.int .u8 (zs.getD i 0))
theorem IsBys.at {w : World} {ad : Option Addr} {zs : List Int} (h : IsBys w ad zs) {k : Nat} (hk : k < zs.length) :
    ∃ b off z, ad = some ⟨b, off, none⟩ ∧ b < w.heap.size ∧ w.cell? ⟨b, off + k, none⟩ = some (.int .u8 z) ∧ zs.drop k = z :: zs.drop (k + 1) := by
  rcases h with rfl | ⟨b, off, rfl, hb, hc⟩
  · simp at hk
  · refine ⟨b, off, zs.getD k 0, rfl, hb, hc k hk, ?_⟩
    rw [List.drop_eq_getElem_cons hk]; simp [hk]
theorem IsBys.below {w w' : World} {ad : Option Addr} {zs : List Int} (h : IsBys w ad zs) {B : Nat} (hb : Below B w w') (hB : w.heap.size ≤ B) : IsBys w' ad zs := by
  rcases h with rfl | ⟨b, off, rfl, hl, hc⟩
  · exact .inl rfl
  · refine .inr ⟨b, off, rfl, by have := hb.size; omega, fun i hi => ?_⟩
    rw [hb.cell (p := ⟨b, off + i, none⟩) (by show b < B; omega)]
    exact hc i hi

theorem ints_spot (w : World) (b : Nat) (hb : w.heap.size = b) (zs : List Int) (t : TypeId) : IsInts (w.alloc (.cells (zs.map (Value.int .i64)).toArray t)) (some ⟨b, 0, none⟩) zs := by
  subst hb
  refine .inr ⟨w.heap.size, 0, rfl, by simp, fun i hi => ?_⟩
  rw [World.cell?_alloc_at _ _ _ _ rfl]
  simp [hi]

theorem isDigest_any (d : Int) (w : World) :
    Calls Try.prog 99 #[.int .i64 d] w fun e w' => e = .returned (.bool (digB d)) ∧ w = w' := by
  by_cases h1 : 0 ≤ d
  · by_cases h2 : d ≤ 4611686018427387903
    · have hm : digB d = true := digB_true.2 ⟨h1, h2⟩
      rw [hm]; clear hm
      go_enter Try.func99, Try.ntmps99
      go_wp2
      go_ret
      exact ⟨rfl, rfl⟩
    · have hm : digB d = false := by rw [← Bool.not_eq_true, digB_true]; omega
      rw [hm]; clear hm
      go_enter Try.func99, Try.ntmps99
      go_wp2
      go_ret
      exact ⟨rfl, rfl⟩
  · have hm : digB d = false := by rw [← Bool.not_eq_true, digB_true]; omega
    rw [hm]; clear hm
    go_enter Try.func99, Try.ntmps99
    go_wp2
    go_ret
    exact ⟨rfl, rfl⟩

set_option maxHeartbeats 800000 in
theorem areDigests_any (ad : Option Addr) (n cap : Nat) (zs : List Int) (hn : zs.length = n) (hl : n ≤ 1152921504606846976) (w : World) (hz : IsInts w ad zs) :
    Calls Try.prog 140 #[.slice ad n cap] w fun e w' => e = .returned (.bool (digsB zs)) ∧ w = w' := by
  unfold digsB
  go_enter Try.func140, Try.ntmps140
  go_wp2
  go_loop [4, 7] (fun _ K => ∃ k : Nat, k ≤ n ∧ K = .int .i64 k ∧ zs.all digB = (zs.drop k).all digB) (fun _ K => n - (intOf K).toNat)
  case atStart => exact ⟨0, Nat.zero_le _, rfl, rfl⟩
  case round =>
    obtain ⟨k, hk, rfl, he⟩ := hrel
    by_cases hkn : k < n
    · obtain ⟨b, off, z, rfl, hb, hc, hd⟩ := hz.at (k := k) (by omega)
      have HS := Lib.hid (all_step hd he)
      clear he hd
      cases hi' : digB z
      · have HI := Lib.hid hi'
        clear hi'
        go_wp2_with (go_at_call 99; refine (isDigest_any _ _).mono ?_; rintro e w' ⟨rfl, rfl⟩; rw [HI.out])
        go_ret
        exact ⟨by rw [HS.out.2 HI.out]; rfl, rfl⟩
      · have HI := Lib.hid hi'
        clear hi'
        go_wp2_with (go_at_call 99; refine (isDigest_any _ _).mono ?_; rintro e w' ⟨rfl, rfl⟩; rw [HI.out])
        go_round
        case rel => exact ⟨k + 1, by omega, by go_num, HS.out.1 HI.out⟩
        case measure => simp only [intOf]; omega
    · have HE := Lib.hid he
      clear he
      go_wp2
      go_ret
      refine ⟨?_, rfl⟩
      rw [HE.out, List.drop_of_length_le (by omega)]; rfl

theorem below_own {w a b : World} (h : Below w.heap.size w a) (hg : a.grownBy b (some w.heap.size)) : Below w.heap.size w b :=
  h.grown hg h.size (fun k hk => by cases hk; exact Nat.le_refl _)
theorem grown_of_below {w w' : World} (h : Below w.heap.size w w') (r : Option Nat) : w.grownBy w' r := ⟨h.os, h.tape, h.output, h.size, fun k hk _ => h.block k hk⟩
theorem grown_cell (w : World) (a : Addr) (v : Value) : w.grownBy (w.setCell a v) (some a.block) :=
  ⟨rfl, rfl, rfl, by simp, fun k _ hk => heap_setCell_other w a k v (fun e => hk (by rw [e]))⟩

/-- A slice of integers is appended to a row of the call's own; the slice may be nil. -/
theorem wpList_append_ints {P : Program} {w : World} {ops : Array Oper} {rest : List Oper} {o : Oper} {a : Act} {Q : Exit → Act → World → Prop} (hgd : o.guard = none) (s x : Operand) (t : TypeId)
    (ho : o.op = .call { callee := .builtin .append, args := #[s, x], argTypes := #[t, t] })
    (base : Nat) (e : TypeId) (i : TypeInfo) (ht : P.underlying t = some (.slice e)) (hi : P.info? e = some i) (hz : i.zero = some (.int .i64 0))
    (hsize : i.size = 1) (hby : i.bytes = 8)
    (v : Value) (n : Nat) (xs : List Int) (hs : a.eval s = v) (hown : w.ownsRow base e 1 v n (xs.map (Value.int .i64)))
    (ad : Option Addr) (m c : Nat) (zs : List Int) (hx : a.eval x = .slice ad m c) (hm : zs.length = m) (hsrc : IsInts w ad zs) (hnil : ad = none → c = 0)
    (h63 : n + m ≤ 1000000000000) (hbase : base ≤ w.heap.size)
    (h : ∀ v' w', w'.ownsRow base e 1 v' (n + m) ((xs ++ zs).map (Value.int .i64)) → w.grownBy w' v.ownBlock → wpList P ops Q rest (a.put o.dst v') w') : wpList P ops Q (o :: rest) a w := by
  cases ad with
  | none =>
    obtain rfl := hnil rfl
    have hz0 : zs = [] := by
      rcases hsrc with h0 | ⟨b, off, h1, _⟩
      · exact h0
      · cases h1
    subst hz0
    simp at hm
    subst hm
    refine wpList_append_own_none hgd s x t ho base e i 1 ht hi v n (xs.map (Value.int .i64)) hs hown hx ?_
    refine h v w ?_ (World.grownBy.refl _ _)
    simpa using hown
  | some ad =>
    refine wpList_append_own w hgd s x t ho base e i (.int .i64 0) 1 8 ht hi hz hsize hby rfl (by decide) v n (xs.map (Value.int .i64)) hs hown ad m c (zs.map (Value.int .i64)) hx (by simp [hm]) ?_ (ints_oneCell .i64 zs) (by unfold maxLen; omega) (by omega) hbase ?_
    · intro j u hj
      rcases hsrc with rfl | ⟨b, off, h1, _, hc⟩
      · simp at hj
      · obtain rfl := Option.some.inj h1
        have hjl : j < zs.length := by
          have := (List.getElem?_eq_some_iff.1 hj).1
          simpa using this
        have e1 : (⟨b, off, none⟩ : Addr).add j = ⟨b, off + j, none⟩ := by
          unfold Addr.add; split
          · subst_vars; rfl
          · rfl
        rw [e1, hc j hjl]
        simp [hjl] at hj ⊢
        exact hj
    · intro v' w' h1 h2 _
      refine h v' w' ?_ h2
      rw [List.map_append]
      exact h1

/-- A row of the call's own reads as its numbers. -/
theorem own_ints {w : World} {base n cap : Nat} {ad : Option Addr} {zs : List Int} {e : TypeId} (h : w.ownsRow base e 1 (.slice ad n cap) n (zs.map (Value.int .i64))) :
    IsInts w ad zs ∧ zs.length = n ∧ (ad = none → cap = 0) := by
  have hn : zs.length = n := by have := h.1; simpa using this
  rcases h.2 with ⟨h1, _⟩ | ⟨g, cap', cur, h1, _⟩
  · simp only [Value.slice.injEq] at h1
    obtain ⟨rfl, rfl, rfl⟩ := h1
    exact ⟨.inl (List.length_eq_zero_iff.1 hn), hn, fun _ => rfl⟩
  · simp only [Value.slice.injEq] at h1
    obtain ⟨rfl, _, rfl⟩ := h1
    exact ⟨(ints_of_own h).1, hn, fun h => by cases h⟩

/-- A literal in a block of its own is a row. -/
theorem own_lit (w : World) (zs : List Int) (hl : zs.length ≤ 1000000) (t : TypeId) : (w.alloc (.cells (zs.map (Value.int .i64)).toArray t)).ownsRow w.heap.size t 1 (.slice (some ⟨w.heap.size, 0, none⟩) zs.length zs.length) zs.length (zs.map (Value.int .i64)) := by
  refine ⟨by simp, .inr ⟨w.heap.size, zs.length, (zs.map (Value.int .i64)).toArray, rfl, Nat.le_refl _, ?_, Nat.le_refl _, by unfold maxLen; omega, by simp, by rw [List.take_of_length_le (by simp)]⟩⟩
  show (w.heap.push _)[w.heap.size]? = _
  simp

theorem bys_conv (w : World) (b : Nat) (hb : w.heap.size = b) (s : ByteArray) (t : TypeId) : IsBys (Lib.bytesWorld w t s) (some ⟨b, 0, none⟩) (lbl s) := by
  subst hb
  refine .inr ⟨w.heap.size, 0, rfl, by rw [Lib.bytesWorld_size]; omega, fun i hi => ?_⟩
  rw [lbl_length] at hi
  rw [Nat.zero_add, Lib.bytesWorld_cell w t s i hi]
  unfold lbl
  simp [hi]
theorem below_conv (w : World) (s : ByteArray) (t : TypeId) : Below w.heap.size w (Lib.bytesWorld w t s) :=
  ⟨rfl, rfl, rfl, by rw [Lib.bytesWorld_size]; omega, fun k hk => Lib.bytesWorld_at_old w t s k hk⟩

/-- A list in a row of the call's own. -/
def OwnOut (w : World) (zs : List Int) (e : Ending) (w' : World) : Prop :=
  ∃ (va : Option Addr) (vc : Nat), e = .returned (.slice va zs.length vc) ∧ w'.ownsRow w.heap.size 3 1 (.slice va zs.length vc) zs.length (zs.map (Value.int .i64)) ∧ Below w.heap.size w w'

/-- A slice of integers is appended to a row of the call's own, within a region whose order is open; the slice may be nil. -/
theorem step_append_ints {P : Program} {w : World} {ops : Array Oper} {o : Oper} {a : Act} {K : Act → World → Prop} {Q : Exit → Act → World → Prop} {E : Prop} (hgd : o.guard = none) (s x : Operand) (t : TypeId)
    (ho : o.op = .call { callee := .builtin .append, args := #[s, x], argTypes := #[t, t] })
    (base : Nat) (e : TypeId) (i : TypeInfo) (ht : P.underlying t = some (.slice e)) (hi : P.info? e = some i) (hz : i.zero = some (.int .i64 0))
    (hsize : i.size = 1) (hby : i.bytes = 8)
    (v : Value) (n : Nat) (xs : List Int) (hs : a.eval s = v) (hown : w.ownsRow base e 1 v n (xs.map (Value.int .i64)))
    (ad : Option Addr) (m c : Nat) (zs : List Int) (hx : a.eval x = .slice ad m c) (hm : zs.length = m) (hsrc : IsInts w ad zs) (hnil : ad = none → c = 0)
    (h63 : n + m ≤ 1000000000000) (hbase : base ≤ w.heap.size)
    (h : ∀ v' w', w'.ownsRow base e 1 v' (n + m) ((xs ++ zs).map (Value.int .i64)) → w.grownBy w' v.ownBlock → K (a.put o.dst v') w') :
    if Region.wanted o (yielded ops a.tmps) = true then Oper.wp P o a w K Q else E := by
  have hw : Region.wanted o (yielded ops a.tmps) = true := by simp [Region.wanted, hgd]
  rw [if_pos hw]
  cases ad with
  | none =>
    obtain rfl := hnil rfl
    have hz0 : zs = [] := by
      rcases hsrc with h0 | ⟨b, off, h1, _⟩
      · exact h0
      · cases h1
    subst hz0
    simp at hm
    subst hm
    have hrun := run_append_owned_none (P := P) (w := w) base t o.type e i 1 ht hi v n (xs.map (Value.int .i64)) hown
    unfold Oper.wp
    simp [execOp, ho, resolve, invoke, builtin, hs, hx, hrun, Result.andThen]
    exact h v w (by simpa using hown) (World.grownBy.refl _ _)
  | some ad =>
    refine wp_append_own w s x t ho base e i (.int .i64 0) 1 8 ht hi hz hsize hby rfl (by decide) v n (xs.map (Value.int .i64)) hs hown ad m c (zs.map (Value.int .i64)) hx (by simp [hm]) ?_ (ints_oneCell .i64 zs) (by unfold maxLen; omega) (by omega) hbase ?_
    · intro j u hj
      rcases hsrc with rfl | ⟨b, off, h1, _, hc⟩
      · simp at hj
      · obtain rfl := Option.some.inj h1
        have hjl : j < zs.length := by
          have := (List.getElem?_eq_some_iff.1 hj).1
          simpa using this
        have e1 : (⟨b, off, none⟩ : Addr).add j = ⟨b, off + j, none⟩ := by
          unfold Addr.add; split
          · subst_vars; rfl
          · rfl
        rw [e1, hc j hjl]
        simp [hjl] at hj ⊢
        exact hj
    · intro v' w' h1 h2 _
      refine h v' w' ?_ h2
      rw [List.map_append]
      exact h1

/-- The k-th pair of a flat list. -/
theorem IsInts.pair {w : World} {ad : Option Addr} {zs : List Int} (h : IsInts w ad zs) {k n : Nat} (hk : k < n) (hn : zs.length = n * 2) :
    ∃ b off p q, ad = some ⟨b, off, none⟩ ∧ b < w.heap.size ∧ w.cell? ⟨b, off + k * 2, none⟩ = some (.int .i64 p) ∧ w.cell? ⟨b, off + k * 2 + 1, none⟩ = some (.int .i64 q) ∧ zs.drop (k * 2) = p :: q :: zs.drop ((k + 1) * 2) := by
  obtain ⟨b, off, p, rfl, hb, hp, hd⟩ := h.at (k := k * 2) (by omega)
  obtain ⟨b', off', q, hq', _, hq, hd'⟩ := h.at (k := k * 2 + 1) (by omega)
  simp only [Option.some.injEq, Addr.mk.injEq, and_true] at hq'
  obtain ⟨rfl, rfl⟩ := hq'
  exact ⟨b, off, p, q, rfl, hb, hp, hq, by rw [hd, hd', show k * 2 + 1 + 1 = (k + 1) * 2 by omega]⟩

theorem ints_of_own2 {w : World} {base n cap : Nat} {ad : Option Addr} {zs : List Int} {e : TypeId} (h : w.ownsRow base e 2 (.slice ad n cap) n (zs.map (Value.int .i64))) :
    IsInts w ad zs ∧ zs.length = n * 2 ∧ ∀ a, ad = some a → base ≤ a.block ∧ a.block < w.heap.size := by
  have hn : zs.length = n * 2 := by have := h.1; simpa using this
  rcases h.2 with ⟨h1, h2⟩ | ⟨g, cap', cur, h1, _⟩
  · simp only [Value.slice.injEq] at h1
    obtain ⟨rfl, _, _⟩ := h1
    subst h2
    exact ⟨.inl (List.length_eq_zero_iff.1 hn), hn, by simp⟩
  · simp only [Value.slice.injEq] at h1
    obtain ⟨rfl, _, _⟩ := h1
    have hl := World.ownsRow.lt h g rfl
    refine ⟨.inr ⟨g, 0, rfl, hl.2, fun i hi => ?_⟩, hn, by rintro a ⟨⟩; exact hl⟩
    rw [World.ownsRow.cellAt h (0 + i) (by omega)]
    simp [hi]

theorem keep2 {w : World} {b off : Nat} {v : Value} (hb : b < w.heap.size) (h : w.cell? ⟨b, off, none⟩ = some v) (o1 o2 : Array Value) (t : TypeId) :
    ((w.alloc (.cells o1 t)).alloc (.cells o2 t)).drew.cell? ⟨b, off, none⟩ = some v := by
  have hB := ((((Below.refl w.heap.size w).alloc (Nat.le_refl _) (.cells o1 t)).alloc (by simp) (.cells o2 t)).drew).cell (p := ⟨b, off, none⟩) hb
  rw [hB, h]

end Go.Proofs.Ytdnofcpobpoehaa

