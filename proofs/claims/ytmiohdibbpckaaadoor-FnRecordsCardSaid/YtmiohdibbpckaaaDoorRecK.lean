/- ParseList of the program. -/
import Derived.Test.YtmiohdibbpckaaaDoorRecA
import Derived.Laws.RangeAny
import Derived.Laws.Concat
import Derived.Lib.OthersKept
namespace Go.Proofs.YtmiohdibbpckaaaDoor
open Go.RowKit

/-! ### The plain facts -/
/-- A number (-1: none yet) with one more digit. -/
def dgN (n c : Int) : Option Int :=
  if c < 48 then none else if 57 < c then none else if n = 0 then none else if n = -1 then some (c - 48) else if (4611686018427387903 - (c - 48)) / 10 < n then none else some (10 * n + (c - 48))
/-- One byte: a comma ends a number. -/
def plS (c : Int) (acc : List Int) (n : Int) : Option (List Int × Int) :=
  if c = 44 then (if n = -1 then none else if acc.length = 400 then none else some (acc ++ [n], -1)) else (dgN n c).map fun m => (acc, m)
def plN (l : List UInt8) (acc : List Int) (n : Int) : Option (List Int) := (l.foldlM (fun (p : List Int × Int) c => plS c.toNat p.1 p.2) (acc, n)).map Prod.fst
def plO (s : ByteArray) : Option (List Int) := if s = ⟨#[45]⟩ then some [] else plN (s.data.toList ++ [44]) [] (-1)
def plB (s : ByteArray) : Bool := (plO s).isSome
def plL (s : ByteArray) : List Int := (plO s).getD []
theorem dgN_range {n c m : Int} (hn : -1 ≤ n) (h : dgN n c = some m) : 0 ≤ m ∧ m ≤ 4611686018427387903 ∧ 48 ≤ c ∧ c ≤ 57 ∧ n ≠ 0 := by
  unfold dgN at h
  split at h
  · cases h
  split at h
  · cases h
  split at h
  · cases h
  split at h
  · cases h; omega
  split at h
  · cases h
  · cases h; omega
theorem plN_nil (acc : List Int) (n : Int) : plN [] acc n = some acc := rfl
theorem plN_cons (c : UInt8) (t : List UInt8) (acc : List Int) (n : Int) : plN (c :: t) acc n = (plS c.toNat acc n).bind fun p => plN t p.1 p.2 := by
  unfold plN
  rw [List.foldlM_cons]
  cases plS c.toNat acc n <;> rfl
theorem plS_comma {acc : List Int} {n : Int} (h1 : n ≠ -1) (h2 : acc.length ≠ 400) : plS 44 acc n = some (acc ++ [n], -1) := by
  unfold plS; rw [if_pos rfl, if_neg h1, if_neg h2]
theorem plS_stop {acc : List Int} {n : Int} (h : n = -1 ∨ acc.length = 400) : plS 44 acc n = none := by
  unfold plS; rw [if_pos rfl]
  rcases h with h | h
  · rw [if_pos h]
  · rw [if_pos h, ite_self]
theorem plS_digit {c : Int} {acc : List Int} {n : Int} (hc : c ≠ 44) : plS c acc n = (dgN n c).map fun m => (acc, m) := by
  unfold plS; rw [if_neg hc]

/-! ### withDigit -/
set_option maxRecDepth 100000 in
theorem withDigit_none {n c : Int} (hn0 : -1 ≤ n) (hn1 : n ≤ 4611686018427387903) (hc0 : 0 ≤ c) (hc1 : c ≤ 2147483647) (h : dgN n c = none) (w : World) :
    Calls Tryd.prog 69 #[.int .i64 n, .int .i32 c] w fun e w' => e = .returned (.tuple #[.int .i64 0, .bool false]) ∧ w = w' := by
  by_cases h1 : c < 48
  · clear h
    go_enter Tryd.func69, Tryd.ntmps69
    go_wp2
    go_ret2
    exact ⟨rfl, rfl⟩
  by_cases h2 : 57 < c
  · clear h
    go_enter Tryd.func69, Tryd.ntmps69
    go_wp2
    go_ret2
    exact ⟨rfl, rfl⟩
  by_cases h3 : n = 0
  · subst h3
    clear h
    go_enter Tryd.func69, Tryd.ntmps69
    go_wp2
    go_ret2
    exact ⟨rfl, rfl⟩
  have hx : n ≠ -1 ∧ (4611686018427387903 - (c - 48)) / 10 < n := by
    unfold dgN at h
    rw [if_neg h1, if_neg h2, if_neg h3] at h
    split at h
    · cases h
    · rename_i h4
      split at h
      · rename_i h5; exact ⟨h4, h5⟩
      · cases h
  obtain ⟨h4, h5⟩ := hx
  have e3 : (n == 0) = false := by simp [h3]
  have e4 : (n == -1) = false := by simp [h4]
  have e5 : IntKind.i32.wrap (c - 48) = c - 48 := by rw [IntKind.wrap_i32]; omega
  have e6 : IntKind.i64.wrap (c - 48) = c - 48 := by rw [IntKind.wrap_i64]; omega
  have e7 : IntKind.i64.wrap (4611686018427387903 - (c - 48)) = 4611686018427387903 - (c - 48) := by rw [IntKind.wrap_i64]; omega
  have e8 : (4611686018427387903 - (c - 48)).tdiv 10 = (4611686018427387903 - (c - 48)) / 10 := Int.tdiv_eq_ediv_of_nonneg (by omega)
  clear h h3 h4
  go_enter Tryd.func69, Tryd.ntmps69
  go_wp2
  go_ret2
  exact ⟨rfl, rfl⟩

set_option maxRecDepth 100000 in
theorem withDigit_some {n c m : Int} (hn0 : -1 ≤ n) (hn1 : n ≤ 4611686018427387903) (hc0 : 0 ≤ c) (hc1 : c ≤ 2147483647) (h : dgN n c = some m) (w : World) :
    Calls Tryd.prog 69 #[.int .i64 n, .int .i32 c] w fun e w' => e = .returned (.tuple #[.int .i64 m, .bool true]) ∧ w = w' := by
  obtain ⟨_, _, h1, h2, h3⟩ := dgN_range hn0 h
  have e3 : (n == 0) = false := by simp [h3]
  have e5 : IntKind.i32.wrap (c - 48) = c - 48 := by rw [IntKind.wrap_i32]; omega
  have e6 : IntKind.i64.wrap (c - 48) = c - 48 := by rw [IntKind.wrap_i64]; omega
  by_cases h4 : n = -1
  · subst h4
    obtain rfl : c - 48 = m := by
      unfold dgN at h
      rw [if_neg (by omega), if_neg (by omega), if_neg (by omega), if_pos rfl] at h
      exact Option.some.inj h
    clear h h3 e3
    go_enter Tryd.func69, Tryd.ntmps69
    go_wp2
    go_ret2
    exact ⟨rfl, rfl⟩
  · obtain ⟨h5, rfl⟩ : ¬ (4611686018427387903 - (c - 48)) / 10 < n ∧ 10 * n + (c - 48) = m := by
      unfold dgN at h
      rw [if_neg (by omega), if_neg (by omega), if_neg h3, if_neg h4] at h
      split at h
      · cases h
      · rename_i h5; exact ⟨h5, Option.some.inj h⟩
    have e4 : (n == -1) = false := by simp [h4]
    have e7 : IntKind.i64.wrap (4611686018427387903 - (c - 48)) = 4611686018427387903 - (c - 48) := by rw [IntKind.wrap_i64]; omega
    have e8 : (4611686018427387903 - (c - 48)).tdiv 10 = (4611686018427387903 - (c - 48)) / 10 := Int.tdiv_eq_ediv_of_nonneg (by omega)
    have e9 : IntKind.i64.wrap (10 * n) = 10 * n := by rw [IntKind.wrap_i64]; omega
    have e10 : IntKind.i64.wrap (10 * n + (c - 48)) = 10 * n + (c - 48) := by rw [IntKind.wrap_i64]; omega
    clear h h3 h4
    go_enter Tryd.func69, Tryd.ntmps69
    go_wp2
    go_ret2
    exact ⟨rfl, rfl⟩

/-! ### ParseList of the program -/
/-- The iterator over a string moves on: what lay else in memory stays. -/
theorem iter_step {w wr : World} {t : ByteArray} {pos : Nat} {n : Nat} {v : Value} {xs : List Value} (hit : wr.heap[w.heap.size]? = some (.stringIter t pos)) (hp : pos < t.size) (hb : Below w.heap.size w wr)
    (ho : wr.ownsRow (w.heap.size + 1) 3 1 v n xs) :
    ∃ (cv : Int) (pos1 : Nat) (w1 : World), (∀ ty, (Instr.next (.pointer (some ⟨w.heap.size, 0, none⟩)) true ty).run Tryd.prog wr = .ok (.tuple #[.bool true, .int .i64 pos, .int .i32 cv]) w1) ∧
      w1.heap[w.heap.size]? = some (.stringIter t pos1) ∧ Below w.heap.size w w1 ∧ w1.ownsRow (w.heap.size + 1) 3 1 v n xs ∧ w1.heap.size = wr.heap.size ∧ 0 ≤ cv ∧ cv ≤ 2147483647 ∧
      ((cv = (t[pos].toNat : Int) ∧ cv ≤ 127 ∧ pos1 = pos + 1) ∨ (128 ≤ cv ∧ 128 ≤ (t[pos].toNat : Int))) := by
  have ho1 : ∀ p, (wr.iterAt w.heap.size t p).ownsRow (w.heap.size + 1) 3 1 v n xs := fun p => own_block ho (fun g hg => Lib.iterAt_other wr w.heap.size g t p (by have := (ho.lt g hg).1; omega))
  by_cases ha : t[pos].toNat < 128
  · exact ⟨(t[pos].toNat : Int), pos + 1, wr.iterAt w.heap.size t (pos + 1), fun ty => Lib.run_next_ascii_at wr w.heap.size t pos ty hit hp ha, Lib.iterAt_heap wr w.heap.size t pos (pos + 1) hit,
      Lib.below_iterAt hb (Nat.le_refl _) t (pos + 1), ho1 _, Lib.iterAt_size _ _ _ _, by omega, by omega, .inl ⟨rfl, by omega, rfl⟩⟩
  · have h1 := decode_high t pos hp (by omega)
    have h2 := decode_le t pos
    exact ⟨((Utf8.decode t pos).1 : Int), pos + (Utf8.decode t pos).2, wr.iterAt w.heap.size t (pos + (Utf8.decode t pos).2), fun ty => Lib.run_next_any_at wr w.heap.size t pos ty hit hp, Lib.iterAt_heap wr w.heap.size t pos _ hit,
      Lib.below_iterAt hb (Nat.le_refl _) t _, ho1 _, Lib.iterAt_size _ _ _ _, by omega, by omega, .inr ⟨by omega, by omega⟩⟩

theorem dgN_high {n c : Int} (h : 57 < c) : dgN n c = none := by
  unfold dgN; rw [if_neg (by omega), if_pos h]

/-- What is left of a text, in the byte at hand and the rest. -/
theorem plN_at {t : ByteArray} {pos : Nat} (hp : pos < t.size) (acc : List Int) (n : Int) : plN (t.data.toList.drop pos) acc n = (plS (t[pos].toNat : Int) acc n).bind fun p => plN (t.data.toList.drop (pos + 1)) p.1 p.2 := by
  have hl : pos < t.data.toList.length := by simpa using hp
  rw [List.drop_eq_getElem_cons hl, plN_cons]
  rfl

theorem iter_kept {w w1 w2 : World} {t : ByteArray} {pos k : Nat} {v : Value} {xs : List Value} {o : Obj} (hit : w1.heap[w.heap.size]? = some (.stringIter t pos)) (ho : w1.ownsRow (w.heap.size + 1) 3 1 v k xs) (hg : (w1.alloc o).grownBy w2 v.ownBlock) :
    w2.heap[w.heap.size]? = some (.stringIter t pos) := by
  have hlt : w.heap.size < w1.heap.size := (Array.getElem?_eq_some_iff.1 hit).1
  obtain ⟨_, _, _, _, hblk⟩ := hg
  rw [hblk w.heap.size (by have := (ba w1 o).size; omega) (fun h => by have := (ho.lt _ h.symm).1; omega)]
  rw [(ba w1 o).block _ hlt, hit]

def AnsL (w : World) (o : Option (List Int)) (e : Ending) (w' : World) : Prop := AnsI w (o.getD []) o.isSome e w'

set_option maxRecDepth 100000 in
set_option maxHeartbeats 1600000 in
theorem parseList_any (s : ByteArray) (hs : s.size ≤ 1048576) (w : World) :
    Calls Tryd.prog 28 #[.string s] w (AnsL w (plO s)) := by
  by_cases hm : s = ⟨#[45]⟩
  · subst hm
    rw [show plO ⟨#[45]⟩ = some [] from if_pos rfl]
    go_enter Tryd.func28, Tryd.ntmps28
    go_wp2
    go_ret2
    exact ⟨_, rfl, owI_nil _ _ (Nat.le_refl _), Below.refl _ _⟩
  · have hps : plO s = plN (s.data.toList ++ [44]) [] (-1) := if_neg hm
    have hpt : (s ++ (⟨#[44]⟩ : ByteArray)).data.toList = s.data.toList ++ [44] := by simp [ByteArray.data_append]
    have hts : (s ++ (⟨#[44]⟩ : ByteArray)).size = s.size + 1 := by simp [ByteArray.size_append]; rfl
    have hss : ¬ 9223372036854775807 < s.size + 1 := by omega
    have hne : (s.toList == [45]) = false := by
      rw [beq_eq_false_iff_ne]; intro h
      exact hm (WideShapes.bytes_inj (by rw [← ByteArray.toList_eq, h]))
    rw [hps, ← hpt]
    obtain ⟨i0, hi, hz0, hz1, hz2⟩ := info_parts Tryd.info3
    have HTS := Lib.hid hts
    generalize ht : s ++ (⟨#[44]⟩ : ByteArray) = t at HTS ⊢
    have htsz : t.size ≤ 1048577 := by have := HTS.out; omega
    generalize hO : plN t.data.toList [] (-1) = res
    have HO := Lib.hid hO
    clear hps hpt hts hO
    go_enter Tryd.func28, Tryd.ntmps28
    go_wp2
    go_loopw [4, 5, 7, 8, 9] (fun V N _ _ _ wr => ∃ (pos k : Nat) (va : Option Addr) (vc : Nat) (acc : List Int) (n : Int), wr.heap[w.heap.size]? = some (.stringIter t pos) ∧ V = .slice va k vc ∧ N = .int .i64 n ∧ wr.ownsRow (w.heap.size + 1) 3 1 (.slice va k vc) k (acc.map (Value.int .i64)) ∧ Below w.heap.size w wr ∧ plN (t.data.toList.drop pos) acc n = res ∧ -1 ≤ n ∧ n ≤ 4611686018427387903 ∧ k ≤ 400 ∧ pos ≤ t.size) (fun _ _ _ _ _ wr => t.size - wr.iterPos w.heap.size)
    case atStart =>
      refine ⟨0, 0, none, 0, [], -1, ?_, rfl, rfl, World.ownsRow_nil _ _ _ _, ba w _, HO.out, by omega, by omega, by omega, Nat.zero_le _⟩
      exact World.iter_heap w t 0
    case round =>
      obtain ⟨pos, k, va, vc, acc, n, hit, rfl, rfl, hown, hbel, hpl, hn0, hn1, hk, hpt⟩ := hrel
      by_cases hp : pos < t.size
      · obtain ⟨cv, pos1, w1, hnx, hit1, hb1, ho1, hs1, hc0, hc1, hcv⟩ := iter_step hit hp hbel hown
        have hkl : acc.length = k := by have := hown.1; simpa using this
        rw [plN_at hp] at hpl
        have hipos : wr.iterPos w.heap.size = pos := by simp [World.iterPos, hit]
        have HIP := Lib.hid hipos
        have HIT := Lib.hid hit1
        have HB := Lib.hid hb1
        have HOW := Lib.hid ho1
        have HS := Lib.hid hs1
        have HCV := Lib.hid hcv
        have HPL := Lib.hid hpl
        have HKL := Lib.hid hkl
        clear hit hbel hown hit1 hb1 ho1 hs1 hcv hpl hipos hkl
        by_cases h44 : cv = 44
        · subst h44
          obtain ⟨hc, -, rfl⟩ : (44 : Int) = (t[pos].toNat : Int) ∧ (44 : Int) ≤ 127 ∧ pos1 = pos + 1 := by rcases HCV.out with h | h <;> omega
          by_cases hst : n = -1 ∨ k = 400
          · have HR := Lib.hid (show none = res by rw [← HPL.out, ← hc, plS_stop (by rw [HKL.out]; exact hst)]; rfl)
            by_cases hn : n = -1
            · subst hn
              go_wp2
              go_ret2
              rw [← HR.out]
              exact ansI_nil HB.out
            · have e4 : (n == -1) = false := by simp [hn]
              obtain rfl : k = 400 := by omega
              go_wp2
              go_ret2
              rw [← HR.out]
              exact ansI_nil HB.out
          · have hn : ¬ n = -1 := by omega
            have hk4 : ¬ k = 400 := by omega
            have e4 : (n == -1) = false := by simp [hn]
            have hk5 : k + 1 ≤ 400 := by omega
            have e5 : ((k : Int) == 400) = false := by rw [beq_eq_false_iff_ne]; omega
            have HR := Lib.hid (show plN (t.data.toList.drop (pos + 1)) (acc ++ [n]) (-1) = res by rw [← HPL.out, ← hc, plS_comma hn (by rw [HKL.out]; exact hk4)]; rfl)
            clear hst hn hk4
            go_wp2_with (at_builtin; refine wpList_append_ints rfl _ _ 24 rfl (w.heap.size + 1) 3 i0 Tryd.underlying24 hi hz0 hz1 hz2 _ k acc rfl (HOW.out.alloc _) (some ⟨w1.heap.size, 0, none⟩) 1 1 [n] rfl rfl (ints_spot w1 _ rfl [n] 3) (fun h => by cases h) (by omega) (by have := ((Array.getElem?_eq_some_iff.1 HIT.out).1); have := (ba w1 (.cells #[.int .i64 n] 3)).size; omega) ?_; intro v' w2 hown' hgrow; obtain ⟨va', vc', rfl⟩ := own_shape hown'; have HO1 := Lib.hid hown'; have HB1 := Lib.hid ((HB.out.trans ((ba w1 _).mono HB.out.size)).grown hgrow (Nat.le_trans HB.out.size (ba w1 _).size) (fun q hq => by have := (HOW.out.lt q hq).1; omega)); have HI1 := Lib.hid (iter_kept HIT.out HOW.out hgrow); clear hown' hgrow)
            go_roundw
            case rel => exact ⟨pos + 1, k + 1, va', vc', acc ++ [n], -1, HI1.out, rfl, rfl, HO1.out, HB1.out, HR.out, by omega, by omega, by omega, by omega⟩
            case measure => rw [HIP.out]; simp only [World.iterPos, HI1.out]; omega
        · have e44 : (cv != 44) = true := by simp [h44]
          cases hd : dgN n cv with
          | none =>
            have HR := Lib.hid (show none = res by
              rw [← HPL.out]
              rcases HCV.out with ⟨hc, -⟩ | ⟨-, hc⟩
              · rw [← hc, plS_digit h44, hd]; rfl
              · rw [plS_digit (by omega), dgN_high (by omega)]; rfl)
            have HD := Lib.hid hd
            clear hd h44
            go_wp2_with fail
            refine (withDigit_none hn0 hn1 hc0 hc1 HD.out _).mono ?_
            rintro e w' ⟨rfl, rfl⟩
            go_wp2
            go_ret2
            rw [← HR.out]
            exact ansI_nil HB.out
          | some m =>
            obtain ⟨hm0, hm1, hc48, hc57, -⟩ := dgN_range hn0 hd
            obtain ⟨hc, -, rfl⟩ : cv = (t[pos].toNat : Int) ∧ cv ≤ 127 ∧ pos1 = pos + 1 := by rcases HCV.out with h | h <;> omega
            have HR := Lib.hid (show plN (t.data.toList.drop (pos + 1)) acc m = res by rw [← HPL.out, ← hc, plS_digit h44, hd]; rfl)
            have HD := Lib.hid hd
            clear hd h44 hc
            go_wp2_with fail
            refine (withDigit_some hn0 hn1 hc0 hc1 HD.out _).mono ?_
            rintro e w' ⟨rfl, rfl⟩
            go_wp2
            go_roundw
            case rel => exact ⟨pos + 1, k, va, vc, acc, m, HIT.out, rfl, rfl, HOW.out, HB.out, HR.out, by omega, by omega, hk, by omega⟩
            case measure => rw [HIP.out]; simp only [World.iterPos, HIT.out]; omega
      · have hnx : ∀ ty, (Instr.next (.pointer (some ⟨w.heap.size, 0, none⟩)) true ty).run Tryd.prog wr = _ := fun ty => Lib.run_next_end_at wr w.heap.size t pos ty hit hp
        have HR := Lib.hid (show some acc = res by rw [← hpl, List.drop_eq_nil_of_le (by rw [show t.data.toList.length = t.size from by simp]; omega), plN_nil])
        have HO1 := Lib.hid hown
        have HIT := Lib.hid hit
        have HB := Lib.hid hbel
        clear hit hown hbel hpl
        go_wp2
        go_ret2
        rw [← HR.out]
        exact ⟨_, rfl, (owI_mk HO1.out (Array.getElem?_eq_some_iff.1 HIT.out).1).wide (by omega) (Nat.le_refl _) (Nat.le_refl _), HB.out⟩

end Go.Proofs.YtmiohdibbpckaaaDoor

