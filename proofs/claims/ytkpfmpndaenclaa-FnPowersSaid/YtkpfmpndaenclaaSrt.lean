/- Lists in increasing order: the reference inserts, the program sorts. -/
import Derived.Test.YtkpfmpndaenclaaG3
import Derived.Laws.AppendOwn
import Derived.Laws.AppendOwnNone
import Derived.Sort.OwnSortedInts
namespace Go.Proofs.Ytkpfmpndaenclaa
open Go.RowKit Go.Sort

def sortL (l : List Int) : List Int := l.mergeSort fun x y => decide (x ≤ y)
theorem sortL_length (l : List Int) : (sortL l).length = l.length := List.length_mergeSort _
theorem sortL_eq {l s : List Int} (hs : s.Pairwise (· < ·)) (hp : s.Perm l) : sortL l = s := by
  have tr : ∀ a b c : Int, decide (a ≤ b) = true → decide (b ≤ c) = true → decide (a ≤ c) = true := fun a b c h1 h2 => by simp only [decide_eq_true_eq] at *; omega
  have to : ∀ a b : Int, (decide (a ≤ b) || decide (b ≤ a)) = true := fun a b => by simp only [Bool.or_eq_true, decide_eq_true_eq]; omega
  exact List.Perm.eq_of_pairwise (le := fun a b => decide (a ≤ b) = true) (fun a b _ _ h1 h2 => by simp only [decide_eq_true_eq] at h1 h2; omega) (List.pairwise_mergeSort tr to l)
    (hs.imp fun {a b} h => by simp only [decide_eq_true_eq]; omega) ((List.mergeSort_perm l _).trans hp.symm)

/-- x is put at the place k of an increasing list. -/
theorem put_sorted {zs : List Int} {x : Int} {k : Nat} (hs : zs.Pairwise (· < ·)) (h1 : ∀ y ∈ zs.take k, y < x) (h2 : ∀ y ∈ zs.drop k, x < y) : (zs.take k ++ x :: zs.drop k).Pairwise (· < ·) := by
  have h := List.take_append_drop k zs
  rw [← h, List.pairwise_append] at hs
  rw [List.pairwise_append]
  refine ⟨hs.1, List.pairwise_cons.2 ⟨h2, hs.2.1⟩, fun a ha b hb => ?_⟩
  rcases List.mem_cons.1 hb with rfl | hb
  · exact h1 a ha
  · exact hs.2.2 a ha b hb
theorem put_perm {zs l : List Int} {x : Int} {k : Nat} (hp : zs.Perm l) : (zs.take k ++ x :: zs.drop k).Perm (l ++ [x]) := by
  have h : (zs.take k ++ x :: zs.drop k).Perm (x :: zs) := by
    have := List.perm_middle (a := x) (l₁ := zs.take k) (l₂ := zs.drop k)
    rwa [List.take_append_drop] at this
  exact h.trans ((hp.cons x).trans (List.perm_append_singleton x l).symm)
/-- What the search for the place leaves: all before are smaller, and the one at the place is greater. -/
theorem put_place {zs : List Int} {x : Int} {k : Nat} (hs : zs.Pairwise (· < ·)) (h1 : ∀ i, i < k → zs.getD i 0 < x) (hk : k ≤ zs.length) (h2 : k = zs.length ∨ x < zs.getD k 0) :
    (∀ y ∈ zs.take k, y < x) ∧ (∀ y ∈ zs.drop k, x < y) := by
  constructor
  · intro y hy
    obtain ⟨i, hi, rfl⟩ := List.mem_iff_getElem.1 hy
    have hi' : i < k := by simp at hi; omega
    have := h1 i hi'
    rw [List.getElem_take]
    rwa [show zs.getD i 0 = zs[i] by simp [show i < zs.length by omega]] at this
  · intro y hy
    rcases h2 with h2 | h2
    · rw [List.drop_of_length_le (by omega)] at hy; cases hy
    · have hkl : k < zs.length := by
        rcases Nat.lt_or_ge k zs.length with h | h
        · exact h
        · rw [List.drop_of_length_le h] at hy; cases hy
      rw [show zs.getD k 0 = zs[k] by simp [hkl]] at h2
      rw [List.drop_eq_getElem_cons hkl] at hy
      rcases List.mem_cons.1 hy with rfl | hy
      · exact h2
      · have h := List.take_append_drop k zs
        have hd : (zs.drop k).Pairwise (· < ·) := hs.sublist (List.drop_sublist k zs)
        rw [List.drop_eq_getElem_cons hkl] at hd
        have := (List.pairwise_cons.1 hd).1 y hy
        omega

theorem news_at {w : World} {g off : Nat} {zs : List Int} (h : ∀ i, i < zs.length → w.cell? ⟨g, off + i, none⟩ = some (.int .i64 (zs.getD i 0))) :
    ∀ (j : Nat) (u : Value), (zs.map (Value.int .i64))[j]? = some u → w.cell? ((⟨g, off, none⟩ : Addr).add j) = some u := by
  intro j u hu
  have hj : j < zs.length := by
    have := (List.getElem?_eq_some_iff.1 hu).1
    simpa using this
  have h1 := h j hj
  have e : (⟨g, off, none⟩ : Addr).add j = ⟨g, off + j, none⟩ := by
    unfold Addr.add; split
    · subst_vars; rfl
    · rfl
  rw [e, h1]
  simp [hj] at hu ⊢
  exact hu

/-- A goal that the walk leaves alone. -/
structure Still (G : Prop) : Prop where
  out : G
theorem hold {G : Prop} (h : Still G) : G := h.out
theorem own_empty (w : World) (t : TypeId) : (w.alloc (.cells #[] t)).ownsRow w.heap.size t 1 (.slice (some ⟨w.heap.size, 0, none⟩) 0 0) 0 [] := by
  refine ⟨rfl, .inr ⟨w.heap.size, 0, #[], rfl, Nat.le_refl _, ?_, Nat.le_refl _, Nat.zero_le _, rfl, rfl⟩⟩
  show (w.heap.push _)[w.heap.size]? = _
  simp

/-- The reference's insertion. -/
def PutOut (w : World) (zs : List Int) (x : Int) (e : Ending) (w' : World) : Prop :=
  ∃ (k : Nat) (va : Option Addr) (vc : Nat), e = .returned (.slice va (zs.length + 1) vc) ∧ (∀ i, i < k → zs.getD i 0 < x) ∧ k ≤ zs.length ∧ (k = zs.length ∨ x < zs.getD k 0) ∧
    w'.ownsRow w.heap.size 3 1 (.slice va (zs.length + 1) vc) (zs.length + 1) ((zs.take k ++ x :: zs.drop k).map (Value.int .i64)) ∧ Below w.heap.size w w'

set_option maxRecDepth 100000 in
set_option maxHeartbeats 1600000 in
theorem l1Put_nil (x : Int) (w : World) : Calls Try.prog 80 #[.slice none 0 0, .int .i64 x] w (PutOut w [] x) := by
  obtain ⟨i0, hi, hz0, hz1, hz2⟩ := info_parts Try.info3
  go_enter Try.func80, Try.ntmps80
  go_wp2
  go_loop [5] (fun K => K = .int .i64 0) (fun _ => 0)
  case atStart => rfl
  case round =>
    obtain rfl := hrel
    go_wp2_with (at_builtin; refine wpList_append_own_none rfl _ _ 36 rfl w.heap.size 3 i0 1 Try.underlying36 hi _ 0 [] rfl (own_empty w 3) rfl ?_; refine hold ?_)
    refine ⟨?_⟩
    go_wp2_with (at_builtin; refine wpList_append_own _ rfl _ _ 36 rfl w.heap.size 3 i0 (.int .i64 0) 1 8 Try.underlying36 hi hz0 hz1 hz2 rfl (by decide) _ _ _ rfl ((own_empty w 3).alloc _) ⟨w.heap.size + 1, 0, none⟩ 1 1 [.int .i64 x] rfl rfl ?c1 ?c2 ?c3 ?c4 ?c5 ?_)
    case c1 =>
      have h := cell_one_new (w.alloc (.cells #[] 3)) (.int .i64 x) 3
      simpa using h
    case c2 => intro u hu; simp at hu; subst hu; rfl
    case c3 => unfold maxLen; omega
    case c4 => omega
    case c5 => simp; omega
    intro v' w1 hown' hgrow _
    obtain ⟨va', vc', rfl⟩ := own_shape hown'
    have HO := Lib.hid hown'
    have HB := Lib.hid ((bt (ba w (.cells #[] 3)) (ba _ (.cells #[.int .i64 x] 3))).grown hgrow (by simp; omega) (fun q hq => ((own_empty w 3).lt q hq).1))
    clear hown' hgrow
    go_wp2_with (at_builtin; refine wpList_append_own_none rfl _ _ 36 rfl w.heap.size 3 i0 1 Try.underlying36 hi _ _ _ rfl HO.out rfl ?_; refine hold ?_)
    refine ⟨?_⟩
    go_wp2
    go_ret
    exact ⟨0, va', vc', rfl, fun i hi => by omega, Nat.le_refl _, .inl rfl, HO.out, HB.out⟩

set_option maxRecDepth 100000 in
set_option maxHeartbeats 1600000 in
theorem l1Put_some (g n cap : Nat) (zs : List Int) (x : Int) (hn : zs.length = n) (h0 : 0 < n) (hnc : n ≤ cap) (hl : n ≤ 1000000) (hx : ∀ i, i < n → zs.getD i 0 ≠ x) (w : World) (hg : g < w.heap.size) (hz : ∀ i, i < n → w.cell? ⟨g, i, none⟩ = some (.int .i64 (zs.getD i 0))) :
    Calls Try.prog 80 #[.slice (some ⟨g, 0, none⟩) n cap, .int .i64 x] w (PutOut w zs x) := by
  obtain ⟨i0, hi, hz0, hz1, hz2⟩ := info_parts Try.info3
  have HX := Lib.hid hx
  have HZ := Lib.hid hz
  have HN := Lib.hid hn
  clear hx hz hn
  have hci : (n : Int) ≤ (cap : Int) := by omega
  have h0i : 0 < (n : Int) := by omega
  go_enter Try.func80, Try.ntmps80
  go_wp2
  go_loop [5] (fun K => ∃ k : Nat, k ≤ n ∧ K = .int .i64 k ∧ ∀ i, i < k → zs.getD i 0 < x) (fun K => n - (intOf K).toNat)
  case atStart => exact ⟨0, Nat.zero_le _, rfl, fun i hi => by omega⟩
  case round =>
    obtain ⟨k, hk, rfl, hlt⟩ := hrel
    have HL := Lib.hid hlt
    clear hlt
    by_cases hkn : k < n
    · have hc := HZ.out k hkn
      have hne := HX.out k hkn
      generalize hy : zs.getD k 0 = y at hc hne
      have hkni : (k : Int) < (n : Int) := by omega
      by_cases hyx : y < x
      · have HL2 := Lib.hid (show ∀ i, i < k + 1 → zs.getD i 0 < x from fun i hi => by
          rcases Nat.lt_or_ge i k with h | h
          · exact HL.out i h
          · have : i = k := by omega
            subst this; rw [hy]; exact hyx)
        clear hy
        go_wp2
        go_round
        case rel => exact ⟨k + 1, by omega, by go_num, HL2.out⟩
        case measure => simp only [intOf]; omega
      · have hyxi : (y == x) = false := by simp; omega
        have hyx2 : x ≤ y := by omega
        have hgt : x < zs.getD k 0 := by rw [hy]; omega
        have HGT := Lib.hid hgt
        clear hy hgt
        have HP1 := Lib.hid (news_at (w := w.alloc (.cells #[] 3)) (g := g) (off := 0) (zs := zs.take k) (fun i hi => by
          have hi' : i < k := by simp at hi; omega
          rw [Nat.zero_add, (ba w (.cells #[] 3)).cell (p := ⟨g, i, none⟩) hg, HZ.out i (by omega)]
          simp [hi']))
        have hlk : ((zs.take k).map (Value.int .i64)).length = k * 1 := by have := HN.out; simp; omega
        go_wp2_with (at_builtin; refine wpList_append_own _ rfl _ _ 36 rfl w.heap.size 3 i0 (.int .i64 0) 1 8 Try.underlying36 hi hz0 hz1 hz2 rfl (by decide) _ _ _ rfl (own_empty w 3) ⟨g, 0, none⟩ k _ ((zs.take k).map (Value.int .i64)) rfl hlk HP1.out (by intro u hu; obtain ⟨_, _, rfl⟩ := List.mem_map.1 hu; rfl) (by unfold maxLen; omega) (by omega) (by simp) ?_)
        intro v1 w1 hown1 hgrow1 _
        obtain ⟨va1, vc1, rfl⟩ := own_shape hown1
        have HO1 := Lib.hid hown1
        have HB1 := Lib.hid ((ba w (.cells #[] 3)).grown hgrow1 (by simp) (fun q hq => ((own_empty w 3).lt q hq).1))
        clear hown1 hgrow1 hlk
        go_wp2_with (at_builtin; refine wpList_append_own _ rfl _ _ 36 rfl w.heap.size 3 i0 (.int .i64 0) 1 8 Try.underlying36 hi hz0 hz1 hz2 rfl (by decide) _ _ _ rfl (HO1.out.alloc _) ⟨w1.heap.size, 0, none⟩ 1 1 [.int .i64 x] rfl rfl ?c1 ?c2 ?c3 ?c4 ?c5 ?_)
        case c1 => exact cell_one_new _ _ _
        case c2 => intro u hu; simp at hu; subst hu; rfl
        case c3 => unfold maxLen; omega
        case c4 => omega
        case c5 => have := HB1.out.size; simp; omega
        intro v2 w2 hown2 hgrow2 _
        obtain ⟨va2, vc2, rfl⟩ := own_shape hown2
        have HO2 := Lib.hid hown2
        have HB2 := Lib.hid ((HB1.out.alloc HB1.out.size _).grown hgrow2 (Nat.le_trans HB1.out.size (by simp)) (fun q hq => (HO1.out.lt q hq).1))
        clear hown2 hgrow2
        have HP3 := Lib.hid (news_at (w := w2) (g := g) (off := k) (zs := zs.drop k) (fun i hi => by
          have hi' : k + i < n := by have := HN.out; simp at hi; omega
          rw [HB2.out.cell (p := ⟨g, k + i, none⟩) hg, HZ.out (k + i) hi']
          simp))
        have hlk : ((zs.drop k).map (Value.int .i64)).length = (n - k) * 1 := by have := HN.out; simp; omega
        go_wp2_with (at_builtin; refine wpList_append_own _ rfl _ _ 36 rfl w.heap.size 3 i0 (.int .i64 0) 1 8 Try.underlying36 hi hz0 hz1 hz2 rfl (by decide) _ _ _ rfl HO2.out ⟨g, k, none⟩ (n - k) (cap - k) ((zs.drop k).map (Value.int .i64)) rfl hlk HP3.out (by intro u hu; obtain ⟨_, _, rfl⟩ := List.mem_map.1 hu; rfl) (by unfold maxLen; omega) (by omega) HB2.out.size ?_)
        intro v3 w3 hown3 hgrow3 _
        obtain ⟨va3, vc3, rfl⟩ := own_shape hown3
        have HO3 := Lib.hid hown3
        have HB3 := Lib.hid (HB2.out.grown hgrow3 HB2.out.size (fun q hq => (HO2.out.lt q hq).1))
        clear hown3 hgrow3 hlk
        go_wp2
        go_ret
        have hcount : k + 1 + (n - k) = zs.length + 1 := by have := HN.out; omega
        have h := HO3.out
        rw [hcount] at h
        refine ⟨k, va3, vc3, by rw [← hcount]; rfl, HL.out, by have := HN.out; omega, .inr HGT.out, ?_, HB3.out⟩
        have e : (zs.map (Value.int .i64)).take k ++ Value.int .i64 x :: (zs.map (Value.int .i64)).drop k = (zs.take k ++ x :: zs.drop k).map (Value.int .i64) := by simp [List.map_take, List.map_drop]
        rwa [← e]
    · have hkk : k = n := by omega
      subst hkk
      by_cases hcap : k = cap
      · subst hcap
        have HP1 := Lib.hid (news_at (w := w.alloc (.cells #[] 3)) (g := g) (off := 0) (zs := zs.take k) (fun i hi => by
          have hi' : i < k := by simp at hi; omega
          rw [Nat.zero_add, (ba w (.cells #[] 3)).cell (p := ⟨g, i, none⟩) hg, HZ.out i (by omega)]
          simp [hi']))
        have hlk : ((zs.take k).map (Value.int .i64)).length = k * 1 := by have := HN.out; simp; omega
        go_wp2_with (at_builtin; refine wpList_append_own _ rfl _ _ 36 rfl w.heap.size 3 i0 (.int .i64 0) 1 8 Try.underlying36 hi hz0 hz1 hz2 rfl (by decide) _ _ _ rfl (own_empty w 3) ⟨g, 0, none⟩ k _ ((zs.take k).map (Value.int .i64)) rfl hlk HP1.out (by intro u hu; obtain ⟨_, _, rfl⟩ := List.mem_map.1 hu; rfl) (by unfold maxLen; omega) (by omega) (by simp) ?_)
        intro v1 w1 hown1 hgrow1 _
        obtain ⟨va1, vc1, rfl⟩ := own_shape hown1
        have HO1 := Lib.hid hown1
        have HB1 := Lib.hid ((ba w (.cells #[] 3)).grown hgrow1 (by simp) (fun q hq => ((own_empty w 3).lt q hq).1))
        clear hown1 hgrow1 hlk
        go_wp2_with (at_builtin; refine wpList_append_own _ rfl _ _ 36 rfl w.heap.size 3 i0 (.int .i64 0) 1 8 Try.underlying36 hi hz0 hz1 hz2 rfl (by decide) _ _ _ rfl (HO1.out.alloc _) ⟨w1.heap.size, 0, none⟩ 1 1 [.int .i64 x] rfl rfl ?c1 ?c2 ?c3 ?c4 ?c5 ?_)
        case c1 => exact cell_one_new _ _ _
        case c2 => intro u hu; simp at hu; subst hu; rfl
        case c3 => unfold maxLen; omega
        case c4 => omega
        case c5 => have := HB1.out.size; simp; omega
        intro v2 w2 hown2 hgrow2 _
        obtain ⟨va2, vc2, rfl⟩ := own_shape hown2
        have HO2 := Lib.hid hown2
        have HB2 := Lib.hid ((HB1.out.alloc HB1.out.size _).grown hgrow2 (Nat.le_trans HB1.out.size (by simp)) (fun q hq => (HO1.out.lt q hq).1))
        clear hown2 hgrow2
        go_wp2_with (at_builtin; refine wpList_append_own _ rfl _ _ 36 rfl w.heap.size 3 i0 (.int .i64 0) 1 8 Try.underlying36 hi hz0 hz1 hz2 rfl (by decide) _ _ _ rfl HO2.out _ 0 _ [] rfl rfl (by intro j u hu; simp at hu) (by simp) (by unfold maxLen; omega) (by omega) HB2.out.size ?_)
        all_goals
          (intro v3 w3 hown3 hgrow3 _
           obtain ⟨va3, vc3, rfl⟩ := own_shape hown3
           have HO3 := Lib.hid hown3
           have HB3 := Lib.hid (HB2.out.grown hgrow3 HB2.out.size (fun q hq => (HO2.out.lt q hq).1))
           clear hown3 hgrow3
           go_wp2
           go_ret
           have hcount : k + 1 = zs.length + 1 := by have := HN.out; omega
           have h := HO3.out
           (try simp only [Nat.add_zero, Nat.zero_add] at h)
           rw [hcount] at h
           refine ⟨k, va3, vc3, by rw [← hcount]; rfl, HL.out, by have := HN.out; omega, .inl HN.out.symm, ?_, HB3.out⟩
           have hd : zs.drop k = [] := List.drop_of_length_le (by have := HN.out; omega)
           rw [hd]
           simpa [List.map_take] using h)
      · have hcap2 : (k : Int) < (cap : Int) := by omega
        have HP1 := Lib.hid (news_at (w := w.alloc (.cells #[] 3)) (g := g) (off := 0) (zs := zs.take k) (fun i hi => by
          have hi' : i < k := by simp at hi; omega
          rw [Nat.zero_add, (ba w (.cells #[] 3)).cell (p := ⟨g, i, none⟩) hg, HZ.out i (by omega)]
          simp [hi']))
        have hlk : ((zs.take k).map (Value.int .i64)).length = k * 1 := by have := HN.out; simp; omega
        go_wp2_with (at_builtin; refine wpList_append_own _ rfl _ _ 36 rfl w.heap.size 3 i0 (.int .i64 0) 1 8 Try.underlying36 hi hz0 hz1 hz2 rfl (by decide) _ _ _ rfl (own_empty w 3) ⟨g, 0, none⟩ k _ ((zs.take k).map (Value.int .i64)) rfl hlk HP1.out (by intro u hu; obtain ⟨_, _, rfl⟩ := List.mem_map.1 hu; rfl) (by unfold maxLen; omega) (by omega) (by simp) ?_)
        intro v1 w1 hown1 hgrow1 _
        obtain ⟨va1, vc1, rfl⟩ := own_shape hown1
        have HO1 := Lib.hid hown1
        have HB1 := Lib.hid ((ba w (.cells #[] 3)).grown hgrow1 (by simp) (fun q hq => ((own_empty w 3).lt q hq).1))
        clear hown1 hgrow1 hlk
        go_wp2_with (at_builtin; refine wpList_append_own _ rfl _ _ 36 rfl w.heap.size 3 i0 (.int .i64 0) 1 8 Try.underlying36 hi hz0 hz1 hz2 rfl (by decide) _ _ _ rfl (HO1.out.alloc _) ⟨w1.heap.size, 0, none⟩ 1 1 [.int .i64 x] rfl rfl ?c1 ?c2 ?c3 ?c4 ?c5 ?_)
        case c1 => exact cell_one_new _ _ _
        case c2 => intro u hu; simp at hu; subst hu; rfl
        case c3 => unfold maxLen; omega
        case c4 => omega
        case c5 => have := HB1.out.size; simp; omega
        intro v2 w2 hown2 hgrow2 _
        obtain ⟨va2, vc2, rfl⟩ := own_shape hown2
        have HO2 := Lib.hid hown2
        have HB2 := Lib.hid ((HB1.out.alloc HB1.out.size _).grown hgrow2 (Nat.le_trans HB1.out.size (by simp)) (fun q hq => (HO1.out.lt q hq).1))
        clear hown2 hgrow2
        go_wp2_with (at_builtin; refine wpList_append_own _ rfl _ _ 36 rfl w.heap.size 3 i0 (.int .i64 0) 1 8 Try.underlying36 hi hz0 hz1 hz2 rfl (by decide) _ _ _ rfl HO2.out _ 0 _ [] rfl rfl (by intro j u hu; simp at hu) (by simp) (by unfold maxLen; omega) (by omega) HB2.out.size ?_)
        all_goals
          (intro v3 w3 hown3 hgrow3 _
           obtain ⟨va3, vc3, rfl⟩ := own_shape hown3
           have HO3 := Lib.hid hown3
           have HB3 := Lib.hid (HB2.out.grown hgrow3 HB2.out.size (fun q hq => (HO2.out.lt q hq).1))
           clear hown3 hgrow3
           go_wp2
           go_ret
           have hcount : k + 1 = zs.length + 1 := by have := HN.out; omega
           have h := HO3.out
           (try simp only [Nat.add_zero, Nat.zero_add] at h)
           rw [hcount] at h
           refine ⟨k, va3, vc3, by rw [← hcount]; rfl, HL.out, by have := HN.out; omega, .inl HN.out.symm, ?_, HB3.out⟩
           have hd : zs.drop k = [] := List.drop_of_length_le (by have := HN.out; omega)
           rw [hd]
           simpa [List.map_take] using h)

end Go.Proofs.Ytkpfmpndaenclaa

