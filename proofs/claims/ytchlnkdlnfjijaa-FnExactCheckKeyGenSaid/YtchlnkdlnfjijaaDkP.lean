/- Chapter 12: answers, mended dealings, qualified dealers: plain facts; lists of dealings as they grow. -/
import Derived.Test.YtchlnkdlnfjijaaDkC
import Derived.Test.YtchlnkdlnfjijaaDkS
import Derived.Deep.AppendLies
import Derived.Test.YtchlnkdlnfjijaaFac
import Derived.Deep.LoopGhost
import Derived.WalkMore
import Derived.Deep.DeepCutAuto
import Derived.Deep.RegionHeld3
namespace Go.Proofs.Ytchlnkdlnfjijaa
open Go.RowKit
set_option linter.unusedVariables false
set_option linter.unusedSimpArgs false

def kaB (P Q G : Int) (ds : List DlD) (av : List (List Int)) : Bool := kiB P Q G ds && (decide (av.length = ds.length) && av.all fun a => shsB Q a)
theorem ka_facts {P Q G : Int} {ds : List DlD} {av : List (List Int)} (h : kaB P Q G ds av = true) : kiB P Q G ds = true ∧ av.length = ds.length ∧ ∀ a ∈ av, a.length ≤ 7 ∧ ∀ z ∈ a, 0 ≤ z ∧ z < Q := by
  simp only [kaB, Bool.and_eq_true, List.all_eq_true, decide_eq_true_eq] at h
  obtain ⟨h1, h2, h3⟩ := h
  refine ⟨h1, h2, fun a ha => ?_⟩
  obtain ⟨h4, h5⟩ := shsB_true.1 (h3 a ha)
  exact ⟨h4, allIn_res7 h5⟩
/-- The answers fit, one after another. -/
def fitsL (P Q G : Int) (cs : List Int) : List Int → List Int → Bool
  | i :: is, x :: xs => fitB P Q G cs i x && fitsL P Q G cs is xs
  | _, _ => true
/-- The shares with the answers in their places. -/
def putL : List Int → List Int → List Int → List Int
  | s, i :: is, x :: xs => putL (s.set (i - 1).toNat x) is xs
  | s, _, _ => s
theorem putL_length : ∀ (s is xs : List Int), (putL s is xs).length = s.length
  | s, [], xs => by cases xs <;> rfl
  | s, i :: is, [] => rfl
  | s, i :: is, x :: xs => by simp [putL, putL_length]
def badL (P Q G : Int) (d : DlD) : List Int := bdL P Q G d.c d.s d.s.length
def mdB (P Q G : Int) (d : DlD) (own : List Int) : Bool := decide ((badL P Q G d).length < d.c.length) && (decide (own.length = (badL P Q G d).length) && fitsL P Q G d.c (badL P Q G d) own)
def mdV (P Q G : Int) (d : DlD) (own : List Int) : DlD := ⟨d.c, putL d.s (badL P Q G d) own⟩
theorem mdB_true {P Q G : Int} {d : DlD} {own : List Int} : mdB P Q G d own = true ↔ (badL P Q G d).length < d.c.length ∧ own.length = (badL P Q G d).length ∧ fitsL P Q G d.c (badL P Q G d) own = true := by simp [mdB]
theorem bdL_range (P Q G : Int) (cs ss : List Int) : ∀ n, ∀ z ∈ bdL P Q G cs ss n, 1 ≤ z ∧ z ≤ (n : Int)
  | 0, z, hz => by simp [bdL] at hz
  | n + 1, z, hz => by
    rw [bdL] at hz
    split at hz
    · have := bdL_range P Q G cs ss n z hz
      omega
    · rw [List.mem_append, List.mem_singleton] at hz
      rcases hz with hz | hz
      · have := bdL_range P Q G cs ss n z hz
        omega
      · omega
theorem badL_range {P Q G : Int} {d : DlD} {z : Int} (hz : z ∈ badL P Q G d) : 1 ≤ z ∧ z ≤ (d.s.length : Int) := bdL_range P Q G d.c d.s _ z hz
theorem badL_le (P Q G : Int) (d : DlD) : (badL P Q G d).length ≤ d.s.length := bdL_le P Q G d.c d.s _
/-- The numbers of the qualified among the first k dealers, and their dealings. -/
def quL (P Q G : Int) (ds : List DlD) (av : List (List Int)) : Nat → List Int
  | 0 => []
  | k + 1 => if mdB P Q G (ds.getD k nilD) (av.getD k []) then quL P Q G ds av k ++ [(k : Int) + 1] else quL P Q G ds av k
def qdL (P Q G : Int) (ds : List DlD) (av : List (List Int)) : Nat → List DlD
  | 0 => []
  | k + 1 => if mdB P Q G (ds.getD k nilD) (av.getD k []) then qdL P Q G ds av k ++ [mdV P Q G (ds.getD k nilD) (av.getD k [])] else qdL P Q G ds av k
theorem quL_length (P Q G : Int) (ds : List DlD) (av : List (List Int)) : ∀ k, (quL P Q G ds av k).length = (qdL P Q G ds av k).length ∧ (quL P Q G ds av k).length ≤ k
  | 0 => by simp [quL, qdL]
  | k + 1 => by
    have := quL_length P Q G ds av k
    rw [quL, qdL]
    split
    · simp; omega
    · omega
theorem qu_on {P Q G : Int} {ds : List DlD} {av : List (List Int)} {k : Nat} {d : DlD} {own : List Int} (hd : ds.getD k nilD = d) (ho : av.getD k [] = own) (h : mdB P Q G d own = true) : quL P Q G ds av (k + 1) = quL P Q G ds av k ++ [(k : Int) + 1] ∧ qdL P Q G ds av (k + 1) = qdL P Q G ds av k ++ [mdV P Q G d own] := by
  subst hd ho
  rw [quL, qdL, h]; exact ⟨rfl, rfl⟩
theorem qu_off {P Q G : Int} {ds : List DlD} {av : List (List Int)} {k : Nat} {d : DlD} {own : List Int} (hd : ds.getD k nilD = d) (ho : av.getD k [] = own) (h : mdB P Q G d own = false) : quL P Q G ds av (k + 1) = quL P Q G ds av k ∧ qdL P Q G ds av (k + 1) = qdL P Q G ds av k := by
  subst hd ho
  rw [quL, qdL, h]; exact ⟨rfl, rfl⟩
/-- One answer more. -/
theorem fits_step {P Q G : Int} {cs bad own : List Int} {j : Nat} {i x : Int} (hb : bad.drop j = i :: bad.drop (j + 1)) (ho : own.drop j = x :: own.drop (j + 1)) : fitsL P Q G cs (bad.drop j) (own.drop j) = (fitB P Q G cs i x && fitsL P Q G cs (bad.drop (j + 1)) (own.drop (j + 1))) := by rw [hb, ho]; rfl
theorem put_step {cur bad own : List Int} {j : Nat} {i x : Int} (hb : bad.drop j = i :: bad.drop (j + 1)) (ho : own.drop j = x :: own.drop (j + 1)) : putL cur (bad.drop j) (own.drop j) = putL (cur.set (i - 1).toNat x) (bad.drop (j + 1)) (own.drop (j + 1)) := by rw [hb, ho]; rfl
theorem fits_end {P Q G : Int} {cs bad own : List Int} {j : Nat} (hb : bad.length ≤ j) : fitsL P Q G cs (bad.drop j) (own.drop j) = true := by rw [List.drop_of_length_le hb]; cases own.drop j <;> rfl
theorem put_end {cur bad own : List Int} {j : Nat} (hb : bad.length ≤ j) : putL cur (bad.drop j) (own.drop j) = cur := by rw [List.drop_of_length_le hb]; cases own.drop j <;> rfl
theorem getD_drop {α : Type} {l : List α} {k : Nat} {x z : α} (h : l.drop k = x :: l.drop (k + 1)) : l.getD k z = x := by
  have h1 : (l.drop k)[0]? = some x := by rw [h]; rfl
  rw [List.getElem?_drop, Nat.add_zero] at h1
  rw [List.getD_eq_getElem?_getD, h1]; rfl

/-! ### Lists that lie apart from rows that still grow -/
/-- The list is read, and its block is none of those of X. -/
def InX (X : Nat → Prop) (w : World) (v : Value) (zs : List Int) : Prop := ∃ ad cap, v = .slice ad zs.length cap ∧ (ad = none → cap = 0) ∧ zs.length ≤ cap ∧ (zs = [] ∨ ∃ b off, ad = some ⟨b, off, none⟩ ∧ ¬ X b ∧ b < w.heap.size ∧ ∀ i, i < zs.length → w.cell? ⟨b, off + i, none⟩ = some (.int .i64 (zs.getD i 0)))
theorem InX.toIn {X : Nat → Prop} {w : World} {v : Value} {zs : List Int} (h : InX X w v zs) : InI w.heap.size w v zs := by
  obtain ⟨ad, cap, rfl, h1, h2, h3⟩ := h
  refine ⟨Nat.le_refl _, ad, cap, rfl, ?_, h1, h2⟩
  rcases h3 with h3 | ⟨b, off, h4, _, h5, h6⟩
  · exact .inl h3
  · exact .inr ⟨b, off, h4, h5, h5, h6⟩
theorem InX.of {X : Nat → Prop} {P : Nat} {w : World} {v : Value} {zs : List Int} (h : InI P w v zs) (hX : ∀ b, X b → P ≤ b) : InX X w v zs := by
  obtain ⟨_, ad, cap, rfl, h3, h1, h2⟩ := h
  refine ⟨ad, cap, rfl, h1, h2, ?_⟩
  rcases h3 with h3 | ⟨b, off, h4, h5, h6, h7⟩
  · exact .inl h3
  · exact .inr ⟨b, off, h4, fun hx => by have := hX b hx; omega, h6, h7⟩
theorem InX.ofOw {X : Nat → Prop} {Q P : Nat} {w : World} {v : Value} {zs : List Int} (h : OwI Q P w v zs) (hX : ∀ b, X b → b < Q ∨ P ≤ b) : InX X w v zs := by
  obtain ⟨va, vc, rfl⟩ := own_shape h.1
  obtain ⟨hi, hn, hnil⟩ := own_ints h.1
  refine ⟨va, vc, rfl, hnil, own_cap h.1, ?_⟩
  rcases hi with hi | ⟨b, off, rfl, hb, hc⟩
  · exact .inl hi
  · refine .inr ⟨b, off, rfl, fun hx => ?_, hb, hc⟩
    have l1 := (h.1.lt b rfl).1
    have l2 := h.2.1 b rfl
    have := hX b hx
    omega
theorem InX.below {X : Nat → Prop} {w w' : World} {v : Value} {zs : List Int} (h : InX X w v zs) (hb : Below w.heap.size w w') : InX X w' v zs := by
  obtain ⟨ad, cap, rfl, h1, h2, h3⟩ := h
  refine ⟨ad, cap, rfl, h1, h2, ?_⟩
  rcases h3 with h3 | ⟨b, off, h4, h5, h6, h7⟩
  · exact .inl h3
  · exact .inr ⟨b, off, h4, h5, Nat.lt_of_lt_of_le h6 hb.size, fun i hi => by rw [hb.cell (p := ⟨b, off + i, none⟩) h6]; exact h7 i hi⟩
theorem InX.grown {X X' : Nat → Prop} {w w' : World} {o : Option Nat} {v : Value} {zs : List Int} (h : InX X w v zs) (hg : w.grownBy w' o) (ho : ∀ k, o = some k → X k) (hX : ∀ k, X' k → X k ∨ w.heap.size ≤ k) : InX X' w' v zs := by
  obtain ⟨ad, cap, rfl, h1, h2, h3⟩ := h
  refine ⟨ad, cap, rfl, h1, h2, ?_⟩
  rcases h3 with h3 | ⟨b, off, h4, h5, h6, h7⟩
  · exact .inl h3
  · have hne : some b ≠ o := fun e => h5 (ho b e.symm)
    refine .inr ⟨b, off, h4, fun hx => ?_, Nat.lt_of_lt_of_le h6 hg.size, fun i hi => ?_⟩
    · rcases hX b hx with h | h
      · exact h5 h
      · omega
    · rw [hg.cell_far ⟨b, off + i, none⟩ h6 hne]; exact h7 i hi
/-- The dealings' lists lie in the values vs, two by two. -/
def ElX (X : Nat → Prop) (w : World) (vs : List Value) (ds : List DlD) : Prop := ∀ (i : Nat) d, ds[i]? = some d → ∃ x y, vs[i * 2]? = some x ∧ vs[i * 2 + 1]? = some y ∧ InX X w x d.c ∧ InX X w y d.s
theorem ElX.below {X : Nat → Prop} {w w' : World} {vs : List Value} {ds : List DlD} (h : ElX X w vs ds) (hb : Below w.heap.size w w') : ElX X w' vs ds := fun i d hd => by
  obtain ⟨x, y, h1, h2, h3, h4⟩ := h i d hd
  exact ⟨x, y, h1, h2, h3.below hb, h4.below hb⟩
theorem ElX.grown {X X' : Nat → Prop} {w w' : World} {o : Option Nat} {vs : List Value} {ds : List DlD} (h : ElX X w vs ds) (hg : w.grownBy w' o) (ho : ∀ k, o = some k → X k) (hX : ∀ k, X' k → X k ∨ w.heap.size ≤ k) : ElX X' w' vs ds := fun i d hd => by
  obtain ⟨x, y, h1, h2, h3, h4⟩ := h i d hd
  exact ⟨x, y, h1, h2, h3.grown hg ho hX, h4.grown hg ho hX⟩
theorem ElX.snoc {X : Nat → Prop} {w : World} {vs : List Value} {ds : List DlD} (h : ElX X w vs ds) (hl : vs.length = ds.length * 2) {x y : Value} {d : DlD} (hx : InX X w x d.c) (hy : InX X w y d.s) : ElX X w (vs ++ [x, y]) (ds ++ [d]) := fun i e he => by
  by_cases hi : i < ds.length
  · rw [List.getElem?_append_left hi] at he
    obtain ⟨x, y, h1, h2, h3⟩ := h i e he
    exact ⟨x, y, by rw [List.getElem?_append_left (by omega)]; exact h1, by rw [List.getElem?_append_left (by omega)]; exact h2, h3⟩
  · rw [List.getElem?_append_right (by omega)] at he
    have h0 : i - ds.length = 0 := by
      rcases Nat.eq_zero_or_pos (i - ds.length) with h | h
      · exact h
      · rw [List.getElem?_eq_none (by simp; omega)] at he; cases he
    rw [h0] at he
    simp at he
    subst he
    exact ⟨x, y, by rw [List.getElem?_append_right (by omega), show i * 2 - vs.length = 0 by omega]; rfl, by rw [List.getElem?_append_right (by omega), show i * 2 + 1 - vs.length = 1 by omega]; rfl, hx, hy⟩
/-- Two rows of other types lie apart. -/
theorem rows_apart {w : World} {B1 B2 n1 n2 s1 s2 : Nat} {e1 e2 : TypeId} {v1 v2 : Value} {xs ys : List Value} (h1 : w.ownsRow B1 e1 s1 v1 n1 xs) (h2 : w.ownsRow B2 e2 s2 v2 n2 ys) (hne : e1 ≠ e2) {k : Nat} (k1 : v1.ownBlock = some k) (k2 : v2.ownBlock = some k) : False := by
  rcases h1.2 with ⟨rfl, _⟩ | ⟨g1, c1, cur1, rfl, _, hh1, _⟩
  · simp [Value.ownBlock] at k1
  · rcases h2.2 with ⟨rfl, _⟩ | ⟨g2, c2, cur2, rfl, _, hh2, _⟩
    · simp [Value.ownBlock] at k2
    · simp [Value.ownBlock] at k1 k2
      subst k1
      subst k2
      rw [hh1] at hh2
      simp at hh2
      first | exact hne hh2.2.1 | exact hne hh2.2 | exact hne hh2
theorem rows_kept {w w' : World} {B1 B2 n1 n2 s1 s2 : Nat} {e1 e2 : TypeId} {v1 v2 : Value} {xs ys : List Value} (h1 : w.ownsRow B1 e1 s1 v1 n1 xs) (h2 : w.ownsRow B2 e2 s2 v2 n2 ys) (hne : e1 ≠ e2) (hg : w.grownBy w' v1.ownBlock) : w'.ownsRow B2 e2 s2 v2 n2 ys :=
  own_block h2 (fun g hgu => hg.block g (h2.lt g hgu).2 (fun e => rows_apart h1 h2 hne e.symm hgu))
/-- A row of dealings that is read. -/
theorem inDs_of_row {X : Nat → Prop} {w : World} {B n cap : Nat} {ad : Option Addr} {vs : List Value} {ds : List DlD} (h : w.ownsRow B 42 2 (.slice ad n cap) n vs) (hn : ds.length = n) (he : ElX X w vs ds) : InDs w.heap.size w (.slice ad n cap) ds := by
  subst hn
  have hcap := own_capD h
  rcases h.2 with ⟨h1, h0⟩ | ⟨g, cap', cur, h1, hb, hg, _⟩
  · simp only [Value.slice.injEq] at h1
    obtain ⟨rfl, _, rfl⟩ := h1
    exact ⟨Nat.le_refl _, none, 0, by rw [h0], ⟨fun _ => rfl, by omega⟩, .inl (List.length_eq_zero_iff.1 h0)⟩
  · simp only [Value.slice.injEq] at h1
    obtain ⟨rfl, _, rfl⟩ := h1
    have hgl := (h.lt g rfl).2
    refine ⟨Nat.le_refl _, some ⟨g, 0, none⟩, cap, rfl, ⟨(fun h => by cases h), hcap⟩, .inr ⟨g, 0, rfl, hgl, hgl, fun i d hd => ?_⟩⟩
    obtain ⟨x, y, hx, hy, hi, hj⟩ := he i d hd
    have ha : ∀ j, (⟨g, 0, none⟩ : Addr).add j = ⟨g, 0 + j, none⟩ := by
      intro j
      unfold Addr.add; split
      · subst_vars; rfl
      · rfl
    have c1 := h.cells (g := g) rfl (i * 2) x hx
    have c2 := h.cells (g := g) rfl (i * 2 + 1) y hy
    rw [ha] at c1 c2
    exact ⟨x, y, c1, by rwa [Nat.add_assoc], hi.toIn, hj.toIn⟩

end Go.Proofs.Ytchlnkdlnfjijaa

/- Chapter 12, the program: answers, settled dealings, QualifiedIn. -/
namespace Go.Proofs.Ytchlnkdlnfjijaa
open Go.RowKit
set_option linter.unusedVariables false
set_option linter.unusedSimpArgs false

set_option maxHeartbeats 1600000 in
theorem allShares_any (P Q G : Int) {B : Nat} {av : List (List Int)} (hl : av.length ≤ 1048576) (hr : nS av ≤ 1048576) {v : Value} {w : World} (hz : InS B w v av) :
    Calls Try.prog 111 #[v, .func (.func 106) #[gv P Q G] #[]] w fun e w' => e = .returned (.bool (av.all fun a => shsB Q a)) ∧ Below w.heap.size w w' := by
  obtain ⟨ad, cap, rfl⟩ := hz.shape
  generalize hn : av.length = n at hz
  have HN := Lib.hid hn
  have H := Lib.hid hz
  clear hz
  go_enter Try.func111, Try.ntmps111
  go_wp2
  go_loopw [9] (fun K wr => ∃ k : Nat, k ≤ n ∧ K = .int .i64 k ∧ av.all (fun a => shsB Q a) = (av.drop k).all (fun a => shsB Q a) ∧ Below w.heap.size w wr) (fun K _ => n - (intOf K).toNat)
  case atStart => exact ⟨0, Nat.zero_le _, rfl, by simp, Below.refl _ _⟩
  case round =>
    obtain ⟨k, hk, rfl, he, hbel⟩ := hrel
    by_cases hkn : k < n
    · obtain ⟨b, off, p1, p2, z, rfl, hb, hx, hi, hd⟩ := (H.out.below hbel).at (k := k) (by have := HN.out; omega)
      have HS := Lib.hid (show (shsB Q z = true → av.all (fun a => shsB Q a) = (av.drop (k + 1)).all (fun a => shsB Q a)) ∧ (shsB Q z = false → av.all (fun a => shsB Q a) = false) from by
        rw [hd, List.all_cons] at he
        exact ⟨fun h => by rw [he, h, Bool.true_and], fun h => by rw [he, h, Bool.false_and]⟩)
      have HB := Lib.hid hbel
      have hi2 := Lib.hid hi
      have hzn : z.length ≤ 1048576 := by
        have := nS_drop av k
        rw [hd, nS_cons] at this
        omega
      clear he hd hbel hi
      cases hi' : shsB Q z
      · have HI := Lib.hid hi'
        clear hi'
        go_wp2_with fail
        refine (areShares_any P Q G p1 z.length p2 z rfl (by omega) _ (inI_ints hi2.out)).mono ?_
        rintro e w1 ⟨rfl, hb1⟩
        rw [HI.out]
        have HB1 := Lib.hid (bt HB.out hb1)
        clear hb1
        go_wp2
        go_ret
        exact ⟨by rw [HS.out.2 HI.out]; rfl, HB1.out⟩
      · have HI := Lib.hid hi'
        clear hi'
        go_wp2_with fail
        refine (areShares_any P Q G p1 z.length p2 z rfl (by omega) _ (inI_ints hi2.out)).mono ?_
        rintro e w1 ⟨rfl, hb1⟩
        rw [HI.out]
        have HB1 := Lib.hid (bt HB.out hb1)
        clear hb1
        go_wp2
        go_roundw
        case rel => exact ⟨k + 1, by omega, by go_num, HS.out.1 HI.out, HB1.out⟩
        case measure => simp only [intOf]; omega
    · have HE := Lib.hid he
      have HB := Lib.hid hbel
      clear he hbel
      go_wp2
      go_ret
      refine ⟨?_, HB.out⟩
      rw [HE.out, List.drop_of_length_le (by have := HN.out; omega)]; rfl

set_option maxRecDepth 100000 in
set_option maxHeartbeats 3200000 in
theorem areAnswered_any (P Q G : Int) {B : Nat} {v : Value} {ds : List DlD} (hl : ds.length ≤ 1048576) (hr : nDs ds ≤ 1048576) {B2 : Nat} {u : Value} {av : List (List Int)} (hl2 : av.length ≤ 1048576) (hr2 : nS av ≤ 1048576) {w : World} (hz : InDs B w v ds) (hu : InS B2 w u av) :
    Calls Try.prog 67 #[gv P Q G, v, u] w fun e w' => e = .returned (.bool (kaB P Q G ds av)) ∧ Below w.heap.size w w' := by
  obtain ⟨la, lc, rfl⟩ := hz.shape
  obtain ⟨ua, uc, rfl⟩ := hu.shape
  have hmf : ∀ (fn : Fn) (first cap : Array Value) (w : World), (Instr.makeFunc fn first cap).run Try.prog w = .ok (.func fn first cap) w := fun _ _ _ _ => rfl
  have G_0 := Lib.hid (gr_atS w w.heap.size rfl P Q G 24)
  have HB_0 := Lib.hid (show Below w.heap.size w (w.alloc (.cells #[.int .i64 P, .int .i64 Q, .int .i64 G] 24)) from ba _ _)
  have L_0 := Lib.hid (hz.below HB_0.out)
  have U_0 := Lib.hid (hu.below HB_0.out)
  clear hz hu
  by_cases h0 : ¬ (av.length = ds.length)
  · have B0 : ((av.length : Int) == (ds.length : Int)) = false := by simp only [beq_eq_false_iff_ne, ne_eq]; omega
    have E1 := Lib.hid (show kaB P Q G ds av = false by simp [kaB, h0])
    rw [E1.out]
    clear h0
    obtain ⟨gG0, gG1, gG2⟩ := G_0.out
    go_enter Try.func67, Try.ntmps67
    go_wp2
    go_ret
    exact ⟨rfl, HB_0.out⟩
  replace h0 := Decidable.not_not.1 h0
  have B0 : ((av.length : Int) == (ds.length : Int)) = true := by simp [h0]
  cases h1 : kiB P Q G ds
  · have K1 := Lib.hid (show kiB P Q G ds = false from h1)
    have E1 := Lib.hid (show kaB P Q G ds av = false by simp [kaB, h1])
    rw [E1.out]
    clear h0 h1
    obtain ⟨gG0, gG1, gG2⟩ := G_0.out
    go_enter Try.func67, Try.ntmps67
    go_wp2_with fail
    refine (isKeyGenInput_any P Q G hl hr L_0.out).mono ?_
    rw [K1.out]
    rintro e v1 ⟨rfl, hb⟩
    have HB_1 := Lib.hid (bt HB_0.out hb)
    have G_1 := Lib.hid (G_0.out.below hb)
    have L_1 := Lib.hid (L_0.out.below hb)
    have U_1 := Lib.hid (U_0.out.below hb)
    clear hb gG0 gG1 gG2
    obtain ⟨gG0, gG1, gG2⟩ := G_1.out
    go_wp2
    go_ret
    exact ⟨rfl, HB_1.out⟩
  have K1 := Lib.hid (show kiB P Q G ds = true from h1)
  cases h2 : (av.all fun a => shsB Q a)
  · have K2 := Lib.hid (show (av.all fun a => shsB Q a) = false from h2)
    have E1 := Lib.hid (show kaB P Q G ds av = false by unfold kaB; rw [h2]; simp)
    rw [E1.out]
    clear h0 h1 h2
    obtain ⟨gG0, gG1, gG2⟩ := G_0.out
    go_enter Try.func67, Try.ntmps67
    go_wp2_with fail
    refine (isKeyGenInput_any P Q G hl hr L_0.out).mono ?_
    rw [K1.out]
    rintro e v1 ⟨rfl, hb⟩
    have HB_1 := Lib.hid (bt HB_0.out hb)
    have G_1 := Lib.hid (G_0.out.below hb)
    have L_1 := Lib.hid (L_0.out.below hb)
    have U_1 := Lib.hid (U_0.out.below hb)
    clear hb gG0 gG1 gG2
    obtain ⟨gG0, gG1, gG2⟩ := G_1.out
    go_wp2_with fail
    refine (allShares_any P Q G hl2 hr2 U_1.out).mono ?_
    rw [K2.out]
    rintro e v2 ⟨rfl, hb⟩
    have HB_2 := Lib.hid (bt HB_1.out hb)
    have G_2 := Lib.hid (G_1.out.below hb)
    have L_2 := Lib.hid (L_1.out.below hb)
    have U_2 := Lib.hid (U_1.out.below hb)
    clear hb gG0 gG1 gG2
    obtain ⟨gG0, gG1, gG2⟩ := G_2.out
    go_wp2
    go_ret
    exact ⟨rfl, HB_2.out⟩
  have K2 := Lib.hid (show (av.all fun a => shsB Q a) = true from h2)
  have E1 := Lib.hid (show kaB P Q G ds av = true by unfold kaB; rw [h1, h2, decide_eq_true h0]; rfl)
  rw [E1.out]
  clear h0 h1 h2
  obtain ⟨gG0, gG1, gG2⟩ := G_0.out
  go_enter Try.func67, Try.ntmps67
  go_wp2_with fail
  refine (isKeyGenInput_any P Q G hl hr L_0.out).mono ?_
  rw [K1.out]
  rintro e v1 ⟨rfl, hb⟩
  have HB_1 := Lib.hid (bt HB_0.out hb)
  have G_1 := Lib.hid (G_0.out.below hb)
  have L_1 := Lib.hid (L_0.out.below hb)
  have U_1 := Lib.hid (U_0.out.below hb)
  clear hb gG0 gG1 gG2
  obtain ⟨gG0, gG1, gG2⟩ := G_1.out
  go_wp2_with fail
  refine (allShares_any P Q G hl2 hr2 U_1.out).mono ?_
  rw [K2.out]
  rintro e v2 ⟨rfl, hb⟩
  have HB_2 := Lib.hid (bt HB_1.out hb)
  have G_2 := Lib.hid (G_1.out.below hb)
  have L_2 := Lib.hid (L_1.out.below hb)
  have U_2 := Lib.hid (U_1.out.below hb)
  clear hb gG0 gG1 gG2
  obtain ⟨gG0, gG1, gG2⟩ := G_2.out
  go_wp2
  go_ret
  exact ⟨rfl, HB_2.out⟩

def Xr (v1 v2 : Value) (b : Nat) : Prop := v1.ownBlock = some b ∨ v2.ownBlock = some b
def AnsT (w : World) (q : List Int) (ds : List DlD) (e : Ending) (w' : World) : Prop := ∃ v1 v2, e = .returned (.tuple #[v1, v2]) ∧ OwI w.heap.size w'.heap.size w' v1 q ∧ InDs w'.heap.size w' v2 ds ∧ Below w.heap.size w w'
theorem mem_drop9 {l : List Int} {k : Nat} {x : Int} (h : l.drop k = x :: l.drop (k + 1)) : x ∈ l := List.mem_of_mem_drop (i := k) (by rw [h]; simp)

theorem bs_bad {P Q G : Int} {d : DlD} (h : ivB P Q G d.c d.s = true) : bsR P Q G d.c d.s = badL P Q G d := bs_on h
theorem owI_set {Q M g n cap : Nat} {w : World} {zs : List Int} (h : OwI Q M w (.slice (some ⟨g, 0, none⟩) n cap) zs) (j : Nat) (z : Int) : OwI Q M (w.setCell ⟨g, j, none⟩ (.int .i64 z)) (.slice (some ⟨g, 0, none⟩) n cap) (zs.set j z) := by
  obtain rfl := owI_eq h
  obtain ⟨h1, h2, h3, h4⟩ := h
  refine ⟨?_, h2, by simpa using h3, h4⟩
  show World.ownsRow _ _ _ _ _ _ _
  rw [List.length_set]
  exact own_set h1 z
set_option maxRecDepth 100000 in
set_option maxHeartbeats 6400000 in
theorem settle_any (P Q G : Int) {B : Nat} {v : Value} {ds : List DlD} (hl : ds.length ≤ 1048576) (hr : nDs ds ≤ 1048576) {B2 : Nat} {u : Value} {av : List (List Int)} (hl2 : av.length ≤ 1048576) (hr2 : nS av ≤ 1048576) {w : World} (hz : InDs B w v ds) (hu : InS B2 w u av) (hk : kaB P Q G ds av = true) :
    Calls Try.prog 68 #[gv P Q G, v, u] w (AnsT w (quL P Q G ds av ds.length) (qdL P Q G ds av ds.length)) := by
  obtain ⟨la, lc, rfl⟩ := hz.shape
  obtain ⟨ua, uc, rfl⟩ := hu.shape
  have hmf : ∀ (fn : Fn) (first cap : Array Value) (w : World), (Instr.makeFunc fn first cap).run Try.prog w = .ok (.func fn first cap) w := fun _ _ _ _ => rfl
  have G_0 := Lib.hid (gr_atS w w.heap.size rfl P Q G 24)
  have HB_0 := Lib.hid (show Below w.heap.size w (w.alloc (.cells #[.int .i64 P, .int .i64 Q, .int .i64 G] 24)) from ba _ _)
  have L_0 := Lib.hid (hz.below HB_0.out)
  have U_0 := Lib.hid (hu.below HB_0.out)
  clear hz hu
  obtain ⟨hki, hal0, has0⟩ := ka_facts hk
  obtain ⟨htr, ⟨hd1, hd7⟩, hdd⟩ := ki_facts hki
  have HGD := Lib.hid (trB_of htr).1
  have HDD := Lib.hid hdd
  have HAL := Lib.hid hal0
  have HAS := Lib.hid has0
  clear hki hal0 has0 htr hdd hk
  obtain ⟨i0, hi0, hy0, hy1, hy2⟩ := info_parts Try.info3
  obtain ⟨i1, hj0, hw0, hw1, hw2⟩ := info_parts Try.infoDD
  have hBL := L_0.out.le
  have hBU := U_0.out.le
  obtain ⟨v0, hv0⟩ : ∃ W, w.alloc (.cells #[.int .i64 P, .int .i64 Q, .int .i64 G] 24) = W := ⟨_, rfl⟩
  rw [hv0] at G_0 HB_0 L_0 U_0 hBL hBU
  go_enter Try.func68, Try.ntmps68
  go_wp2
  go_step3
  go_wp2
  go_step3
  go_wp2
  clear hv0
  go_loopg [8, 9, 10, 11, 12, 13, 14, 15, 16, 17, 20, 52] ds.length (fun gk V S _ _ _ _ _ _ _ _ K _ wr => ∃ (k m : Nat) (va : Option Addr) (vc : Nat) (vb : Option Addr) (vd : Nat) (vs : List Value), gk + k = ds.length ∧ k ≤ ds.length ∧ (quL P Q G ds av k).length = m ∧ V = .slice va m vc ∧ S = .slice vb m vd ∧ K = .int .i64 k ∧ wr.ownsRow v0.heap.size 3 1 (.slice va m vc) m ((quL P Q G ds av k).map (Value.int .i64)) ∧ wr.ownsRow v0.heap.size 42 2 (.slice vb m vd) m vs ∧ ElX (Xr (.slice va m vc) (.slice vb m vd)) wr vs (qdL P Q G ds av k) ∧ Below v0.heap.size v0 wr)
  case atStart => exact ⟨0, 0, none, 0, none, 0, [], by omega, Nat.zero_le _, rfl, rfl, rfl, rfl, World.ownsRow_nil _ _ _ _, World.ownsRow_nil _ _ _ _, (fun i d hd => by simp [qdL] at hd), Below.refl _ _⟩
  case round =>
    obtain ⟨k, m, va, vc, vb, vd, vs, hgk, hk, hm, rfl, rfl, rfl, hrv, hrs, hel, hbel⟩ := hrel
    have HGK := Lib.hid hgk
    have HM := Lib.hid hm
    have hmk : m ≤ k := by rw [← hm]; exact (quL_length P Q G ds av k).2
    clear hgk hm
    by_cases hkn : k < ds.length
    · generalize wr = wq at *
      obtain ⟨b, off, x, y, d, rfl, hb, hx, hy, hi, hj, hd⟩ := L_0.out.at (k := k) hkn
      obtain ⟨p1, p2, rfl⟩ := hi.shape
      obtain ⟨r1, r2, rfl⟩ := hj.shape
      have hku : k < av.length := by have := HAL.out; omega
      obtain ⟨bu, ou, o1, o2, own, rfl, hbu, hox, hoi, hod⟩ := U_0.out.at (k := k) hku
      have hx9 := (hbel.cell (p := ⟨b, off + k * 2, none⟩) hb).trans hx
      have hy9 := (hbel.cell (p := ⟨b, off + k * 2 + 1, none⟩) hb).trans hy
      have hdn : d.c.length + d.s.length ≤ 1048576 := by
        have := nDs_drop ds k
        rw [hd, nDs_cons] at this
        unfold DlD.n at this
        omega
      have hdm : d ∈ ds := List.mem_of_mem_drop (i := k) (by rw [hd]; simp)
      have hiv := (HDD.out d hdm).1
      obtain ⟨hg9, hq9, hce, hc7, hs7, hsr⟩ := ivB_facts hiv
      obtain ⟨ho7, hor⟩ := HAS.out own (List.mem_of_mem_drop (i := k) (by rw [hod]; simp))
      have HD := Lib.hid (show ds.getD k nilD = d from getD_drop hd)
      have HO9 := Lib.hid (show av.getD k [] = own from getD_drop hod)
      have HIV := Lib.hid hiv
      have HCE := Lib.hid hce
      have HSR := Lib.hid hsr
      have HOR := Lib.hid hor
      have HCI := Lib.hid hi
      have HSI := Lib.hid hj
      have HOI := Lib.hid hoi
      have HOX := Lib.hid hox
      have ha0 := ba wq (.cells #[.slice p1 d.c.length p2, .slice r1 d.s.length r2] 42)
      have HB_x := Lib.hid (bt hbel ha0)
      have D_x := Lib.hid (v2_at wq wq.heap.size rfl (.slice p1 d.c.length p2) (.slice r1 d.s.length r2) 42)
      have HV_x := Lib.hid (own_below hrv ha0)
      have HS_x := Lib.hid (own_below hrs ha0)
      have HE_x := Lib.hid (hel.below ha0)
      have HXV := Lib.hid (show ∀ b, Xr (.slice va m vc) (.slice vb m vd) b → v0.heap.size ≤ b ∧ b < wq.heap.size from fun b hb => hb.elim (fun h => hrv.lt b h) (fun h => hrs.lt b h))
      obtain ⟨gG0, gG1, gG2⟩ := G_0.out.below HB_x.out
      clear hiv hg9 hce hsr hor ha0 hi hj hd hod hrv hrs hel hbel hoi hox hx hy hdm
      go_wp2_with fail
      refine (badShares_any P Q G p1 r1 p2 r2 d.c d.s (by omega) (by omega) (inI_ints (HCI.out.below HB_x.out)) (inI_ints (HSI.out.below HB_x.out))).mono ?_
      rw [HIV.out, bs_bad HIV.out]
      rintro e w2 ⟨bv, rfl, hob, hb2⟩
      have HBR := Lib.hid (fun z (hz : z ∈ badL P Q G d) => badL_range hz)
      have hbl7 := badL_le P Q G d
      have HMD := Lib.hid (mdB_true (P := P) (Q := Q) (G := G) (d := d) (own := own))
      have HMV := Lib.hid (show mdV P Q G d own = ⟨d.c, putL d.s (badL P Q G d) own⟩ from rfl)
      generalize badL P Q G d = bad at *
      obtain ⟨ba1, bc1, rfl⟩ := own_shape hob.1
      have HB_2 := Lib.hid (bt HB_x.out hb2)
      have D_2 := Lib.hid (D_x.out.below hb2)
      have BD_2 := Lib.hid hob.toIn
      have HV_2 := Lib.hid (own_below HV_x.out hb2)
      have HS_2 := Lib.hid (own_below HS_x.out hb2)
      have HE_2 := Lib.hid (HE_x.out.below hb2)
      have hwq : wq.heap.size + 1 ≤ w2.heap.size := by have := hb2.size; simpa using this
      obtain ⟨e0, e1, _⟩ := D_2.out
      have hu9 := (HB_2.out.cell (p := ⟨bu, ou + k, none⟩) hbu).trans HOX.out
      clear hob hb2 gG0 gG1 gG2 hx9 hy9 HB_x D_x HV_x HS_x HE_x
      by_cases hA : d.c.length ≤ bad.length
      · have hmd : mdB P Q G d own = false := by rw [← Bool.not_eq_true, HMD.out]; omega
        have HQ := Lib.hid (qu_off HD.out HO9.out hmd)
        clear hmd
        go_wp2
        go_roundg (ds.length - (k + 1))
        case measure => have := HGK.out; omega
        case rel => exact ⟨k + 1, m, va, vc, vb, vd, vs, by omega, by omega, by rw [HQ.out.1]; exact HM.out, rfl, rfl, by go_num, by rw [HQ.out.1]; exact HV_2.out, HS_2.out, by rw [HQ.out.2]; exact HE_2.out, HB_2.out⟩
      by_cases hBn : own.length = bad.length
      case neg =>
        have hmd : mdB P Q G d own = false := by rw [← Bool.not_eq_true, HMD.out]; omega
        have HQ := Lib.hid (qu_off HD.out HO9.out hmd)
        have hne : ((bad.length : Int) != (own.length : Int)) = true := neq_len (fun h => hBn h.symm)
        clear hmd hBn
        go_wp2
        go_roundg (ds.length - (k + 1))
        case measure => have := HGK.out; omega
        case rel => exact ⟨k + 1, m, va, vc, vb, vd, vs, by omega, by omega, by rw [HQ.out.1]; exact HM.out, rfl, rfl, by go_num, by rw [HQ.out.1]; exact HV_2.out, HS_2.out, by rw [HQ.out.2]; exact HE_2.out, HB_2.out⟩
      have hne : ((bad.length : Int) != (own.length : Int)) = false := eq_len hBn.symm
      have HBN := Lib.hid hBn
      clear hBn
      go_wp2_with fail
      refine (cloneD_any r1 d.s.length r2 d.s rfl (by omega) (inI_nilc HSI.out) _ (inI_ints (HSI.out.below HB_2.out))).mono ?_
      rintro e w3 ⟨sv, rfl, hos, hb3⟩
      obtain ⟨sa, sc, rfl⟩ := own_shape hos.1
      have HS0 := Lib.hid hos
      have HB30 := Lib.hid hb3
      clear hos hb3 e0 e1 hu9
      go_wp2_with fail
      go_loopg [15, 16, 17, 52] bad.length (fun gi _ _ _ J wr => ∃ (j : Nat) (cur : List Int), gi + j = bad.length ∧ j ≤ bad.length ∧ J = .int .i64 j ∧ fitsL P Q G d.c bad own = fitsL P Q G d.c (bad.drop j) (own.drop j) ∧ putL d.s bad own = putL cur (bad.drop j) (own.drop j) ∧ cur.length = d.s.length ∧ OwI w2.heap.size w3.heap.size wr (.slice sa d.s.length sc) cur ∧ Below w2.heap.size w2 wr)
      case atStart => exact ⟨0, d.s, by omega, Nat.zero_le _, rfl, by simp, by simp, rfl, HS0.out, HB30.out⟩
      case round =>
        obtain ⟨j, cur, hgj, hj9, rfl, hfl, hpl, hcl, hos, hb4⟩ := hrel
        have HGJ := Lib.hid hgj
        have HCL := Lib.hid hcl
        have HB_4 := Lib.hid (bt HB_2.out hb4)
        have D_4 := Lib.hid (D_2.out.below hb4)
        have HV_4 := Lib.hid (own_below HV_2.out hb4)
        have HS_4 := Lib.hid (own_below HS_2.out hb4)
        have HE_4 := Lib.hid (HE_2.out.below hb4)
        have HOS := Lib.hid hos
        have HFL := Lib.hid hfl
        have HPL := Lib.hid hpl
        have HB4 := Lib.hid hb4
        have hw24 := hb4.size
        obtain ⟨e0, e1, _⟩ := D_4.out
        have hu9 := (HB_4.out.cell (p := ⟨bu, ou + k, none⟩) hbu).trans HOX.out
        clear hgj hcl hfl hpl hos hb4
        by_cases hjn : j < bad.length
        · obtain ⟨bb, bo, i, rfl, hbb, hbx, hbd⟩ := (show IsInts wr ba1 bad from inI_ints (BD_2.out.below HB4.out)).at (k := j) hjn
          obtain ⟨hi1, hi2⟩ := HBR.out i (mem_drop hbd)
          obtain ⟨i0, rfl⟩ : ∃ i0 : Nat, i = (i0 : Int) + 1 := ⟨(i - 1).toNat, by omega⟩
          have hjo : j < own.length := by have := HBN.out; omega
          obtain ⟨ob, oo, x, rfl, hob, hoxx, hoxd⟩ := (show IsInts wr o1 own from inI_ints (HOI.out.below HB_4.out)).at (k := j) hjo
          obtain ⟨hx0, hx1⟩ := HOR.out x (mem_drop hoxd)
          have HFS := Lib.hid (fits_step (P := P) (Q := Q) (G := G) (cs := d.c) hbd hoxd)
          have HPS := Lib.hid (put_step (cur := cur) hbd hoxd)
          have hw1 : IntKind.i64.wrap ((i0 : Int) + 1 - 1) = (i0 : Int) := by rw [IntKind.wrap_i64]; omega
          have hw2 : IntKind.i64.wrap (i0 : Int) = (i0 : Int) := by rw [IntKind.wrap_i64]; omega
          have hi0 : i0 < d.s.length := by omega
          obtain ⟨gG0, gG1, gG2⟩ := G_0.out.below HB_4.out
          clear hbd hoxd
          cases hf : fitB P Q G d.c ((i0 : Int) + 1) x
          · have HF := Lib.hid hf
            have hmd : mdB P Q G d own = false := by
              rw [← Bool.not_eq_true, HMD.out, HFL.out, HFS.out, hf]; simp
            have HQ := Lib.hid (qu_off HD.out HO9.out hmd)
            clear hf hmd
            go_wp2_with fail
            refine (isShare_any P Q G ((i0 : Int) + 1) x HGD.out (by omega) (by omega) ⟨hx0, hx1⟩ p1 d.c.length p2 d.c rfl (by omega) HCE.out _ (inI_ints (HCI.out.below HB_4.out))).mono ?_
            rw [HF.out]
            rintro e w5 ⟨rfl, hb5⟩
            have HB_5 := Lib.hid (bt HB_4.out hb5)
            have HV_5 := Lib.hid (own_below HV_4.out hb5)
            have HS_5 := Lib.hid (own_below HS_4.out hb5)
            have HE_5 := Lib.hid (HE_4.out.below hb5)
            clear hb5 gG0 gG1 gG2
            go_wp2
            go_roundg (ds.length - (k + 1))
            case measure => have := HGK.out; omega
            case rel => exact ⟨k + 1, m, va, vc, vb, vd, vs, by omega, by omega, by rw [HQ.out.1]; exact HM.out, rfl, rfl, by go_num, by rw [HQ.out.1]; exact HV_5.out, HS_5.out, by rw [HQ.out.2]; exact HE_5.out, HB_5.out⟩
          · have HF := Lib.hid hf
            clear hf
            go_wp2_with fail
            refine (isShare_any P Q G ((i0 : Int) + 1) x HGD.out (by omega) (by omega) ⟨hx0, hx1⟩ p1 d.c.length p2 d.c rfl (by omega) HCE.out _ (inI_ints (HCI.out.below HB_4.out))).mono ?_
            rw [HF.out]
            rintro e w5 ⟨rfl, hb5⟩
            obtain ⟨g, rfl⟩ := owI_some HOS.out (by have := HCL.out; omega)
            have hos5 := HOS.out.below hb5
            obtain ⟨hcu, hfu⟩ := owI_at hos5 (List.getElem?_eq_getElem (show i0 < cur.length by have := HCL.out; omega))
            have HO6 := Lib.hid (owI_set hos5 i0 x)
            have HB6 := Lib.hid ((bt HB4.out hb5).setCell (p := ⟨g, i0, none⟩) (show w2.heap.size ≤ g from (owI_blk hos5).1) (.int .i64 x))
            clear hb5 hos5 gG0 gG1 gG2 e0 e1 hu9
            go_wp2
            go_roundg (bad.length - (j + 1))
            case measure => have := HGJ.out; omega
            case rel => exact ⟨j + 1, cur.set i0 x, by omega, by omega, by go_num, by rw [HFL.out, HFS.out, HF.out, Bool.true_and], by rw [HPL.out, HPS.out]; congr 2; omega, by rw [List.length_set]; exact HCL.out, HO6.out, HB6.out⟩
        · have hfit : fitsL P Q G d.c bad own = true := by rw [HFL.out]; exact fits_end (by omega)
          have hmd : mdB P Q G d own = true := HMD.out.2 ⟨by omega, HBN.out, hfit⟩
          have HQ := Lib.hid (qu_on HD.out HO9.out hmd)
          have HME := Lib.hid (show mdV P Q G d own = ⟨d.c, cur⟩ by rw [HMV.out, HPL.out, put_end (by omega)])
          have hCX := InX.of (X := Xr (.slice va m vc) (.slice vb m vd)) (HCI.out.below HB_4.out) (fun b hb => by have := (HXV.out b hb).1; omega)
          have hSX := InX.ofOw (X := Xr (.slice va m vc) (.slice vb m vd)) HOS.out (fun b hb => .inl (by have := (HXV.out b hb).2; omega))
          have hvl : vs.length = (qdL P Q G ds av k).length * 2 := by have h1 := HS_4.out.1; have h2 := (quL_length P Q G ds av k).1; have h3 := HM.out; omega
          have hE4 := HE_4.out.snoc hvl (d := ⟨d.c, cur⟩) hCX hSX
          have ha1 := ba wr (.cells #[.int .i64 ((k : Int) + 1)] 3)
          have HV_l := Lib.hid (own_below HV_4.out ha1)
          have HS_l := Lib.hid (own_below HS_4.out ha1)
          have HE_l := Lib.hid (hE4.below ha1)
          have HB_l := Lib.hid (bt HB_4.out ha1)
          have D_l := Lib.hid (D_4.out.below ha1)
          have hxk : IntKind.i64.wrap ((k : Int) + 1) = (k : Int) + 1 := by rw [IntKind.wrap_i64]; omega
          have hwr3 : wq.heap.size + 1 ≤ wr.heap.size := by omega
          clear hfit hmd hCX hSX hvl hE4 ha1 e0 e1 hu9
          go_wp2_with (first
            | (at_builtin
               refine wpList_append_lies _ rfl _ _ 25 rfl v0.heap.size 42 i1 (.agg #[.slice none 0 0, .slice none 0 0]) 2 48 Try.underlying25 hj0 hw0 hw1 hw2 rfl (by decide) _ _ _ rfl HS_m.out ⟨w6.heap.size, 0, none⟩ 1 1 [.slice p1 d.c.length p2, .slice sa d.s.length sc] rfl rfl (pair_new _ _ _ _) (by intro u hu; simp at hu; rcases hu with rfl | rfl <;> rfl) (by decide) (by unfold maxLen; omega) (by omega) HB_m.out.size (w6.heap.size + 1) (by simp) ?_
               intro g8 c8 w8 hown8 hgr8 hli8 hlt8
               have HV_8 := Lib.hid (rows_kept HS_m.out HV_m.out (by decide) hgr8)
               have HS_8 := Lib.hid hown8
               have HE_8 := Lib.hid (HE_m.out.grown (X' := Xr (.slice (some ⟨g6, 0, none⟩) (m + 1) c6) (.slice (some ⟨g8, 0, none⟩) (m + 1) c8)) hgr8 (fun k hk => .inr hk) (fun k hk => hk.elim (fun h => .inl (.inl h)) (fun h => by
                 have e : g8 = k := by simpa [Value.ownBlock] using h
                 subst e
                 exact hli8.elim (fun h => .inl (.inr h)) (fun h => .inr (by rw [h]; simp)))))
               have HB_8 := Lib.hid (HB_m.out.grown hgr8 HB_m.out.size (fun q hq => (HS_m.out.lt q hq).1))
               clear hown8 hgr8 hli8 hlt8)
            | (at_builtin
               refine wpList_append_lies _ rfl _ _ 29 rfl v0.heap.size 3 i0 (.int .i64 0) 1 8 Try.underlying29 hi0 hy0 hy1 hy2 rfl (by decide) _ _ _ rfl HV_l.out ⟨wr.heap.size, 0, none⟩ 1 1 [.int .i64 ((k : Int) + 1)] rfl rfl (cell_one_new _ _ _) (ints_oneCell .i64 [(k : Int) + 1]) (by decide) (by unfold maxLen; omega) (by omega) HB_l.out.size (wr.heap.size + 1) (by simp) ?_
               intro g6 c6 w6 hown6 hgr6 hli6 hlt6
               have HV_6 := Lib.hid (show w6.ownsRow v0.heap.size 3 1 (.slice (some ⟨g6, 0, none⟩) (m + 1) c6) (m + 1) ((quL P Q G ds av k ++ [(k : Int) + 1]).map (Value.int .i64)) by rw [List.map_append]; exact hown6)
               have hS6 := rows_kept HV_l.out HS_l.out (by decide) hgr6
               have hE6 := HE_l.out.grown (X' := Xr (.slice (some ⟨g6, 0, none⟩) (m + 1) c6) (.slice vb m vd)) hgr6 (fun k hk => .inl hk) (fun k hk => hk.elim (fun h => by
                 have e : g6 = k := by simpa [Value.ownBlock] using h
                 subst e
                 exact hli6.elim (fun h => .inl (.inl h)) (fun h => .inr (by rw [h]; simp))) (fun h => .inl (.inr h)))
               have hB6 := HB_l.out.grown hgr6 HB_l.out.size (fun q hq => (HV_l.out.lt q hq).1)
               have e0 := (hgr6.cell_far ⟨wq.heap.size, 0, none⟩ (by simp; omega) (fun e => by have := (HXV.out wq.heap.size (.inl e.symm)).2; omega)).trans D_l.out.1
               have ha2 := ba w6 (.cells #[.slice p1 d.c.length p2, .slice sa d.s.length sc] 42)
               have HV_m := Lib.hid (own_below HV_6.out ha2)
               have HS_m := Lib.hid (own_below hS6 ha2)
               have HE_m := Lib.hid (hE6.below ha2)
               have HB_m := Lib.hid (bt hB6 ha2)
               clear hown6 hgr6 hli6 hlt6 hS6 hE6 hB6 ha2))
          go_roundg (ds.length - (k + 1))
          case measure => have := HGK.out; omega
          case rel => exact ⟨k + 1, m + 1, some ⟨g6, 0, none⟩, c6, some ⟨g8, 0, none⟩, c8, vs ++ [.slice p1 d.c.length p2, .slice sa d.s.length sc], by omega, by omega, by rw [HQ.out.1, List.length_append, HM.out]; rfl, rfl, rfl, by go_num, by rw [HQ.out.1]; exact HV_8.out, HS_8.out, by rw [HQ.out.2, HME.out]; exact HE_8.out, HB_8.out⟩
    · obtain rfl : k = ds.length := by omega
      have HRV := Lib.hid hrv
      have HRS := Lib.hid hrs
      have HEL := Lib.hid hel
      have HBE := Lib.hid hbel
      clear hrv hrs hel hbel
      go_wp2
      (try rw [Exit.noGoto_ret])
      go_ret2
      exact ⟨_, _, rfl, (owI_mk HRV.out HBE.out.size).wide HB_0.out.size (Nat.le_refl _) (Nat.le_refl _), inDs_of_row HRS.out (by have := (quL_length P Q G ds av ds.length).1; have := HM.out; omega) HEL.out, bt HB_0.out HBE.out⟩

end Go.Proofs.Ytchlnkdlnfjijaa

/- Chapter 12: QualifiedIn of the program; answers and mended dealings of the reference. -/
namespace Go.Proofs.Ytchlnkdlnfjijaa
open Go.RowKit
set_option linter.unusedVariables false
set_option linter.unusedSimpArgs false

def qaR (P Q G : Int) (ds : List DlD) (av : List (List Int)) : List Int := if kaB P Q G ds av then quL P Q G ds av ds.length else []
theorem qaR_off {P Q G : Int} {ds : List DlD} {av : List (List Int)} (h : kaB P Q G ds av = false) : qaR P Q G ds av = [] := by simp [qaR, h]
theorem qaR_on {P Q G : Int} {ds : List DlD} {av : List (List Int)} (h : kaB P Q G ds av = true) : qaR P Q G ds av = quL P Q G ds av ds.length := by simp [qaR, h]
theorem qaR_bound (P Q G : Int) (ds : List DlD) (av : List (List Int)) : (qaR P Q G ds av).length ≤ 7 := by
  cases h : kaB P Q G ds av
  · simp [qaR_off h]
  · rw [qaR_on h]
    have h1 := (quL_length P Q G ds av ds.length).2
    have h2 := (ki_facts (ka_facts h).1).2.1.2
    omega

set_option maxRecDepth 100000 in
set_option maxHeartbeats 3200000 in
theorem qualifiedIn_any (P Q G : Int) {B : Nat} {v : Value} {ds : List DlD} (hl : ds.length ≤ 1048576) (hr : nDs ds ≤ 1048576) {B2 : Nat} {u : Value} {av : List (List Int)} (hl2 : av.length ≤ 1048576) (hr2 : nS av ≤ 1048576) {w : World} (hz : InDs B w v ds) (hu : InS B2 w u av) :
    Calls Try.prog 21 #[gv P Q G, v, u] w (AnsY w (qaR P Q G ds av) (kaB P Q G ds av)) := by
  obtain ⟨la, lc, rfl⟩ := hz.shape
  obtain ⟨ua, uc, rfl⟩ := hu.shape
  have hmf : ∀ (fn : Fn) (first cap : Array Value) (w : World), (Instr.makeFunc fn first cap).run Try.prog w = .ok (.func fn first cap) w := fun _ _ _ _ => rfl
  have G_0 := Lib.hid (gr_atS w w.heap.size rfl P Q G 24)
  have HB_0 := Lib.hid (show Below w.heap.size w (w.alloc (.cells #[.int .i64 P, .int .i64 Q, .int .i64 G] 24)) from ba _ _)
  have L_0 := Lib.hid (hz.below HB_0.out)
  have U_0 := Lib.hid (hu.below HB_0.out)
  clear hz hu
  cases h0 : kaB P Q G ds av
  · have K0 := Lib.hid (show kaB P Q G ds av = false from h0)
    have E1 := Lib.hid h0
    rw [qaR_off E1.out]
    clear h0
    obtain ⟨gG0, gG1, gG2⟩ := G_0.out
    go_enter Try.func21, Try.ntmps21
    go_wp2_with fail
    refine (areAnswered_any P Q G hl hr hl2 hr2 L_0.out U_0.out).mono ?_
    rw [K0.out]
    rintro e v1 ⟨rfl, hb⟩
    have HB_1 := Lib.hid (bt HB_0.out hb)
    have G_1 := Lib.hid (G_0.out.below hb)
    have L_1 := Lib.hid (L_0.out.below hb)
    have U_1 := Lib.hid (U_0.out.below hb)
    clear hb gG0 gG1 gG2
    obtain ⟨gG0, gG1, gG2⟩ := G_1.out
    go_wp2
    go_ret2
    exact ⟨_, rfl, owI_nil _ _ HB_1.out.size, HB_1.out⟩
  have K0 := Lib.hid (show kaB P Q G ds av = true from h0)
  have E1 := Lib.hid h0
  rw [qaR_on E1.out]
  clear h0
  obtain ⟨gG0, gG1, gG2⟩ := G_0.out
  go_enter Try.func21, Try.ntmps21
  go_wp2_with fail
  refine (areAnswered_any P Q G hl hr hl2 hr2 L_0.out U_0.out).mono ?_
  rw [K0.out]
  rintro e v1 ⟨rfl, hb⟩
  have HB_1 := Lib.hid (bt HB_0.out hb)
  have G_1 := Lib.hid (G_0.out.below hb)
  have L_1 := Lib.hid (L_0.out.below hb)
  have U_1 := Lib.hid (U_0.out.below hb)
  clear hb gG0 gG1 gG2
  obtain ⟨gG0, gG1, gG2⟩ := G_1.out
  go_wp2_with fail
  refine (settle_any P Q G hl hr hl2 hr2 L_1.out U_1.out E1.out).mono ?_
  rintro e w4 ⟨q1, q2, rfl, ho, hi, hb4⟩
  have HO4 := Lib.hid ho
  have HB4 := Lib.hid (bt HB_1.out hb4)
  have HBS := Lib.hid HB_1.out.size
  clear ho hi hb4 gG0 gG1 gG2
  go_wp2
  go_ret2
  exact ⟨_, rfl, HO4.out.wide HBS.out (Nat.le_refl _) (Nat.le_refl _), HB4.out⟩

set_option maxRecDepth 100000 in
set_option maxHeartbeats 3200000 in
theorem kgAnswers_any (P Q G : Int) {B : Nat} {v : Value} {ds : List DlD} (hl : ds.length ≤ 1048576) (hr : nDs ds ≤ 1048576) {B2 : Nat} {u : Value} {av : List (List Int)} (hl2 : av.length ≤ 1048576) (hr2 : nS av ≤ 1048576) {w : World} (hz : InDs B w v ds) (hu : InS B2 w u av) :
    Calls Try.prog 69 #[gv P Q G, v, u] w fun e w' => e = .returned (.bool (kaB P Q G ds av)) ∧ Below w.heap.size w w' := by
  obtain ⟨la, lc, rfl⟩ := hz.shape
  obtain ⟨ua, uc, rfl⟩ := hu.shape
  have hmf : ∀ (fn : Fn) (first cap : Array Value) (w : World), (Instr.makeFunc fn first cap).run Try.prog w = .ok (.func fn first cap) w := fun _ _ _ _ => rfl
  have G_0 := Lib.hid (gr_atS w w.heap.size rfl P Q G 24)
  have HB_0 := Lib.hid (show Below w.heap.size w (w.alloc (.cells #[.int .i64 P, .int .i64 Q, .int .i64 G] 24)) from ba _ _)
  have L_0 := Lib.hid (hz.below HB_0.out)
  have U_0 := Lib.hid (hu.below HB_0.out)
  clear hz hu
  cases h0 : kiB P Q G ds
  · have K0 := Lib.hid (show kiB P Q G ds = false from h0)
    have E1 := Lib.hid (show kaB P Q G ds av = false by simp [kaB, h0])
    rw [E1.out]
    clear h0
    obtain ⟨gG0, gG1, gG2⟩ := G_0.out
    go_enter Try.func69, Try.ntmps69
    go_wp2_with fail
    refine (kgInput_any P Q G hl hr L_0.out).mono ?_
    rw [K0.out]
    rintro e v1 ⟨rfl, hb⟩
    have HB_1 := Lib.hid (bt HB_0.out hb)
    have G_1 := Lib.hid (G_0.out.below hb)
    have L_1 := Lib.hid (L_0.out.below hb)
    have U_1 := Lib.hid (U_0.out.below hb)
    clear hb gG0 gG1 gG2
    obtain ⟨gG0, gG1, gG2⟩ := G_1.out
    go_wp2
    go_ret
    exact ⟨rfl, HB_1.out⟩
  have K0 := Lib.hid (show kiB P Q G ds = true from h0)
  by_cases h1 : ¬ (av.length = ds.length)
  · have B1 : ((av.length : Int) != (ds.length : Int)) = true := by exact neq_len h1
    have E1 := Lib.hid (show kaB P Q G ds av = false by simp [kaB, h1])
    rw [E1.out]
    clear h0 h1
    obtain ⟨gG0, gG1, gG2⟩ := G_0.out
    go_enter Try.func69, Try.ntmps69
    go_wp2_with fail
    refine (kgInput_any P Q G hl hr L_0.out).mono ?_
    rw [K0.out]
    rintro e v1 ⟨rfl, hb⟩
    have HB_1 := Lib.hid (bt HB_0.out hb)
    have G_1 := Lib.hid (G_0.out.below hb)
    have L_1 := Lib.hid (L_0.out.below hb)
    have U_1 := Lib.hid (U_0.out.below hb)
    clear hb gG0 gG1 gG2
    obtain ⟨gG0, gG1, gG2⟩ := G_1.out
    go_wp2
    go_ret
    exact ⟨rfl, HB_1.out⟩
  replace h1 := Decidable.not_not.1 h1
  have B1 : ((av.length : Int) != (ds.length : Int)) = false := by exact eq_len h1
  have E1 := Lib.hid (show kaB P Q G ds av = (av.all fun a => shsB Q a) by unfold kaB; rw [h0, decide_eq_true h1]; rfl)
  rw [E1.out]
  have hmo := (trB_of (ki_facts h0).1).2.1
  clear h0 h1
  obtain ⟨gG0, gG1, gG2⟩ := G_0.out
  go_enter Try.func69, Try.ntmps69
  go_wp2_with fail
  refine (kgInput_any P Q G hl hr L_0.out).mono ?_
  rw [K0.out]
  rintro e v1 ⟨rfl, hb⟩
  have HB_1 := Lib.hid (bt HB_0.out hb)
  have G_1 := Lib.hid (G_0.out.below hb)
  have L_1 := Lib.hid (L_0.out.below hb)
  have U_1 := Lib.hid (U_0.out.below hb)
  clear hb gG0 gG1 gG2
  obtain ⟨gG0, gG1, gG2⟩ := G_1.out
  clear gG0 gG1 gG2
  go_wp2_with fail
  go_loopw [8, 22] (fun _ K wr => ∃ k : Nat, k ≤ av.length ∧ K = .int .i64 k ∧ av.all (fun a => shsB Q a) = (av.drop k).all (fun a => shsB Q a) ∧ Below v1.heap.size v1 wr) (fun _ K _ => av.length - (intOf K).toNat)
  case atStart => exact ⟨0, Nat.zero_le _, rfl, by simp, Below.refl _ _⟩
  case round =>
    obtain ⟨k, hk, rfl, he, hbel⟩ := hrel
    by_cases hkn : k < av.length
    · obtain ⟨b, off, p1, p2, z, rfl, hb, hx, hi, hd⟩ := (U_1.out.below hbel).at (k := k) hkn
      have HS := Lib.hid (show (shsB Q z = true → av.all (fun a => shsB Q a) = (av.drop (k + 1)).all (fun a => shsB Q a)) ∧ (shsB Q z = false → av.all (fun a => shsB Q a) = false) from by
        rw [hd, List.all_cons] at he
        exact ⟨fun h => by rw [he, h, Bool.true_and], fun h => by rw [he, h, Bool.false_and]⟩)
      have HB := Lib.hid hbel
      have hi2 := Lib.hid hi
      have hzn : z.length ≤ 1048576 := by
        have := nS_drop av k
        rw [hd, nS_cons] at this
        omega
      obtain ⟨gG0, gG1, gG2⟩ := G_1.out.below hbel
      clear he hd hbel hi
      by_cases h7 : z.length ≤ 7
      · have h7i : ¬ ((7 : Int) < (z.length : Int)) := by omega
        have hsz : shsB Q z = allIn z 0 (Q - 1) := by unfold shsB; rw [decide_eq_true h7, Bool.true_and]
        have HSZ := Lib.hid hsz
        clear hsz
        cases hi' : allIn z 0 (Q - 1)
        · have HI := Lib.hid hi'
          clear hi'
          go_wp2_with fail
          refine (gExps_any P Q G hmo.2 p1 z.length p2 z rfl (by omega) _ (inI_ints hi2.out)).mono ?_
          rw [HI.out]
          rintro e w1 ⟨rfl, hb1⟩
          have HB1 := Lib.hid (bt (bt HB_1.out HB.out) hb1)
          clear hb1 gG0 gG1 gG2
          go_wp2
          go_ret
          exact ⟨by rw [HS.out.2 (HSZ.out.trans HI.out)]; rfl, HB1.out⟩
        · have HI := Lib.hid hi'
          clear hi'
          go_wp2_with fail
          refine (gExps_any P Q G hmo.2 p1 z.length p2 z rfl (by omega) _ (inI_ints hi2.out)).mono ?_
          rw [HI.out]
          rintro e w1 ⟨rfl, hb1⟩
          have HB1 := Lib.hid (bt HB.out hb1)
          clear hb1 gG0 gG1 gG2
          go_wp2
          go_roundw
          case rel => exact ⟨k + 1, by omega, by go_num, HS.out.1 (HSZ.out.trans HI.out), HB1.out⟩
          case measure => simp only [intOf]; omega
      · have h7i : (7 : Int) < (z.length : Int) := by omega
        have hsz : shsB Q z = false := by unfold shsB; rw [decide_eq_false h7, Bool.false_and]
        have HSZ := Lib.hid hsz
        clear hsz h7
        go_wp2
        go_ret
        exact ⟨by rw [HS.out.2 HSZ.out]; rfl, bt HB_1.out HB.out⟩
    · have HE := Lib.hid he
      have HB := Lib.hid (bt HB_1.out hbel)
      clear he hbel
      go_wp2
      go_ret
      refine ⟨?_, HB.out⟩
      rw [HE.out, List.drop_of_length_le (by omega)]; rfl

def C0x (w : World) (a : Addr) (z : Int) : Prop := w.cell? a = some (.int .i64 z)
theorem C0x.below {w w' : World} {a : Addr} {z : Int} (h : C0x w a z) (hb : Below w.heap.size w w') : C0x w' a z := (hb.cell (World.block_lt_of_cell? w _ h)).trans h
theorem SumC.put {v w : World} {b Q M N P g n cap : Nat} {x : Value} {cs ys : List Int} (h : SumC v w b Q M N P x (.slice (some ⟨g, 0, none⟩) n cap) ⟨cs, ys⟩) (k : Nat) (z : Int)
    (hMN : M ≤ N) (hb : b < N ∨ P ≤ b) (hv : v.heap.size ≤ Q) : SumC v (w.setCell ⟨g, k, none⟩ (.int .i64 z)) b Q M N P x (.slice (some ⟨g, 0, none⟩) n cap) ⟨cs, ys.set k z⟩ := by
  obtain ⟨h1, h2, h3, h4⟩ := h
  have q1 := h1.2.2.2
  obtain ⟨l1, l2⟩ := owI_blk h2
  have hm := mid_cell w g k (.int .i64 z)
  exact ⟨h1.mid hm (.inl (by omega)), owI_set h2 k z, h3.mid hm (by omega), h4.setCell (p := ⟨g, k, none⟩) (by show v.heap.size ≤ g; omega) _⟩
def AnsM (w : World) (ok : Bool) (d : DlD) (e : Ending) (w' : World) : Prop := ∃ a1 n1 c1 a2 n2 c2, e = .returned (.tuple #[.agg #[.slice a1 n1 c1, .slice a2 n2 c2], .bool ok]) ∧ (ok = true → OwD w.heap.size w'.heap.size w' (.agg #[.slice a1 n1 c1, .slice a2 n2 c2]) d) ∧ Below w.heap.size w w'
set_option maxRecDepth 100000 in
set_option maxHeartbeats 6400000 in
theorem kgMended_any (P Q G : Int) {B B2 : Nat} {v u : Value} {d : DlD} {own : List Int} (hiv : ivB P Q G d.c d.s = true) (ho7 : own.length ≤ 7) (hor : ∀ z ∈ own, 0 ≤ z ∧ z < Q) {w : World} (hd : InD B w v d) (ho : InI B2 w u own) :
    Calls Try.prog 134 #[gv P Q G, v, u] w (AnsM w (mdB P Q G d own) (mdV P Q G d own)) := by
  obtain ⟨p1, p2, r1, r2, rfl, hci, hsi⟩ := hd.shape
  obtain ⟨o1, o2, rfl⟩ := ho.shape
  obtain ⟨hg9, hq9, hce, hc7, hs7, hsr⟩ := ivB_facts hiv
  have HGD := Lib.hid hg9
  have HCE := Lib.hid hce
  have HSR := Lib.hid hsr
  have HOR := Lib.hid hor
  have G_0 := Lib.hid (((gr_atS w w.heap.size rfl P Q G 24).below (ba (w.alloc (.cells #[.int .i64 P, .int .i64 Q, .int .i64 G] 24)) (.cells #[.slice p1 d.c.length p2, .slice r1 d.s.length r2] 42))).below (ba ((w.alloc (.cells #[.int .i64 P, .int .i64 Q, .int .i64 G] 24)).alloc (.cells #[.slice p1 d.c.length p2, .slice r1 d.s.length r2] 42)) (.cells #[.slice none 0 0, .slice none 0 0] 42)))
  have D_0 := Lib.hid ((v2_at (w.alloc (.cells #[.int .i64 P, .int .i64 Q, .int .i64 G] 24)) (w.heap.size + 1) (by simp) (.slice p1 d.c.length p2) (.slice r1 d.s.length r2) 42).below (ba ((w.alloc (.cells #[.int .i64 P, .int .i64 Q, .int .i64 G] 24)).alloc (.cells #[.slice p1 d.c.length p2, .slice r1 d.s.length r2] 42)) (.cells #[.slice none 0 0, .slice none 0 0] 42)))
  have Z_0 := Lib.hid (v2_at ((w.alloc (.cells #[.int .i64 P, .int .i64 Q, .int .i64 G] 24)).alloc (.cells #[.slice p1 d.c.length p2, .slice r1 d.s.length r2] 42)) (w.heap.size + 2) (by simp) (.slice none 0 0) (.slice none 0 0) 42)
  have HB_0 := Lib.hid (show Below w.heap.size w (((w.alloc (.cells #[.int .i64 P, .int .i64 Q, .int .i64 G] 24)).alloc (.cells #[.slice p1 d.c.length p2, .slice r1 d.s.length r2] 42)).alloc (.cells #[.slice none 0 0, .slice none 0 0] 42)) from bt (bt (ba _ _) (ba _ _)) (ba _ _))
  have HS3 : w.heap.size + 3 ≤ (((w.alloc (.cells #[.int .i64 P, .int .i64 Q, .int .i64 G] 24)).alloc (.cells #[.slice p1 d.c.length p2, .slice r1 d.s.length r2] 42)).alloc (.cells #[.slice none 0 0, .slice none 0 0] 42)).heap.size := by simp
  have HCI := Lib.hid hci
  have HSI := Lib.hid hsi
  have HOI := Lib.hid ho
  have hBd := hci.le
  have hdn : d.c.length + d.s.length ≤ 1048576 := by omega
  obtain ⟨v0, hv0⟩ : ∃ W, (((w.alloc (.cells #[.int .i64 P, .int .i64 Q, .int .i64 G] 24)).alloc (.cells #[.slice p1 d.c.length p2, .slice r1 d.s.length r2] 42)).alloc (.cells #[.slice none 0 0, .slice none 0 0] 42)) = W := ⟨_, rfl⟩
  rw [hv0] at G_0 D_0 Z_0 HB_0 HS3
  obtain ⟨gG0, gG1, gG2⟩ := G_0.out
  obtain ⟨e0, e1, _⟩ := D_0.out
  clear hd ho hci hsi hce hsr hor hg9 hiv
  go_enter Try.func134, Try.ntmps134
  go_wp2_with fail
  clear hv0
  refine (sBad_any P Q G HGD.out p1 r1 p2 r2 d.c d.s (by omega) HCE.out hs7 HSR.out (inI_ints (HCI.out.below HB_0.out)) (inI_ints (HSI.out.below HB_0.out))).mono ?_
  rw [show bdL P Q G d.c d.s d.s.length = badL P Q G d from rfl]
  rintro e w2 ⟨bv, rfl, hob, hb2⟩
  have HBR := Lib.hid (fun z (hz : z ∈ badL P Q G d) => badL_range hz)
  have hbl7 := badL_le P Q G d
  have HMD := Lib.hid (mdB_true (P := P) (Q := Q) (G := G) (d := d) (own := own))
  have HMV := Lib.hid (show mdV P Q G d own = ⟨d.c, putL d.s (badL P Q G d) own⟩ from rfl)
  generalize badL P Q G d = bad at *
  obtain ⟨ba1, bc1, rfl⟩ := own_shape hob.1
  have HB_2 := Lib.hid (bt HB_0.out hb2)
  have G_2 := Lib.hid (G_0.out.below hb2)
  have D_2 := Lib.hid (D_0.out.below hb2)
  have Z_2 := Lib.hid (Z_0.out.below hb2)
  have BD_2 := Lib.hid hob.toIn
  have hw2 : w.heap.size + 3 ≤ w2.heap.size := Nat.le_trans HS3 hb2.size
  clear hob hb2 gG0 gG1 gG2 e0 e1
  obtain ⟨e0, e1, _⟩ := D_2.out
  have HZ9 := Z_2
  by_cases hA : d.c.length ≤ bad.length
  · have HMF := Lib.hid (show mdB P Q G d own = false by rw [← Bool.not_eq_true, HMD.out]; omega)
    obtain ⟨y0, y1, yf⟩ := HZ9.out
    have yf0 := yf 0
    have yf1 := yf 1
    clear yf
    go_wp2
    (try simp only [Exit.inBlock, Exit.then])
    refine bodyPost_ret (v := .tuple #[.agg #[.slice p1 d.c.length p2, .slice r1 d.s.length r2], .bool false]) ?_ rfl ?_
    · rw [results_cell_tmp rfl]; go_simp
    · have hm5 := mid_two7 w2 (w.heap.size + 2) (.slice p1 d.c.length p2) (.slice r1 d.s.length r2)
      rw [HMF.out]
      exact ⟨_, _, _, _, _, _, rfl, (fun h => by cases h), HB_2.out.trans (hm5.toBelow (by omega) HB_2.out.size)⟩
  by_cases hBn : own.length = bad.length
  case neg =>
    have HMF := Lib.hid (show mdB P Q G d own = false by rw [← Bool.not_eq_true, HMD.out]; omega)
    have hne : ((own.length : Int) != (bad.length : Int)) = true := neq_len hBn
    clear hBn
    obtain ⟨y0, y1, yf⟩ := HZ9.out
    have yf0 := yf 0
    have yf1 := yf 1
    clear yf
    go_wp2
    (try simp only [Exit.inBlock, Exit.then])
    refine bodyPost_ret (v := .tuple #[.agg #[.slice p1 d.c.length p2, .slice r1 d.s.length r2], .bool false]) ?_ rfl ?_
    · rw [results_cell_tmp rfl]; go_simp
    · have hm5 := mid_two7 w2 (w.heap.size + 2) (.slice p1 d.c.length p2) (.slice r1 d.s.length r2)
      rw [HMF.out]
      exact ⟨_, _, _, _, _, _, rfl, (fun h => by cases h), HB_2.out.trans (hm5.toBelow (by omega) HB_2.out.size)⟩
  have hne : ((own.length : Int) != (bad.length : Int)) = false := eq_len hBn
  have HBN := Lib.hid hBn
  have CC_2 := Lib.hid (show LZ w2 p1 d.c from inI_ints (HCI.out.below HB_2.out))
  have CS_2 := Lib.hid (show LZ w2 r1 d.s from inI_ints (HSI.out.below HB_2.out))
  have E_2 := D_2
  have LE := Lib.hid (show w.heap.size + 1 < w2.heap.size by omega)
  have LO_2 := Lib.hid (show BZ w2 w2 from Below.refl _ _)
  clear hBn
  go_upto_region 4 with fail
  clear e0 e1
  go_cut [9] (fun s1 wx => ∃ (b : Nat) (va : Option Addr) (vc : Nat) (vb : Option Addr) (vd : Nat), s1 = .pointer (some ⟨b, 0, none⟩) ∧ SumB w2 wx b (.slice va d.c.length vc) (.slice vb d.s.length vd) d)
  case first =>
    have hbd : Below w2.heap.size w2 w2.drew := (Below.refl _ w2).drew
    have HB_s := Lib.hid (bt HB_2.out hbd)
    have E_s := Lib.hid (E_2.out.below hbd)
    have CC_s := Lib.hid (CC_2.out.below hbd)
    have CS_s := Lib.hid (CS_2.out.below hbd)
    have LO_s := Lib.hid (LO_2.out.below hbd)
    clear hbd
    refine wp_region_held_drew (S := (fun w' => w'.cell? ⟨w.heap.size + 1, 0, none⟩ = some (.slice p1 d.c.length p2) ∧ w'.cell? ⟨w.heap.size + 1, 1, none⟩ = some (.slice r1 d.s.length r2))) (by kernel_rfl) (show _ from ⟨E_2.out.1, E_2.out.2.1⟩) (fun hHeld => ?_)
    generalize hW0 : w2.drew = Ws at *
    clear hW0
    refine wpAnyH_take (i := 0) (v := ?_) rfl (by kernel_rfl) (by kernel_rfl) (by kernel_rfl) (fun _ _ _ h => h) (Or.inl ⟨by kernel_rfl, ?_⟩) (by assumption) ?_
    rotate_left 1
    · intro w9 hSw
      try dsimp only at hSw
      go_simp
      try with_reducible rfl
    try simp only [Act.put, List.getElem_toArray, List.getElem_cons_succ, List.getElem_cons_zero, List.setIfInBounds_toArray, List.set_cons_zero, List.set_cons_succ]
    refine wpAnyH_take (i := 1) (v := ?_) rfl (by kernel_rfl) (by kernel_rfl) (by kernel_rfl) (fun _ _ _ h => h) (Or.inl ⟨by kernel_rfl, ?_⟩) (by assumption) ?_
    rotate_left 1
    · intro w9 hSw
      try dsimp only at hSw
      go_simp
      try with_reducible rfl
    try simp only [Act.put, List.getElem_toArray, List.getElem_cons_succ, List.getElem_cons_zero, List.setIfInBounds_toArray, List.set_cons_zero, List.set_cons_succ]
    refine wpAnyH_take (i := 3) (v := ?_) rfl (by kernel_rfl) (by kernel_rfl) (by kernel_rfl) (fun _ _ _ h => h) (Or.inl ⟨by kernel_rfl, ?_⟩) (by assumption) ?_
    rotate_left 1
    · intro w9 hSw
      try dsimp only at hSw
      go_simp
      try with_reducible rfl
    try simp only [Act.put, List.getElem_toArray, List.getElem_cons_succ, List.getElem_cons_zero, List.setIfInBounds_toArray, List.set_cons_zero, List.set_cons_succ]
    refine wpAnyH_take (i := 4) (v := ?_) rfl (by kernel_rfl) (by kernel_rfl) (by kernel_rfl) (fun _ _ _ h => h) (Or.inl ⟨by kernel_rfl, ?_⟩) (by assumption) ?_
    rotate_left 1
    · intro w9 hSw
      try dsimp only at hSw
      go_simp
      try with_reducible rfl
    try simp only [Act.put, List.getElem_toArray, List.getElem_cons_succ, List.getElem_cons_zero, List.setIfInBounds_toArray, List.set_cons_zero, List.set_cons_succ]
    refine wpAnyH_ready (rs := [2, 7]) (by kernel_rfl) (by simp) ?_
    refine AllReadyH.cons rfl (fun K hK => ?_) (AllReadyH.cons rfl (fun K hK => ?_) (AllReadyH.nil))
    · go_simp
      (first | have LBC := Lib.hid Z2_s.out.lt | skip)
      have LC := Lib.hid LO_s.out.size
      go_at_call 123
      refine (l1OwnD_any p1 d.c.length p2 d.c rfl (by omega) (inI_nilc HCI.out) _ (show IsInts _ _ _ from CC_s.out)).mono ?_
      rintro e' Wsc ⟨vx, rfl, ho, hb⟩
      obtain ⟨va, vc, rfl⟩ := own_shape ho.1
      have HB_sc := Lib.hid (bt HB_s.out hb)
      have E_sc := Lib.hid (E_s.out.below hb)
      have CC_sc := Lib.hid (CC_s.out.below hb)
      have CS_sc := Lib.hid (CS_s.out.below hb)
      have LO_sc := Lib.hid (LO_s.out.below hb)
      have OC_sc := Lib.hid ho
      clear ho
      clear hb
      go_wp2_with fail
      refine hK.out _ _ (show _ from ⟨E_sc.out.1, E_sc.out.2.1⟩) (fun hHeld => ?_)
      clear hK K
      try simp only [Act.put, List.getElem_toArray, List.getElem_cons_succ, List.getElem_cons_zero, List.setIfInBounds_toArray, List.set_cons_zero, List.set_cons_succ]
      refine wpAnyH_ready (rs := [5, 7]) (by kernel_rfl) (by simp) ?_
      refine AllReadyH.cons rfl (fun K hK => ?_) (AllReadyH.cons rfl (fun K hK => ?_) (AllReadyH.nil))
      · go_simp
        (first | have LBS := Lib.hid Z2_sc.out.lt | skip)
        have LS := Lib.hid LO_sc.out.size
        have LCS := Lib.hid OC_sc.out.toIn.le
        go_at_call 123
        refine (l1OwnD_any r1 d.s.length r2 d.s rfl (by omega) (inI_nilc HSI.out) _ (show IsInts _ _ _ from CS_sc.out)).mono ?_
        rintro e' Wscf ⟨vx, rfl, ho, hb⟩
        obtain ⟨vb, vd, rfl⟩ := own_shape ho.1
        have HB_scf := Lib.hid (bt HB_sc.out hb)
        have E_scf := Lib.hid (E_sc.out.below hb)
        have CC_scf := Lib.hid (CC_sc.out.below hb)
        have CS_scf := Lib.hid (CS_sc.out.below hb)
        have LO_scf := Lib.hid (LO_sc.out.below hb)
        have OC_scf := Lib.hid (OC_sc.out.below hb)
        have OS_scf := Lib.hid ho
        clear ho
        clear hb
        go_wp2_with fail
        refine hK.out _ _ (show _ from ⟨E_scf.out.1, E_scf.out.2.1⟩) (fun hHeld => ?_)
        clear hK K
        try simp only [Act.put, List.getElem_toArray, List.getElem_cons_succ, List.getElem_cons_zero, List.setIfInBounds_toArray, List.set_cons_zero, List.set_cons_succ]
        refine wpAnyH_take (i := 6) (v := ?_) rfl (by kernel_rfl) (by kernel_rfl) (by kernel_rfl) (fun _ _ _ h => h) (Or.inl ⟨by kernel_rfl, ?_⟩) (by assumption) ?_
        rotate_left 1
        · intro w9 hSw
          try dsimp only at hSw
          go_simp
          try with_reducible rfl
        try simp only [Act.put, List.getElem_toArray, List.getElem_cons_succ, List.getElem_cons_zero, List.setIfInBounds_toArray, List.set_cons_zero, List.set_cons_succ]
        refine wpAnyH_ready (rs := [7]) (by kernel_rfl) (by simp) ?_
        refine AllReadyH.cons rfl (fun K hK => ?_) (AllReadyH.nil)
        go_simp
        have hb := ba Wscf (.cells #[.slice none 0 0, .slice none 0 0] 42)
        have HB_scfh := Lib.hid (bt HB_scf.out hb)
        have E_scfh := Lib.hid (E_scf.out.below hb)
        have CC_scfh := Lib.hid (CC_scf.out.below hb)
        have CS_scfh := Lib.hid (CS_scf.out.below hb)
        have LO_scfh := Lib.hid (LO_scf.out.below hb)
        have OC_scfh := Lib.hid (OC_scf.out.below hb)
        have OS_scfh := Lib.hid (OS_scf.out.below hb)
        have Z2_scfh := Lib.hid (show VD2 (Wscf.alloc (.cells #[.slice none 0 0, .slice none 0 0] 42)) Wscf.heap.size (.slice none 0 0) (.slice none 0 0) from v2_at Wscf Wscf.heap.size rfl _ _ 42)
        have LB := Lib.hid (show w2.heap.size ≤ Wscf.heap.size from LO_scf.out.size)
        (first | have LBD := Lib.hid OC_scf.out.toIn.le | skip)
        (first | have LBT := Lib.hid OS_scf.out.toIn.le | skip)
        clear hb
        refine hK.out _ _ (show _ from ⟨E_scfh.out.1, E_scfh.out.2.1⟩) (fun hHeld => ?_)
        clear hK K
        try simp only [Act.put, List.getElem_toArray, List.getElem_cons_succ, List.getElem_cons_zero, List.setIfInBounds_toArray, List.set_cons_zero, List.set_cons_succ]
        generalize hW9 : Wscf.alloc (.cells #[.slice none 0 0, .slice none 0 0] 42) = Wscfh at *
        clear hW9
        have BX := Lib.hid (show SumB w2 _ (Wscf.heap.size) (.slice va d.c.length vc) (.slice vb d.s.length vd) d from sumB_mk OC_scfh.out OS_scfh.out LCS.out Z2_scfh.out (by first | exact .inl LBC.out | exact .inr LBD.out) (by first | exact .inl LBS.out | exact .inr LBT.out) LC.out LB.out LO_scfh.out)
        refine wpAnyH_ready (rs := [8]) (by kernel_rfl) (by simp) ?_
        refine AllReadyH.cons rfl (fun K hK => ?_) AllReadyH.nil
        obtain ⟨y0, y1, yf⟩ := Z2_scfh.out
        have yf0 := yf 0
        have yf1 := yf 1
        clear yf
        go_simp
        have E_y := Lib.hid ((E_scfh.out.mid (mid_two7 _ (Wscf.heap.size) (.slice va d.c.length vc) (.slice vb d.s.length vd)) (.inl (by have := LE.out; have := LB.out; omega))))
        refine hK.out _ _ (show _ from ⟨E_y.out.1, E_y.out.2.1⟩) (fun hHeld => ?_)
        clear hK K
        try simp only [Act.put, List.getElem_toArray, List.getElem_cons_succ, List.getElem_cons_zero, List.setIfInBounds_toArray, List.set_cons_zero, List.set_cons_succ]
        refine wpAnyH_done (by kernel_rfl) ?_ _
        go_wp2_with fail
        go_meet
        exact ⟨_, _, _, _, _, rfl, BX.out⟩
      · go_simp
        have hb := ba Wsc (.cells #[.slice none 0 0, .slice none 0 0] 42)
        have HB_sch := Lib.hid (bt HB_sc.out hb)
        have E_sch := Lib.hid (E_sc.out.below hb)
        have CC_sch := Lib.hid (CC_sc.out.below hb)
        have CS_sch := Lib.hid (CS_sc.out.below hb)
        have LO_sch := Lib.hid (LO_sc.out.below hb)
        have OC_sch := Lib.hid (OC_sc.out.below hb)
        have Z2_sch := Lib.hid (show VD2 (Wsc.alloc (.cells #[.slice none 0 0, .slice none 0 0] 42)) Wsc.heap.size (.slice none 0 0) (.slice none 0 0) from v2_at Wsc Wsc.heap.size rfl _ _ 42)
        have LB := Lib.hid (show w2.heap.size ≤ Wsc.heap.size from LO_sc.out.size)
        (first | have LBD := Lib.hid OC_sc.out.toIn.le | skip)
        (first | have LBT := Lib.hid OS_sc.out.toIn.le | skip)
        clear hb
        refine hK.out _ _ (show _ from ⟨E_sch.out.1, E_sch.out.2.1⟩) (fun hHeld => ?_)
        clear hK K
        try simp only [Act.put, List.getElem_toArray, List.getElem_cons_succ, List.getElem_cons_zero, List.setIfInBounds_toArray, List.set_cons_zero, List.set_cons_succ]
        generalize hW9 : Wsc.alloc (.cells #[.slice none 0 0, .slice none 0 0] 42) = Wsch at *
        clear hW9
        refine wpAnyH_ready (rs := [5]) (by kernel_rfl) (by simp) ?_
        refine AllReadyH.cons rfl (fun K hK => ?_) (AllReadyH.nil)
        go_simp
        (first | have LBS := Lib.hid Z2_sch.out.lt | skip)
        have LS := Lib.hid LO_sch.out.size
        have LCS := Lib.hid OC_sch.out.toIn.le
        go_at_call 123
        refine (l1OwnD_any r1 d.s.length r2 d.s rfl (by omega) (inI_nilc HSI.out) _ (show IsInts _ _ _ from CS_sch.out)).mono ?_
        rintro e' Wschf ⟨vx, rfl, ho, hb⟩
        obtain ⟨vb, vd, rfl⟩ := own_shape ho.1
        have HB_schf := Lib.hid (bt HB_sch.out hb)
        have E_schf := Lib.hid (E_sch.out.below hb)
        have CC_schf := Lib.hid (CC_sch.out.below hb)
        have CS_schf := Lib.hid (CS_sch.out.below hb)
        have LO_schf := Lib.hid (LO_sch.out.below hb)
        have OC_schf := Lib.hid (OC_sch.out.below hb)
        have Z2_schf := Lib.hid (Z2_sch.out.below hb)
        have OS_schf := Lib.hid ho
        clear ho
        clear hb
        go_wp2_with fail
        refine hK.out _ _ (show _ from ⟨E_schf.out.1, E_schf.out.2.1⟩) (fun hHeld => ?_)
        clear hK K
        try simp only [Act.put, List.getElem_toArray, List.getElem_cons_succ, List.getElem_cons_zero, List.setIfInBounds_toArray, List.set_cons_zero, List.set_cons_succ]
        refine wpAnyH_take (i := 6) (v := ?_) rfl (by kernel_rfl) (by kernel_rfl) (by kernel_rfl) (fun _ _ _ h => h) (Or.inl ⟨by kernel_rfl, ?_⟩) (by assumption) ?_
        rotate_left 1
        · intro w9 hSw
          try dsimp only at hSw
          go_simp
          try with_reducible rfl
        try simp only [Act.put, List.getElem_toArray, List.getElem_cons_succ, List.getElem_cons_zero, List.setIfInBounds_toArray, List.set_cons_zero, List.set_cons_succ]
        have BX := Lib.hid (show SumB w2 _ (Wsc.heap.size) (.slice va d.c.length vc) (.slice vb d.s.length vd) d from sumB_mk OC_schf.out OS_schf.out LCS.out Z2_schf.out (by first | exact .inl LBC.out | exact .inr LBD.out) (by first | exact .inl LBS.out | exact .inr LBT.out) LC.out LB.out LO_schf.out)
        refine wpAnyH_ready (rs := [8]) (by kernel_rfl) (by simp) ?_
        refine AllReadyH.cons rfl (fun K hK => ?_) AllReadyH.nil
        obtain ⟨y0, y1, yf⟩ := Z2_schf.out
        have yf0 := yf 0
        have yf1 := yf 1
        clear yf
        go_simp
        have E_y := Lib.hid ((E_schf.out.mid (mid_two7 _ (Wsc.heap.size) (.slice va d.c.length vc) (.slice vb d.s.length vd)) (.inl (by have := LE.out; have := LB.out; omega))))
        refine hK.out _ _ (show _ from ⟨E_y.out.1, E_y.out.2.1⟩) (fun hHeld => ?_)
        clear hK K
        try simp only [Act.put, List.getElem_toArray, List.getElem_cons_succ, List.getElem_cons_zero, List.setIfInBounds_toArray, List.set_cons_zero, List.set_cons_succ]
        refine wpAnyH_done (by kernel_rfl) ?_ _
        go_wp2_with fail
        go_meet
        exact ⟨_, _, _, _, _, rfl, BX.out⟩
    · go_simp
      have hb := ba Ws (.cells #[.slice none 0 0, .slice none 0 0] 42)
      have HB_sh := Lib.hid (bt HB_s.out hb)
      have E_sh := Lib.hid (E_s.out.below hb)
      have CC_sh := Lib.hid (CC_s.out.below hb)
      have CS_sh := Lib.hid (CS_s.out.below hb)
      have LO_sh := Lib.hid (LO_s.out.below hb)
      have Z2_sh := Lib.hid (show VD2 (Ws.alloc (.cells #[.slice none 0 0, .slice none 0 0] 42)) Ws.heap.size (.slice none 0 0) (.slice none 0 0) from v2_at Ws Ws.heap.size rfl _ _ 42)
      have LB := Lib.hid (show w2.heap.size ≤ Ws.heap.size from LO_s.out.size)
      (first | have LBD := Lib.hid OC_s.out.toIn.le | skip)
      (first | have LBT := Lib.hid OS_s.out.toIn.le | skip)
      clear hb
      refine hK.out _ _ (show _ from ⟨E_sh.out.1, E_sh.out.2.1⟩) (fun hHeld => ?_)
      clear hK K
      try simp only [Act.put, List.getElem_toArray, List.getElem_cons_succ, List.getElem_cons_zero, List.setIfInBounds_toArray, List.set_cons_zero, List.set_cons_succ]
      generalize hW9 : Ws.alloc (.cells #[.slice none 0 0, .slice none 0 0] 42) = Wsh at *
      clear hW9
      refine wpAnyH_ready (rs := [2]) (by kernel_rfl) (by simp) ?_
      refine AllReadyH.cons rfl (fun K hK => ?_) (AllReadyH.nil)
      go_simp
      (first | have LBC := Lib.hid Z2_sh.out.lt | skip)
      have LC := Lib.hid LO_sh.out.size
      go_at_call 123
      refine (l1OwnD_any p1 d.c.length p2 d.c rfl (by omega) (inI_nilc HCI.out) _ (show IsInts _ _ _ from CC_sh.out)).mono ?_
      rintro e' Wshc ⟨vx, rfl, ho, hb⟩
      obtain ⟨va, vc, rfl⟩ := own_shape ho.1
      have HB_shc := Lib.hid (bt HB_sh.out hb)
      have E_shc := Lib.hid (E_sh.out.below hb)
      have CC_shc := Lib.hid (CC_sh.out.below hb)
      have CS_shc := Lib.hid (CS_sh.out.below hb)
      have LO_shc := Lib.hid (LO_sh.out.below hb)
      have Z2_shc := Lib.hid (Z2_sh.out.below hb)
      have OC_shc := Lib.hid ho
      clear ho
      clear hb
      go_wp2_with fail
      refine hK.out _ _ (show _ from ⟨E_shc.out.1, E_shc.out.2.1⟩) (fun hHeld => ?_)
      clear hK K
      try simp only [Act.put, List.getElem_toArray, List.getElem_cons_succ, List.getElem_cons_zero, List.setIfInBounds_toArray, List.set_cons_zero, List.set_cons_succ]
      refine wpAnyH_ready (rs := [5]) (by kernel_rfl) (by simp) ?_
      refine AllReadyH.cons rfl (fun K hK => ?_) (AllReadyH.nil)
      go_simp
      (first | have LBS := Lib.hid Z2_shc.out.lt | skip)
      have LS := Lib.hid LO_shc.out.size
      have LCS := Lib.hid OC_shc.out.toIn.le
      go_at_call 123
      refine (l1OwnD_any r1 d.s.length r2 d.s rfl (by omega) (inI_nilc HSI.out) _ (show IsInts _ _ _ from CS_shc.out)).mono ?_
      rintro e' Wshcf ⟨vx, rfl, ho, hb⟩
      obtain ⟨vb, vd, rfl⟩ := own_shape ho.1
      have HB_shcf := Lib.hid (bt HB_shc.out hb)
      have E_shcf := Lib.hid (E_shc.out.below hb)
      have CC_shcf := Lib.hid (CC_shc.out.below hb)
      have CS_shcf := Lib.hid (CS_shc.out.below hb)
      have LO_shcf := Lib.hid (LO_shc.out.below hb)
      have Z2_shcf := Lib.hid (Z2_shc.out.below hb)
      have OC_shcf := Lib.hid (OC_shc.out.below hb)
      have OS_shcf := Lib.hid ho
      clear ho
      clear hb
      go_wp2_with fail
      refine hK.out _ _ (show _ from ⟨E_shcf.out.1, E_shcf.out.2.1⟩) (fun hHeld => ?_)
      clear hK K
      try simp only [Act.put, List.getElem_toArray, List.getElem_cons_succ, List.getElem_cons_zero, List.setIfInBounds_toArray, List.set_cons_zero, List.set_cons_succ]
      refine wpAnyH_take (i := 6) (v := ?_) rfl (by kernel_rfl) (by kernel_rfl) (by kernel_rfl) (fun _ _ _ h => h) (Or.inl ⟨by kernel_rfl, ?_⟩) (by assumption) ?_
      rotate_left 1
      · intro w9 hSw
        try dsimp only at hSw
        go_simp
        try with_reducible rfl
      try simp only [Act.put, List.getElem_toArray, List.getElem_cons_succ, List.getElem_cons_zero, List.setIfInBounds_toArray, List.set_cons_zero, List.set_cons_succ]
      have BX := Lib.hid (show SumB w2 _ (Ws.heap.size) (.slice va d.c.length vc) (.slice vb d.s.length vd) d from sumB_mk OC_shcf.out OS_shcf.out LCS.out Z2_shcf.out (by first | exact .inl LBC.out | exact .inr LBD.out) (by first | exact .inl LBS.out | exact .inr LBT.out) LC.out LB.out LO_shcf.out)
      refine wpAnyH_ready (rs := [8]) (by kernel_rfl) (by simp) ?_
      refine AllReadyH.cons rfl (fun K hK => ?_) AllReadyH.nil
      obtain ⟨y0, y1, yf⟩ := Z2_shcf.out
      have yf0 := yf 0
      have yf1 := yf 1
      clear yf
      go_simp
      have E_y := Lib.hid ((E_shcf.out.mid (mid_two7 _ (Ws.heap.size) (.slice va d.c.length vc) (.slice vb d.s.length vd)) (.inl (by have := LE.out; have := LB.out; omega))))
      refine hK.out _ _ (show _ from ⟨E_y.out.1, E_y.out.2.1⟩) (fun hHeld => ?_)
      clear hK K
      try simp only [Act.put, List.getElem_toArray, List.getElem_cons_succ, List.getElem_cons_zero, List.setIfInBounds_toArray, List.set_cons_zero, List.set_cons_succ]
      refine wpAnyH_done (by kernel_rfl) ?_ _
      go_wp2_with fail
      go_meet
      exact ⟨_, _, _, _, _, rfl, BX.out⟩
  case rest =>
    obtain ⟨b, va, vc, vb, vd, rfl, hsb⟩ := hcut
    obtain ⟨Q0, M0, N0, P0, hs1, hs2, hMN, hs3, hbQ, hbN, hvQ, hvb, hs4⟩ := hsb
    have SC0 := Lib.hid (show SumC w2 _ b Q0 M0 N0 P0 (.slice va d.c.length vc) (.slice vb d.s.length vd) d from ⟨hs1, hs2, hs3, hs4⟩)
    have HNUM := Lib.hid (And.intro hMN (And.intro hbQ (And.intro hbN (And.intro hvQ hvb))))
    clear hs1 hs2 hs3 hs4 hMN hbQ hbN hvQ hvb
    go_wp2_with fail
    go_loopw [10, 11, 38] (fun _ _ J wr => ∃ (j : Nat) (cur : List Int), j ≤ bad.length ∧ J = .int .i64 j ∧ fitsL P Q G d.c bad own = fitsL P Q G d.c (bad.drop j) (own.drop j) ∧ putL d.s bad own = putL cur (bad.drop j) (own.drop j) ∧ cur.length = d.s.length ∧ SumC w2 wr b Q0 M0 N0 P0 (.slice va d.c.length vc) (.slice vb d.s.length vd) ⟨d.c, cur⟩) (fun _ _ J _ => bad.length - (intOf J).toNat)
    case atStart => exact ⟨0, d.s, Nat.zero_le _, rfl, by simp, by simp, rfl, SC0.out⟩
    case round =>
      obtain ⟨j, cur, hj9, rfl, hfl, hpl, hcl, hsc⟩ := hrel
      have HCL := Lib.hid hcl
      have HFL := Lib.hid hfl
      have HPL := Lib.hid hpl
      have SC_r := Lib.hid hsc
      have HB_r := Lib.hid (bt HB_2.out hsc.2.2.2)
      have G_r := Lib.hid (G_2.out.below hsc.2.2.2)
      have D_r := Lib.hid (D_2.out.below hsc.2.2.2)
      have Z_r := Lib.hid (Z_2.out.below hsc.2.2.2)
      have BD_r := Lib.hid (BD_2.out.below hsc.2.2.2)
      have hw2r := hsc.2.2.2.size
      clear hcl hfl hpl hsc SC0
      by_cases hjn : j < bad.length
      · obtain ⟨bb, bo, i, rfl, hbb, hbx, hbd⟩ := (show IsInts wr ba1 bad from inI_ints BD_r.out).at (k := j) hjn
        obtain ⟨hi1, hi2⟩ := HBR.out i (mem_drop hbd)
        have hjo : j < own.length := by have := HBN.out; omega
        obtain ⟨ob, oo, x, rfl, hob, hoxx, hoxd⟩ := (show IsInts wr o1 own from inI_ints (HOI.out.below HB_r.out)).at (k := j) hjo
        obtain ⟨hx0, hx1⟩ := HOR.out x (mem_drop hoxd)
        have HFS := Lib.hid (fits_step (P := P) (Q := Q) (G := G) (cs := d.c) hbd hoxd)
        have HPS := Lib.hid (put_step (cur := cur) hbd hoxd)
        have X_r := Lib.hid (show C0x wr ⟨ob, oo + j, none⟩ x from hoxx)
        clear hbd hoxd
        cases hf : fitB P Q G d.c i x
        · have HF := Lib.hid hf
          have HMF := Lib.hid (show mdB P Q G d own = false by rw [← Bool.not_eq_true, HMD.out, HFL.out, HFS.out, hf]; simp)
          clear hf
          go_wp2_with fail
          refine wp_region_held_drew (S := (fun w' => (w'.cell? ⟨w.heap.size, 0, none⟩ = some (.int .i64 P) ∧ w'.cell? ⟨w.heap.size, 1, none⟩ = some (.int .i64 Q) ∧ w'.cell? ⟨w.heap.size, 2, none⟩ = some (.int .i64 G)) ∧ (w'.cell? ⟨w.heap.size + 1, 0, none⟩ = some (.slice p1 d.c.length p2) ∧ w'.cell? ⟨w.heap.size + 1, 1, none⟩ = some (.slice r1 d.s.length r2)) ∧ w'.cell? ⟨ob, oo + j, none⟩ = some (.int .i64 x))) (by kernel_rfl) (by first | exact ⟨G_r.out, ⟨D_r.out.1, D_r.out.2.1⟩, X_r.out⟩ | (dsimp only; exact ⟨G_r.out, ⟨D_r.out.1, D_r.out.2.1⟩, X_r.out⟩)) (fun hHeld => ?_)
          refine wpAnyH_take (i := 0) (v := ?_) rfl (by kernel_rfl) (by kernel_rfl) (by kernel_rfl) (fun _ _ _ h => h) (Or.inl ⟨by kernel_rfl, ?_⟩) (by assumption) ?_
          rotate_left 1
          · intro w hSw
            try dsimp only at hSw
            go_simp
            try with_reducible rfl
          try simp only [Act.put, List.getElem_toArray, List.getElem_cons_succ, List.getElem_cons_zero, List.setIfInBounds_toArray, List.set_cons_zero, List.set_cons_succ]
          refine wpAnyH_take (i := 1) (v := ?_) rfl (by kernel_rfl) (by kernel_rfl) (by kernel_rfl) (fun _ _ _ h => h) (Or.inl ⟨by kernel_rfl, ?_⟩) (by assumption) ?_
          rotate_left 1
          · intro w hSw
            try dsimp only at hSw
            go_simp
            try with_reducible rfl
          try simp only [Act.put, List.getElem_toArray, List.getElem_cons_succ, List.getElem_cons_zero, List.setIfInBounds_toArray, List.set_cons_zero, List.set_cons_succ]
          refine wpAnyH_take (i := 2) (v := ?_) rfl (by kernel_rfl) (by kernel_rfl) (by kernel_rfl) (fun _ _ _ h => h) (Or.inl ⟨by kernel_rfl, ?_⟩) (by assumption) ?_
          rotate_left 1
          · intro w hSw
            try dsimp only at hSw
            go_simp
            try with_reducible rfl
          try simp only [Act.put, List.getElem_toArray, List.getElem_cons_succ, List.getElem_cons_zero, List.setIfInBounds_toArray, List.set_cons_zero, List.set_cons_succ]
          refine wpAnyH_take (i := 3) (v := ?_) rfl (by kernel_rfl) (by kernel_rfl) (by kernel_rfl) (fun _ _ _ h => h) (Or.inl ⟨by kernel_rfl, ?_⟩) (by assumption) ?_
          rotate_left 1
          · intro w hSw
            try dsimp only at hSw
            go_simp
            try with_reducible rfl
          try simp only [Act.put, List.getElem_toArray, List.getElem_cons_succ, List.getElem_cons_zero, List.setIfInBounds_toArray, List.set_cons_zero, List.set_cons_succ]
          refine wpAnyH_take (i := 4) (v := ?_) rfl (by kernel_rfl) (by kernel_rfl) (by kernel_rfl) (fun _ _ _ h => h) (Or.inl ⟨by kernel_rfl, ?_⟩) (by assumption) ?_
          rotate_left 1
          · intro w hSw
            try dsimp only at hSw
            go_simp
            try with_reducible rfl
          try simp only [Act.put, List.getElem_toArray, List.getElem_cons_succ, List.getElem_cons_zero, List.setIfInBounds_toArray, List.set_cons_zero, List.set_cons_succ]
          refine wpAnyH_take (i := 5) (v := ?_) rfl (by kernel_rfl) (by kernel_rfl) (by kernel_rfl) (fun _ _ _ h => h) (Or.inl ⟨by kernel_rfl, ?_⟩) (by assumption) ?_
          rotate_left 1
          · intro w hSw
            try dsimp only at hSw
            go_simp
            try with_reducible rfl
          try simp only [Act.put, List.getElem_toArray, List.getElem_cons_succ, List.getElem_cons_zero, List.setIfInBounds_toArray, List.set_cons_zero, List.set_cons_succ]
          refine wpAnyH_take (i := 6) (v := ?_) rfl (by kernel_rfl) (by kernel_rfl) (by kernel_rfl) (fun _ _ _ h => h) (Or.inl ⟨by kernel_rfl, ?_⟩) (by assumption) ?_
          rotate_left 1
          · intro w hSw
            try dsimp only at hSw
            go_simp
            try with_reducible rfl
          try simp only [Act.put, List.getElem_toArray, List.getElem_cons_succ, List.getElem_cons_zero, List.setIfInBounds_toArray, List.set_cons_zero, List.set_cons_succ]
          refine wpAnyH_take (i := 7) (v := ?_) rfl (by kernel_rfl) (by kernel_rfl) (by kernel_rfl) (fun _ _ _ h => h) (Or.inl ⟨by kernel_rfl, ?_⟩) (by assumption) ?_
          rotate_left 1
          · intro w hSw
            try dsimp only at hSw
            go_simp
            try with_reducible rfl
          try simp only [Act.put, List.getElem_toArray, List.getElem_cons_succ, List.getElem_cons_zero, List.setIfInBounds_toArray, List.set_cons_zero, List.set_cons_succ]
          refine wpAnyH_ready (rs := [8]) (by kernel_rfl) (by simp) ?_
          refine AllReadyH.cons rfl (fun K hK => ?_) AllReadyH.nil
          go_simp
          have hbd : Below wr.heap.size wr wr.drew := (Below.refl _ wr).drew
          have C_d := Lib.hid (HCI.out.below (bt HB_r.out hbd))
          go_at_call 128
          refine (sFits_any P Q G i x HGD.out (by omega) (by omega) ⟨hx0, hx1⟩ p1 d.c.length p2 d.c rfl (by omega) HCE.out _ (inI_ints C_d.out)).mono ?_
          rw [HF.out]
          rintro e' wf ⟨rfl, hbf0⟩
          have hbf := bt hbd hbf0
          clear hbd hbf0 C_d
          have G_s := Lib.hid (G_r.out.below hbf)
          have D_s := Lib.hid (D_r.out.below hbf)
          have X_s := Lib.hid (X_r.out.below hbf)
          have Z_s := Lib.hid (Z_r.out.below hbf)
          have SC_s := Lib.hid (SC_r.out.below hbf)
          have HB_s := Lib.hid (bt HB_r.out hbf)
          clear hbf
          refine hK.out _ _ (by first | exact ⟨G_s.out, ⟨D_s.out.1, D_s.out.2.1⟩, X_s.out⟩ | (dsimp only; exact ⟨G_s.out, ⟨D_s.out.1, D_s.out.2.1⟩, X_s.out⟩)) (fun hHeld => ?_)
          clear hK K
          try simp only [Act.put, List.getElem_toArray, List.getElem_cons_succ, List.getElem_cons_zero, List.setIfInBounds_toArray, List.set_cons_zero, List.set_cons_succ]
          refine wpAnyH_take (i := 9) (v := ?_) rfl (by kernel_rfl) (by kernel_rfl) (by kernel_rfl) (fun _ _ _ h => h) (Or.inl ⟨by kernel_rfl, ?_⟩) (by assumption) ?_
          rotate_left 1
          · intro w hSw
            try dsimp only at hSw
            go_simp
            try with_reducible rfl
          try simp only [Act.put, List.getElem_toArray, List.getElem_cons_succ, List.getElem_cons_zero, List.setIfInBounds_toArray, List.set_cons_zero, List.set_cons_succ]
          refine wpAnyH_done (by kernel_rfl) ?_ _
          clear hHeld
          obtain ⟨e0, e1, _⟩ := D_s.out
          obtain ⟨y0, y1, yf⟩ := Z_s.out
          have yf0 := yf 0
          have yf1 := yf 1
          clear yf
          go_wp2
          (try simp only [Exit.inBlock, Exit.then])
          refine bodyPost_ret (v := .tuple #[.agg #[.slice p1 d.c.length p2, .slice r1 d.s.length r2], .bool false]) ?_ rfl ?_
          · rw [results_cell_tmp rfl]; go_simp
          · have hm5 := mid_two7 wf (w.heap.size + 2) (.slice p1 d.c.length p2) (.slice r1 d.s.length r2)
            rw [HMF.out]
            exact ⟨_, _, _, _, _, _, rfl, (fun h => by cases h), HB_s.out.trans (hm5.toBelow (by omega) HB_s.out.size)⟩
        · have HF := Lib.hid hf
          clear hf
          go_wp2_with fail
          refine wp_region_held_drew (S := (fun w' => (w'.cell? ⟨w.heap.size, 0, none⟩ = some (.int .i64 P) ∧ w'.cell? ⟨w.heap.size, 1, none⟩ = some (.int .i64 Q) ∧ w'.cell? ⟨w.heap.size, 2, none⟩ = some (.int .i64 G)) ∧ (w'.cell? ⟨w.heap.size + 1, 0, none⟩ = some (.slice p1 d.c.length p2) ∧ w'.cell? ⟨w.heap.size + 1, 1, none⟩ = some (.slice r1 d.s.length r2)) ∧ w'.cell? ⟨ob, oo + j, none⟩ = some (.int .i64 x))) (by kernel_rfl) (by first | exact ⟨G_r.out, ⟨D_r.out.1, D_r.out.2.1⟩, X_r.out⟩ | (dsimp only; exact ⟨G_r.out, ⟨D_r.out.1, D_r.out.2.1⟩, X_r.out⟩)) (fun hHeld => ?_)
          refine wpAnyH_take (i := 0) (v := ?_) rfl (by kernel_rfl) (by kernel_rfl) (by kernel_rfl) (fun _ _ _ h => h) (Or.inl ⟨by kernel_rfl, ?_⟩) (by assumption) ?_
          rotate_left 1
          · intro w hSw
            try dsimp only at hSw
            go_simp
            try with_reducible rfl
          try simp only [Act.put, List.getElem_toArray, List.getElem_cons_succ, List.getElem_cons_zero, List.setIfInBounds_toArray, List.set_cons_zero, List.set_cons_succ]
          refine wpAnyH_take (i := 1) (v := ?_) rfl (by kernel_rfl) (by kernel_rfl) (by kernel_rfl) (fun _ _ _ h => h) (Or.inl ⟨by kernel_rfl, ?_⟩) (by assumption) ?_
          rotate_left 1
          · intro w hSw
            try dsimp only at hSw
            go_simp
            try with_reducible rfl
          try simp only [Act.put, List.getElem_toArray, List.getElem_cons_succ, List.getElem_cons_zero, List.setIfInBounds_toArray, List.set_cons_zero, List.set_cons_succ]
          refine wpAnyH_take (i := 2) (v := ?_) rfl (by kernel_rfl) (by kernel_rfl) (by kernel_rfl) (fun _ _ _ h => h) (Or.inl ⟨by kernel_rfl, ?_⟩) (by assumption) ?_
          rotate_left 1
          · intro w hSw
            try dsimp only at hSw
            go_simp
            try with_reducible rfl
          try simp only [Act.put, List.getElem_toArray, List.getElem_cons_succ, List.getElem_cons_zero, List.setIfInBounds_toArray, List.set_cons_zero, List.set_cons_succ]
          refine wpAnyH_take (i := 3) (v := ?_) rfl (by kernel_rfl) (by kernel_rfl) (by kernel_rfl) (fun _ _ _ h => h) (Or.inl ⟨by kernel_rfl, ?_⟩) (by assumption) ?_
          rotate_left 1
          · intro w hSw
            try dsimp only at hSw
            go_simp
            try with_reducible rfl
          try simp only [Act.put, List.getElem_toArray, List.getElem_cons_succ, List.getElem_cons_zero, List.setIfInBounds_toArray, List.set_cons_zero, List.set_cons_succ]
          refine wpAnyH_take (i := 4) (v := ?_) rfl (by kernel_rfl) (by kernel_rfl) (by kernel_rfl) (fun _ _ _ h => h) (Or.inl ⟨by kernel_rfl, ?_⟩) (by assumption) ?_
          rotate_left 1
          · intro w hSw
            try dsimp only at hSw
            go_simp
            try with_reducible rfl
          try simp only [Act.put, List.getElem_toArray, List.getElem_cons_succ, List.getElem_cons_zero, List.setIfInBounds_toArray, List.set_cons_zero, List.set_cons_succ]
          refine wpAnyH_take (i := 5) (v := ?_) rfl (by kernel_rfl) (by kernel_rfl) (by kernel_rfl) (fun _ _ _ h => h) (Or.inl ⟨by kernel_rfl, ?_⟩) (by assumption) ?_
          rotate_left 1
          · intro w hSw
            try dsimp only at hSw
            go_simp
            try with_reducible rfl
          try simp only [Act.put, List.getElem_toArray, List.getElem_cons_succ, List.getElem_cons_zero, List.setIfInBounds_toArray, List.set_cons_zero, List.set_cons_succ]
          refine wpAnyH_take (i := 6) (v := ?_) rfl (by kernel_rfl) (by kernel_rfl) (by kernel_rfl) (fun _ _ _ h => h) (Or.inl ⟨by kernel_rfl, ?_⟩) (by assumption) ?_
          rotate_left 1
          · intro w hSw
            try dsimp only at hSw
            go_simp
            try with_reducible rfl
          try simp only [Act.put, List.getElem_toArray, List.getElem_cons_succ, List.getElem_cons_zero, List.setIfInBounds_toArray, List.set_cons_zero, List.set_cons_succ]
          refine wpAnyH_take (i := 7) (v := ?_) rfl (by kernel_rfl) (by kernel_rfl) (by kernel_rfl) (fun _ _ _ h => h) (Or.inl ⟨by kernel_rfl, ?_⟩) (by assumption) ?_
          rotate_left 1
          · intro w hSw
            try dsimp only at hSw
            go_simp
            try with_reducible rfl
          try simp only [Act.put, List.getElem_toArray, List.getElem_cons_succ, List.getElem_cons_zero, List.setIfInBounds_toArray, List.set_cons_zero, List.set_cons_succ]
          refine wpAnyH_ready (rs := [8]) (by kernel_rfl) (by simp) ?_
          refine AllReadyH.cons rfl (fun K hK => ?_) AllReadyH.nil
          go_simp
          have hbd : Below wr.heap.size wr wr.drew := (Below.refl _ wr).drew
          have C_d := Lib.hid (HCI.out.below (bt HB_r.out hbd))
          go_at_call 128
          refine (sFits_any P Q G i x HGD.out (by omega) (by omega) ⟨hx0, hx1⟩ p1 d.c.length p2 d.c rfl (by omega) HCE.out _ (inI_ints C_d.out)).mono ?_
          rw [HF.out]
          rintro e' wf ⟨rfl, hbf0⟩
          have hbf := bt hbd hbf0
          clear hbd hbf0 C_d
          have G_s := Lib.hid (G_r.out.below hbf)
          have D_s := Lib.hid (D_r.out.below hbf)
          have X_s := Lib.hid (X_r.out.below hbf)
          have Z_s := Lib.hid (Z_r.out.below hbf)
          have SC_s := Lib.hid (SC_r.out.below hbf)
          have HB_s := Lib.hid (bt HB_r.out hbf)
          clear hbf
          refine hK.out _ _ (by first | exact ⟨G_s.out, ⟨D_s.out.1, D_s.out.2.1⟩, X_s.out⟩ | (dsimp only; exact ⟨G_s.out, ⟨D_s.out.1, D_s.out.2.1⟩, X_s.out⟩)) (fun hHeld => ?_)
          clear hK K
          try simp only [Act.put, List.getElem_toArray, List.getElem_cons_succ, List.getElem_cons_zero, List.setIfInBounds_toArray, List.set_cons_zero, List.set_cons_succ]
          refine wpAnyH_take (i := 9) (v := ?_) rfl (by kernel_rfl) (by kernel_rfl) (by kernel_rfl) (fun _ _ _ h => h) (Or.inl ⟨by kernel_rfl, ?_⟩) (by assumption) ?_
          rotate_left 1
          · intro w hSw
            try dsimp only at hSw
            go_simp
            try with_reducible rfl
          try simp only [Act.put, List.getElem_toArray, List.getElem_cons_succ, List.getElem_cons_zero, List.setIfInBounds_toArray, List.set_cons_zero, List.set_cons_succ]
          refine wpAnyH_done (by kernel_rfl) ?_ _
          clear hHeld
          obtain ⟨g, rfl⟩ := owI_some SC_s.out.2.1 (by have := HCL.out; simp only; omega)
          obtain ⟨i0, rfl⟩ : ∃ i0 : Nat, i = (i0 : Int) + 1 := ⟨(i - 1).toNat, by omega⟩
          have hw1 : IntKind.i64.wrap ((i0 : Int) + 1 - 1) = (i0 : Int) := by rw [IntKind.wrap_i64]; omega
          have hw3 : IntKind.i64.wrap (i0 : Int) = (i0 : Int) := by rw [IntKind.wrap_i64]; omega
          have hi0 : i0 < d.s.length := by omega
          obtain ⟨hcu, hfu⟩ := owI_at SC_s.out.2.1 (List.getElem?_eq_getElem (show i0 < cur.length by have := HCL.out; omega))
          obtain ⟨u0, u1, _⟩ := SC_s.out.2.2.1
          have hxx : wf.cell? ⟨ob, oo + j, none⟩ = some (.int .i64 x) := X_s.out
          have SC_t := Lib.hid (SumC.put SC_s.out i0 x HNUM.out.1 HNUM.out.2.2.1 HNUM.out.2.2.2.1)
          go_wp2
          go_region
          all_goals go_wp2
          go_roundw
          case rel => exact ⟨j + 1, cur.set i0 x, by omega, by go_num, by rw [HFL.out, HFS.out, HF.out, Bool.true_and], by rw [HPL.out, HPS.out]; congr 2; omega, by rw [List.length_set]; exact HCL.out, SC_t.out.below (Below.refl _ _).drew⟩
          case measure => simp only [intOf]; omega
      · have HMT := Lib.hid (show mdB P Q G d own = true from HMD.out.2 ⟨by omega, HBN.out, by rw [HFL.out]; exact fits_end (by omega)⟩)
        have HME := Lib.hid (show mdV P Q G d own = ⟨d.c, cur⟩ by rw [HMV.out, HPL.out, put_end (by omega)])
        have HZ9 := Z_r
        obtain ⟨u0, u1, _⟩ := SC_r.out.2.2.1
        obtain ⟨y0, y1, yf⟩ := HZ9.out
        have yf0 := yf 0
        have yf1 := yf 1
        clear yf
        go_wp2
        (try simp only [Exit.inBlock, Exit.then])
        refine bodyPost_ret (v := .tuple #[.agg #[.slice va d.c.length vc, .slice vb d.s.length vd], .bool true]) ?_ rfl ?_
        · rw [results_cell_tmp rfl]; go_simp
        · have hm5 := mid_two7 wr (w.heap.size + 2) (.slice va d.c.length vc) (.slice vb d.s.length vd)
          rw [HMT.out, HME.out]
          obtain ⟨hMN, hbQ, hbN, hvQ, hvb⟩ := HNUM.out
          have hq1 := SC_r.out.1.2.2.2
          have hq2 := SC_r.out.2.1.2.2.2
          have h1 := SC_r.out.1.mid hm5 (.inr (by omega))
          have h2 := SC_r.out.2.1.mid hm5 (.inr (by omega))
          exact ⟨_, _, _, _, _, _, rfl, (fun _ => ⟨_, _, M0, rfl, h1.wide (by omega) (Nat.le_refl _) h1.2.2.1, h2.wide hMN (h2.le) (Nat.le_refl _)⟩), HB_r.out.trans (hm5.toBelow (by omega) HB_r.out.size)⟩

end Go.Proofs.Ytchlnkdlnfjijaa

/- Chapter 12, the reference: qualified dealers, QualifiedIn. -/
namespace Go.Proofs.Ytchlnkdlnfjijaa
open Go.RowKit
set_option linter.unusedVariables false
set_option linter.unusedSimpArgs false

/-- Two rows as they grow. -/
def StQ (v0 : World) (V S : Value) (m : Nat) (q : List Int) (vs : List Value) (qd : List DlD) (w : World) : Prop :=
  w.ownsRow v0.heap.size 3 1 V m (q.map (Value.int .i64)) ∧ w.ownsRow v0.heap.size 42 2 S m vs ∧ ElX (Xr V S) w vs qd ∧ Below v0.heap.size v0 w
theorem StQ.below {v0 w w' : World} {V S : Value} {m : Nat} {q : List Int} {vs : List Value} {qd : List DlD} (h : StQ v0 V S m q vs qd w) (hb : Below w.heap.size w w') : StQ v0 V S m q vs qd w' :=
  ⟨own_below h.1 hb, own_below h.2.1 hb, h.2.2.1.below hb, bt h.2.2.2 hb⟩
/-- What a mended dealing is, if it is one. -/
def MdO (ok : Bool) (Q P : Nat) (v : Value) (d : DlD) (w : World) : Prop := ok = true → OwD Q P w v d
theorem MdO.below {ok : Bool} {Q P : Nat} {v : Value} {d : DlD} {w w' : World} (h : MdO ok Q P v d w) (hb : Below w.heap.size w w') : MdO ok Q P v d w' := fun h1 => (h h1).below hb
theorem MdO.mid {ok : Bool} {Q P A B : Nat} {v : Value} {d : DlD} {w w' : World} (h : MdO ok Q P v d w) (hm : Mid A B w w') (ho : P ≤ A ∨ B ≤ Q) : MdO ok Q P v d w' := fun h1 => (h h1).mid hm ho
def Cv (w : World) (a : Addr) (v : Value) : Prop := w.cell? a = some v
theorem Cv.below {w w' : World} {a : Addr} {v : Value} (h : Cv w a v) (hb : Below w.heap.size w w') : Cv w' a v := (hb.cell (World.block_lt_of_cell? w _ h)).trans h
theorem Cv.mid {w w' : World} {a : Addr} {v : Value} {A B : Nat} (h : Cv w a v) (hm : Mid A B w w') (ho : a.block < A) : Cv w' a v := (World.cell?_of_block (hm.block a.block (World.block_lt_of_cell? w _ h) (.inl ho))).trans h
theorem InX.mid {X : Nat → Prop} {w w' : World} {A B : Nat} {v : Value} {zs : List Int} (h : InX X w v zs) (hm : Mid A B w w') (hX : ∀ b, A ≤ b → b < B → b < w.heap.size → X b) : InX X w' v zs := by
  obtain ⟨ad, cap, rfl, h1, h2, h3⟩ := h
  refine ⟨ad, cap, rfl, h1, h2, ?_⟩
  rcases h3 with h3 | ⟨b, off, h4, h5, h6, h7⟩
  · exact .inl h3
  · have hab : b < A ∨ B ≤ b := by
      rcases Nat.lt_or_ge b A with h | h
      · exact .inl h
      · rcases Nat.lt_or_ge b B with h' | h'
        · exact absurd (hX b h h' h6) h5
        · exact .inr h'
    refine .inr ⟨b, off, h4, h5, Nat.lt_of_lt_of_le h6 hm.size, fun i hi => ?_⟩
    rw [World.cell?_of_block (a := ⟨b, off + i, none⟩) (hm.block b h6 hab)]; exact h7 i hi
def RowK (B : Nat) (e : TypeId) (sz : Nat) (v : Value) (n : Nat) (xs : List Value) (w : World) : Prop := w.ownsRow B e sz v n xs
theorem RowK.below {B sz n : Nat} {e : TypeId} {v : Value} {xs : List Value} {w w' : World} (h : RowK B e sz v n xs w) (hb : Below w.heap.size w w') : RowK B e sz v n xs w' := own_below h hb
theorem RowK.mid {B sz n A C : Nat} {e : TypeId} {v : Value} {xs : List Value} {w w' : World} (h : RowK B e sz v n xs w) (hm : Mid A C w w') (ho : ∀ g, v.ownBlock = some g → g < A) : RowK B e sz v n xs w' :=
  own_block (show w.ownsRow B e sz v n xs from h) (fun g hg => hm.block g (World.ownsRow.lt h g hg).2 (.inl (ho g hg)))
theorem InX.sub {X Y : Nat → Prop} {w : World} {v : Value} {zs : List Int} (h : InX X w v zs) (hs : ∀ b, Y b → X b) : InX Y w v zs := by
  obtain ⟨ad, cap, rfl, h1, h2, h3⟩ := h
  exact ⟨ad, cap, rfl, h1, h2, h3.imp id (fun ⟨b, off, h4, h5, h6⟩ => ⟨b, off, h4, fun hy => h5 (hs b hy), h6⟩)⟩
theorem InX.bound {X : Nat → Prop} {w : World} {v : Value} {zs : List Int} (h : InX X w v zs) : InX (fun b => X b ∨ w.heap.size ≤ b) w v zs := by
  obtain ⟨ad, cap, rfl, h1, h2, h3⟩ := h
  exact ⟨ad, cap, rfl, h1, h2, h3.imp id (fun ⟨b, off, h4, h5, h6, h7⟩ => ⟨b, off, h4, fun hy => hy.elim h5 (fun h => by omega), h6, h7⟩)⟩
theorem ElX.sub {X Y : Nat → Prop} {w : World} {vs : List Value} {ds : List DlD} (h : ElX X w vs ds) (hs : ∀ b, Y b → X b) : ElX Y w vs ds := fun i d hd => by
  obtain ⟨x, y, h1, h2, h3, h4⟩ := h i d hd
  exact ⟨x, y, h1, h2, h3.sub hs, h4.sub hs⟩
theorem ElX.bound {X : Nat → Prop} {w : World} {vs : List Value} {ds : List DlD} (h : ElX X w vs ds) : ElX (fun b => X b ∨ w.heap.size ≤ b) w vs ds := fun i d hd => by
  obtain ⟨x, y, h1, h2, h3, h4⟩ := h i d hd
  exact ⟨x, y, h1, h2, h3.bound, h4.bound⟩
theorem ElX.mid {X : Nat → Prop} {w w' : World} {A B : Nat} {vs : List Value} {ds : List DlD} (h : ElX X w vs ds) (hm : Mid A B w w') (hX : ∀ b, A ≤ b → b < B → b < w.heap.size → X b) : ElX X w' vs ds := fun i d hd => by
  obtain ⟨x, y, h1, h2, h3, h4⟩ := h i d hd
  exact ⟨x, y, h1, h2, h3.mid hm hX, h4.mid hm hX⟩

set_option maxRecDepth 100000 in
set_option maxHeartbeats 6400000 in
theorem kgQualified_any (P Q G : Int) {B : Nat} {v : Value} {ds : List DlD} (hl : ds.length ≤ 1048576) (hr : nDs ds ≤ 1048576) {B2 : Nat} {u : Value} {av : List (List Int)} (hl2 : av.length ≤ 1048576) (hr2 : nS av ≤ 1048576) {w : World} (hz : InDs B w v ds) (hu : InS B2 w u av) (hk : kaB P Q G ds av = true) :
    Calls Try.prog 103 #[gv P Q G, v, u] w (AnsT w (quL P Q G ds av ds.length) (qdL P Q G ds av ds.length)) := by
  obtain ⟨la, lc, rfl⟩ := hz.shape
  obtain ⟨ua, uc, rfl⟩ := hu.shape
  have hmf : ∀ (fn : Fn) (first cap : Array Value) (w : World), (Instr.makeFunc fn first cap).run Try.prog w = .ok (.func fn first cap) w := fun _ _ _ _ => rfl
  have G_0 := Lib.hid (gr_atS w w.heap.size rfl P Q G 24)
  have HB_0 := Lib.hid (show Below w.heap.size w (w.alloc (.cells #[.int .i64 P, .int .i64 Q, .int .i64 G] 24)) from ba _ _)
  have L_0 := Lib.hid (hz.below HB_0.out)
  have U_0 := Lib.hid (hu.below HB_0.out)
  clear hz hu
  obtain ⟨hki, hal0, has0⟩ := ka_facts hk
  obtain ⟨htr, ⟨hd1, hd7⟩, hdd⟩ := ki_facts hki
  have HGD := Lib.hid (trB_of htr).1
  have HDD := Lib.hid hdd
  have HAL := Lib.hid hal0
  have HAS := Lib.hid has0
  clear hki hal0 has0 htr hdd hk
  obtain ⟨i0, hi0, hy0, hy1, hy2⟩ := info_parts Try.info3
  obtain ⟨i1, hj0, hw0, hw1, hw2⟩ := info_parts Try.infoDD
  have hBL := L_0.out.le
  have hBU := U_0.out.le
  have HLG := Lib.hid (show w.heap.size + 1 ≤ (w.alloc (.cells #[.int .i64 P, .int .i64 Q, .int .i64 G] 24)).heap.size by simp)
  obtain ⟨v0, hv0⟩ : ∃ W, w.alloc (.cells #[.int .i64 P, .int .i64 Q, .int .i64 G] 24) = W := ⟨_, rfl⟩
  rw [hv0] at G_0 HB_0 L_0 U_0 hBL hBU HLG
  go_enter Try.func103, Try.ntmps103
  go_wp2
  clear hv0
  go_loopw [8, 9, 10, 11, 12, 13, 16] (fun V S _ _ _ _ K wr => ∃ (k m : Nat) (va : Option Addr) (vc : Nat) (vb : Option Addr) (vd : Nat) (vs : List Value), k ≤ ds.length ∧ (quL P Q G ds av k).length = m ∧ V = .slice va m vc ∧ S = .slice vb m vd ∧ K = .int .i64 k ∧ StQ v0 (.slice va m vc) (.slice vb m vd) m (quL P Q G ds av k) vs (qdL P Q G ds av k) wr) (fun _ _ _ _ _ _ K _ => ds.length - (intOf K).toNat)
  case atStart => exact ⟨0, 0, none, 0, none, 0, [], Nat.zero_le _, rfl, rfl, rfl, rfl, World.ownsRow_nil _ _ _ _, World.ownsRow_nil _ _ _ _, (fun i d hd => by simp [qdL] at hd), Below.refl _ _⟩
  case round =>
    obtain ⟨k, m, va, vc, vb, vd, vs, hk, hm, rfl, rfl, rfl, hst⟩ := hrel
    have HM := Lib.hid hm
    have hmk : m ≤ k := by rw [← hm]; exact (quL_length P Q G ds av k).2
    clear hm
    by_cases hkn : k < ds.length
    · generalize wr = wq at *
      obtain ⟨b, off, x, y, d, rfl, hb, hx, hy, hi, hj, hd⟩ := L_0.out.at (k := k) hkn
      obtain ⟨p1, p2, rfl⟩ := hi.shape
      obtain ⟨r1, r2, rfl⟩ := hj.shape
      have hku : k < av.length := by have := HAL.out; omega
      obtain ⟨bu, ou, o1, o2, own, rfl, hbu, hox, hoi, hod⟩ := U_0.out.at (k := k) hku
      have hbel := hst.2.2.2
      have hx9 := (hbel.cell (p := ⟨b, off + k * 2, none⟩) hb).trans hx
      have hy9 := (hbel.cell (p := ⟨b, off + k * 2 + 1, none⟩) hb).trans hy
      have hdm : d ∈ ds := List.mem_of_mem_drop (i := k) (by rw [hd]; simp)
      have hiv := (HDD.out d hdm).1
      obtain ⟨ho7, hor⟩ := HAS.out own (List.mem_of_mem_drop (i := k) (by rw [hod]; simp))
      have HD := Lib.hid (show ds.getD k nilD = d from getD_drop hd)
      have HO9 := Lib.hid (show av.getD k [] = own from getD_drop hod)
      have HIV := Lib.hid hiv
      have HOR := Lib.hid hor
      have ha0 := ba wq (.cells #[.slice p1 d.c.length p2, .slice r1 d.s.length r2] 42)
      have hB0 := bt hbel ha0
      have HXV := Lib.hid (show ∀ b, Xr (.slice va m vc) (.slice vb m vd) b → v0.heap.size ≤ b ∧ b < wq.heap.size from fun b hb => hb.elim (fun h => hst.1.lt b h) (fun h => hst.2.1.lt b h))
      have G_0x := Lib.hid (G_0.out.below hB0)
      have D_0x := Lib.hid (v2_at wq wq.heap.size rfl (.slice p1 d.c.length p2) (.slice r1 d.s.length r2) 42)
      have UC_0x := Lib.hid (show Cv _ ⟨bu, ou + k, none⟩ (.slice o1 own.length o2) from (hB0.cell (p := ⟨bu, ou + k, none⟩) hbu).trans hox)
      have RV_0x := Lib.hid (show RowK _ _ _ _ _ _ _ from own_below hst.1 ha0)
      have RS_0x := Lib.hid (show RowK _ _ _ _ _ _ _ from own_below hst.2.1 ha0)
      have EE_0x := Lib.hid (hst.2.2.1.bound.below ha0)
      have BV_0x := Lib.hid (show BZw v0 _ from hB0)
      have HB_0x := Lib.hid hB0
      have ID_0x := Lib.hid (show InD _ _ (.agg #[.slice p1 d.c.length p2, .slice r1 d.s.length r2]) d from ⟨_, _, rfl, hi.below hB0, hj.below hB0⟩)
      have IO_0x := Lib.hid (hoi.below hB0)
      have BB_0x := Lib.hid (show BZw (wq.alloc (.cells #[.slice p1 d.c.length p2, .slice r1 d.s.length r2] 42)) (wq.alloc (.cells #[.slice p1 d.c.length p2, .slice r1 d.s.length r2] 42)) from Below.refl _ _)
      have hvq := hbel.size
      have LUQ := Lib.hid (show bu < wq.heap.size from Nat.lt_of_lt_of_le hbu hvq)
      have HLQ := Lib.hid hvq
      have lGq := HLG.out
      clear hiv hor ha0 hi hj hd hod hst hbel hoi hox hx hy hdm hB0
      go_upto_region 6 with fail
      clear hx9 hy9
      obtain ⟨wx, hwx⟩ : ∃ W, wq.alloc (.cells #[.slice p1 d.c.length p2, .slice r1 d.s.length r2] 42) = W := ⟨_, rfl⟩
      rw [hwx] at G_0x D_0x UC_0x RV_0x RS_0x EE_0x BV_0x HB_0x ID_0x IO_0x BB_0x ⊢
      have HWX := Lib.hid (show wx.heap.size = wq.heap.size + 1 by rw [← hwx]; simp)
      clear hwx
      go_cut [12, 13] (fun s12 s13 wz => ∃ (bx : Nat) (m1 : Option Addr) (n1 c1 : Nat) (m2 : Option Addr) (n2 c2 QQ PP : Nat), s12 = .pointer (some ⟨bx, 0, none⟩) ∧ s13 = .bool (mdB P Q G d own) ∧ VD2 wz bx (.slice m1 n1 c1) (.slice m2 n2 c2) ∧ MdO (mdB P Q G d own) QQ PP (.agg #[.slice m1 n1 c1, .slice m2 n2 c2]) (mdV P Q G d own) wz ∧ wq.heap.size ≤ QQ ∧ wq.heap.size ≤ bx ∧ RowK v0.heap.size 3 1 (.slice va m vc) m ((quL P Q G ds av k).map (Value.int .i64)) wz ∧ RowK v0.heap.size 42 2 (.slice vb m vd) m vs wz ∧ ElX (fun b => Xr (.slice va m vc) (.slice vb m vd) b ∨ wq.heap.size ≤ b) wz vs (qdL P Q G ds av k) ∧ BZw v0 wz)
      case first =>
        have hbd : Below wx.heap.size wx wx.drew := (Below.refl _ wx).drew
        have HB_s := Lib.hid (bt HB_0x.out hbd)
        have G_s := Lib.hid (G_0x.out.below hbd)
        have D_s := Lib.hid (D_0x.out.below hbd)
        have UC_s := Lib.hid (UC_0x.out.below hbd)
        have RV_s := Lib.hid (RV_0x.out.below hbd)
        have RS_s := Lib.hid (RS_0x.out.below hbd)
        have EE_s := Lib.hid (EE_0x.out.below hbd)
        have BV_s := Lib.hid (BV_0x.out.below hbd)
        have ID_s := Lib.hid (ID_0x.out.below hbd)
        have IO_s := Lib.hid (IO_0x.out.below hbd)
        have BB_s := Lib.hid (BB_0x.out.below hbd)
        clear hbd
        refine wp_region_held_drew (S := (fun w' => (w'.cell? ⟨w.heap.size, 0, none⟩ = some (.int .i64 P) ∧ w'.cell? ⟨w.heap.size, 1, none⟩ = some (.int .i64 Q) ∧ w'.cell? ⟨w.heap.size, 2, none⟩ = some (.int .i64 G)) ∧ (w'.cell? ⟨wq.heap.size, 0, none⟩ = some (.slice p1 d.c.length p2) ∧ w'.cell? ⟨wq.heap.size, 1, none⟩ = some (.slice r1 d.s.length r2)) ∧ w'.cell? ⟨bu, ou + k, none⟩ = some (.slice o1 own.length o2))) (by kernel_rfl) (show _ from ⟨G_0x.out, ⟨D_0x.out.1, D_0x.out.2.1⟩, UC_0x.out⟩) (fun hHeld => ?_)
        generalize hW0 : wx.drew = Ws at *
        clear hW0
        refine wpAnyH_take (i := 0) (v := ?_) rfl (by kernel_rfl) (by kernel_rfl) (by kernel_rfl) (fun _ _ _ h => h) (Or.inl ⟨by kernel_rfl, ?_⟩) (by assumption) ?_
        rotate_left 1
        · intro w9 hSw
          try dsimp only at hSw
          go_simp
          try with_reducible rfl
        try simp only [Act.put, List.getElem_toArray, List.getElem_cons_succ, List.getElem_cons_zero, List.setIfInBounds_toArray, List.set_cons_zero, List.set_cons_succ]
        refine wpAnyH_take (i := 1) (v := ?_) rfl (by kernel_rfl) (by kernel_rfl) (by kernel_rfl) (fun _ _ _ h => h) (Or.inl ⟨by kernel_rfl, ?_⟩) (by assumption) ?_
        rotate_left 1
        · intro w9 hSw
          try dsimp only at hSw
          go_simp
          try with_reducible rfl
        try simp only [Act.put, List.getElem_toArray, List.getElem_cons_succ, List.getElem_cons_zero, List.setIfInBounds_toArray, List.set_cons_zero, List.set_cons_succ]
        refine wpAnyH_take (i := 2) (v := ?_) rfl (by kernel_rfl) (by kernel_rfl) (by kernel_rfl) (fun _ _ _ h => h) (Or.inl ⟨by kernel_rfl, ?_⟩) (by assumption) ?_
        rotate_left 1
        · intro w9 hSw
          try dsimp only at hSw
          go_simp
          try with_reducible rfl
        try simp only [Act.put, List.getElem_toArray, List.getElem_cons_succ, List.getElem_cons_zero, List.setIfInBounds_toArray, List.set_cons_zero, List.set_cons_succ]
        refine wpAnyH_take (i := 3) (v := ?_) rfl (by kernel_rfl) (by kernel_rfl) (by kernel_rfl) (fun _ _ _ h => h) (Or.inl ⟨by kernel_rfl, ?_⟩) (by assumption) ?_
        rotate_left 1
        · intro w9 hSw
          try dsimp only at hSw
          go_simp
          try with_reducible rfl
        try simp only [Act.put, List.getElem_toArray, List.getElem_cons_succ, List.getElem_cons_zero, List.setIfInBounds_toArray, List.set_cons_zero, List.set_cons_succ]
        refine wpAnyH_take (i := 4) (v := ?_) rfl (by kernel_rfl) (by kernel_rfl) (by kernel_rfl) (fun _ _ _ h => h) (Or.inl ⟨by kernel_rfl, ?_⟩) (by assumption) ?_
        rotate_left 1
        · intro w9 hSw
          try dsimp only at hSw
          go_simp
          try with_reducible rfl
        try simp only [Act.put, List.getElem_toArray, List.getElem_cons_succ, List.getElem_cons_zero, List.setIfInBounds_toArray, List.set_cons_zero, List.set_cons_succ]
        refine wpAnyH_take (i := 5) (v := ?_) rfl (by kernel_rfl) (by kernel_rfl) (by kernel_rfl) (fun _ _ _ h => h) (Or.inl ⟨by kernel_rfl, ?_⟩) (by assumption) ?_
        rotate_left 1
        · intro w9 hSw
          try dsimp only at hSw
          go_simp
          try with_reducible rfl
        try simp only [Act.put, List.getElem_toArray, List.getElem_cons_succ, List.getElem_cons_zero, List.setIfInBounds_toArray, List.set_cons_zero, List.set_cons_succ]
        refine wpAnyH_ready (rs := [6, 10]) (by kernel_rfl) (by simp) ?_
        refine AllReadyH.cons rfl (fun K hK => ?_) (AllReadyH.cons rfl (fun K hK => ?_) (AllReadyH.nil))
        · go_simp
          (first | have LMB0 := Lib.hid Z2_s.out.lt | skip)
          have LQ := Lib.hid (show wq.heap.size ≤ Ws.heap.size from by have h1 := Below.size BB_s.out; have h2 := HWX.out; omega)
          go_at_call 134
          refine (kgMended_any P Q G HIV.out ho7 HOR.out ID_s.out IO_s.out).mono ?_
          rintro e' Wsg ⟨m1, n1, c1, m2, n2, c2, rfl, hmo, hb⟩
          have HB_sg := Lib.hid (bt HB_s.out hb)
          have G_sg := Lib.hid (G_s.out.below hb)
          have D_sg := Lib.hid (D_s.out.below hb)
          have UC_sg := Lib.hid (UC_s.out.below hb)
          have RV_sg := Lib.hid (RV_s.out.below hb)
          have RS_sg := Lib.hid (RS_s.out.below hb)
          have EE_sg := Lib.hid (EE_s.out.below hb)
          have BV_sg := Lib.hid (BV_s.out.below hb)
          have ID_sg := Lib.hid (ID_s.out.below hb)
          have IO_sg := Lib.hid (IO_s.out.below hb)
          have BB_sg := Lib.hid (BB_s.out.below hb)
          have MO_sg := Lib.hid (show MdO _ _ _ _ _ _ from hmo)
          clear hb
          go_wp2_with fail
          refine hK.out _ _ (show _ from ⟨G_sg.out, ⟨D_sg.out.1, D_sg.out.2.1⟩, UC_sg.out⟩) (fun hHeld => ?_)
          clear hK K
          try simp only [Act.put, List.getElem_toArray, List.getElem_cons_succ, List.getElem_cons_zero, List.setIfInBounds_toArray, List.set_cons_zero, List.set_cons_succ]
          refine wpAnyH_take (i := 7) (v := ?_) rfl (by kernel_rfl) (by kernel_rfl) (by kernel_rfl) (fun _ _ _ h => h) (Or.inl ⟨by kernel_rfl, ?_⟩) (by assumption) ?_
          rotate_left 1
          · intro w9 hSw
            try dsimp only at hSw
            go_simp
            try with_reducible rfl
          try simp only [Act.put, List.getElem_toArray, List.getElem_cons_succ, List.getElem_cons_zero, List.setIfInBounds_toArray, List.set_cons_zero, List.set_cons_succ]
          refine wpAnyH_take (i := 8) (v := ?_) rfl (by kernel_rfl) (by kernel_rfl) (by kernel_rfl) (fun _ _ _ h => h) (Or.inl ⟨by kernel_rfl, ?_⟩) (by assumption) ?_
          rotate_left 1
          · intro w9 hSw
            try dsimp only at hSw
            go_simp
            try with_reducible rfl
          try simp only [Act.put, List.getElem_toArray, List.getElem_cons_succ, List.getElem_cons_zero, List.setIfInBounds_toArray, List.set_cons_zero, List.set_cons_succ]
          refine wpAnyH_take (i := 9) (v := ?_) rfl (by kernel_rfl) (by kernel_rfl) (by kernel_rfl) (fun _ _ _ h => h) (Or.inl ⟨by kernel_rfl, ?_⟩) (by assumption) ?_
          rotate_left 1
          · intro w9 hSw
            try dsimp only at hSw
            go_simp
            try with_reducible rfl
          try simp only [Act.put, List.getElem_toArray, List.getElem_cons_succ, List.getElem_cons_zero, List.setIfInBounds_toArray, List.set_cons_zero, List.set_cons_succ]
          refine wpAnyH_ready (rs := [10]) (by kernel_rfl) (by simp) ?_
          refine AllReadyH.cons rfl (fun K hK => ?_) (AllReadyH.nil)
          go_simp
          have hb := ba Wsg (.cells #[.slice none 0 0, .slice none 0 0] 42)
          have HB_sgk := Lib.hid (bt HB_sg.out hb)
          have G_sgk := Lib.hid (G_sg.out.below hb)
          have D_sgk := Lib.hid (D_sg.out.below hb)
          have UC_sgk := Lib.hid (UC_sg.out.below hb)
          have RV_sgk := Lib.hid (RV_sg.out.below hb)
          have RS_sgk := Lib.hid (RS_sg.out.below hb)
          have EE_sgk := Lib.hid (EE_sg.out.below hb)
          have BV_sgk := Lib.hid (BV_sg.out.below hb)
          have ID_sgk := Lib.hid (ID_sg.out.below hb)
          have IO_sgk := Lib.hid (IO_sg.out.below hb)
          have BB_sgk := Lib.hid (BB_sg.out.below hb)
          have MO_sgk := Lib.hid (MO_sg.out.below hb)
          have Z2_sgk := Lib.hid (show VD2 (Wsg.alloc (.cells #[.slice none 0 0, .slice none 0 0] 42)) Wsg.heap.size (.slice none 0 0) (.slice none 0 0) from v2_at Wsg Wsg.heap.size rfl _ _ 42)
          have LB := Lib.hid (show wq.heap.size + 1 ≤ Wsg.heap.size from by have h1 := Below.size BB_sg.out; have h2 := HWX.out; omega)
          clear hb
          refine hK.out _ _ (show _ from ⟨G_sgk.out, ⟨D_sgk.out.1, D_sgk.out.2.1⟩, UC_sgk.out⟩) (fun hHeld => ?_)
          clear hK K
          try simp only [Act.put, List.getElem_toArray, List.getElem_cons_succ, List.getElem_cons_zero, List.setIfInBounds_toArray, List.set_cons_zero, List.set_cons_succ]
          generalize hW9 : Wsg.alloc (.cells #[.slice none 0 0, .slice none 0 0] 42) = Wsgk at *
          clear hW9
          refine wpAnyH_ready (rs := [11]) (by kernel_rfl) (by simp) ?_
          refine AllReadyH.cons rfl (fun K hK => ?_) AllReadyH.nil
          obtain ⟨y0, y1, yf⟩ := Z2_sgk.out
          have yf0 := yf 0
          have yf1 := yf 1
          clear yf
          have hm6 := mid_two7 Wsgk (Wsg.heap.size) (.slice m1 n1 c1) (.slice m2 n2 c2)
          have lG := HLG.out
          have lB := LB.out
          have G_y := Lib.hid (gr_mid7 G_sgk.out hm6 (by omega))
          have D_y := Lib.hid (D_sgk.out.mid hm6 (.inl (by omega)))
          have UC_y := Lib.hid (UC_sgk.out.mid hm6 (by show bu < _; omega))
          have Z2_y := Lib.hid ((Z2_sgk.out.set0 (.slice m1 n1 c1)).set1 (.slice m2 n2 c2))
          have MO_y := Lib.hid (MO_sgk.out.mid hm6 (by first | exact .inr LMB0.out | exact .inl (Nat.le_refl _)))
          have RV_y := Lib.hid (RV_sgk.out.mid hm6 (fun g hg => by have := (HXV.out g (.inl hg)).2; omega))
          have RS_y := Lib.hid (RS_sgk.out.mid hm6 (fun g hg => by have := (HXV.out g (.inr hg)).2; omega))
          have EE_y := Lib.hid (EE_sgk.out.mid hm6 (fun b h1 h2 h3 => .inr (by omega)))
          have BV_y := Lib.hid (show BZw v0 _ from Below.trans BV_sgk.out (hm6.toBelow (by omega) (Below.size BV_sgk.out)))
          go_simp
          refine hK.out _ _ (show _ from ⟨G_y.out, ⟨D_y.out.1, D_y.out.2.1⟩, UC_y.out⟩) (fun hHeld => ?_)
          clear hK K
          try simp only [Act.put, List.getElem_toArray, List.getElem_cons_succ, List.getElem_cons_zero, List.setIfInBounds_toArray, List.set_cons_zero, List.set_cons_succ]
          refine wpAnyH_take (i := 12) (v := ?_) rfl (by kernel_rfl) (by kernel_rfl) (by kernel_rfl) (fun _ _ _ h => h) (Or.inl ⟨by kernel_rfl, ?_⟩) (by assumption) ?_
          rotate_left 1
          · intro w9 hSw
            try dsimp only at hSw
            go_simp
            try with_reducible rfl
          try simp only [Act.put, List.getElem_toArray, List.getElem_cons_succ, List.getElem_cons_zero, List.setIfInBounds_toArray, List.set_cons_zero, List.set_cons_succ]
          refine wpAnyH_done (by kernel_rfl) ?_ _
          go_wp2_with fail
          go_meet
          exact ⟨_, _, _, _, _, _, _, _, _, rfl, rfl, Z2_y.out, MO_y.out, LQ.out, (by have := LB.out; omega), RV_y.out, RS_y.out, EE_y.out, BV_y.out⟩
        · go_simp
          have hb := ba Ws (.cells #[.slice none 0 0, .slice none 0 0] 42)
          have HB_sk := Lib.hid (bt HB_s.out hb)
          have G_sk := Lib.hid (G_s.out.below hb)
          have D_sk := Lib.hid (D_s.out.below hb)
          have UC_sk := Lib.hid (UC_s.out.below hb)
          have RV_sk := Lib.hid (RV_s.out.below hb)
          have RS_sk := Lib.hid (RS_s.out.below hb)
          have EE_sk := Lib.hid (EE_s.out.below hb)
          have BV_sk := Lib.hid (BV_s.out.below hb)
          have ID_sk := Lib.hid (ID_s.out.below hb)
          have IO_sk := Lib.hid (IO_s.out.below hb)
          have BB_sk := Lib.hid (BB_s.out.below hb)
          have Z2_sk := Lib.hid (show VD2 (Ws.alloc (.cells #[.slice none 0 0, .slice none 0 0] 42)) Ws.heap.size (.slice none 0 0) (.slice none 0 0) from v2_at Ws Ws.heap.size rfl _ _ 42)
          have LB := Lib.hid (show wq.heap.size + 1 ≤ Ws.heap.size from by have h1 := Below.size BB_s.out; have h2 := HWX.out; omega)
          clear hb
          refine hK.out _ _ (show _ from ⟨G_sk.out, ⟨D_sk.out.1, D_sk.out.2.1⟩, UC_sk.out⟩) (fun hHeld => ?_)
          clear hK K
          try simp only [Act.put, List.getElem_toArray, List.getElem_cons_succ, List.getElem_cons_zero, List.setIfInBounds_toArray, List.set_cons_zero, List.set_cons_succ]
          generalize hW9 : Ws.alloc (.cells #[.slice none 0 0, .slice none 0 0] 42) = Wsk at *
          clear hW9
          refine wpAnyH_ready (rs := [6]) (by kernel_rfl) (by simp) ?_
          refine AllReadyH.cons rfl (fun K hK => ?_) (AllReadyH.nil)
          go_simp
          (first | have LMB0 := Lib.hid Z2_sk.out.lt | skip)
          have LQ := Lib.hid (show wq.heap.size ≤ Wsk.heap.size from by have h1 := Below.size BB_sk.out; have h2 := HWX.out; omega)
          go_at_call 134
          refine (kgMended_any P Q G HIV.out ho7 HOR.out ID_sk.out IO_sk.out).mono ?_
          rintro e' Wskg ⟨m1, n1, c1, m2, n2, c2, rfl, hmo, hb⟩
          have HB_skg := Lib.hid (bt HB_sk.out hb)
          have G_skg := Lib.hid (G_sk.out.below hb)
          have D_skg := Lib.hid (D_sk.out.below hb)
          have UC_skg := Lib.hid (UC_sk.out.below hb)
          have RV_skg := Lib.hid (RV_sk.out.below hb)
          have RS_skg := Lib.hid (RS_sk.out.below hb)
          have EE_skg := Lib.hid (EE_sk.out.below hb)
          have BV_skg := Lib.hid (BV_sk.out.below hb)
          have ID_skg := Lib.hid (ID_sk.out.below hb)
          have IO_skg := Lib.hid (IO_sk.out.below hb)
          have BB_skg := Lib.hid (BB_sk.out.below hb)
          have Z2_skg := Lib.hid (Z2_sk.out.below hb)
          have MO_skg := Lib.hid (show MdO _ _ _ _ _ _ from hmo)
          clear hb
          go_wp2_with fail
          refine hK.out _ _ (show _ from ⟨G_skg.out, ⟨D_skg.out.1, D_skg.out.2.1⟩, UC_skg.out⟩) (fun hHeld => ?_)
          clear hK K
          try simp only [Act.put, List.getElem_toArray, List.getElem_cons_succ, List.getElem_cons_zero, List.setIfInBounds_toArray, List.set_cons_zero, List.set_cons_succ]
          refine wpAnyH_take (i := 7) (v := ?_) rfl (by kernel_rfl) (by kernel_rfl) (by kernel_rfl) (fun _ _ _ h => h) (Or.inl ⟨by kernel_rfl, ?_⟩) (by assumption) ?_
          rotate_left 1
          · intro w9 hSw
            try dsimp only at hSw
            go_simp
            try with_reducible rfl
          try simp only [Act.put, List.getElem_toArray, List.getElem_cons_succ, List.getElem_cons_zero, List.setIfInBounds_toArray, List.set_cons_zero, List.set_cons_succ]
          refine wpAnyH_take (i := 8) (v := ?_) rfl (by kernel_rfl) (by kernel_rfl) (by kernel_rfl) (fun _ _ _ h => h) (Or.inl ⟨by kernel_rfl, ?_⟩) (by assumption) ?_
          rotate_left 1
          · intro w9 hSw
            try dsimp only at hSw
            go_simp
            try with_reducible rfl
          try simp only [Act.put, List.getElem_toArray, List.getElem_cons_succ, List.getElem_cons_zero, List.setIfInBounds_toArray, List.set_cons_zero, List.set_cons_succ]
          refine wpAnyH_take (i := 9) (v := ?_) rfl (by kernel_rfl) (by kernel_rfl) (by kernel_rfl) (fun _ _ _ h => h) (Or.inl ⟨by kernel_rfl, ?_⟩) (by assumption) ?_
          rotate_left 1
          · intro w9 hSw
            try dsimp only at hSw
            go_simp
            try with_reducible rfl
          try simp only [Act.put, List.getElem_toArray, List.getElem_cons_succ, List.getElem_cons_zero, List.setIfInBounds_toArray, List.set_cons_zero, List.set_cons_succ]
          refine wpAnyH_ready (rs := [11]) (by kernel_rfl) (by simp) ?_
          refine AllReadyH.cons rfl (fun K hK => ?_) AllReadyH.nil
          obtain ⟨y0, y1, yf⟩ := Z2_skg.out
          have yf0 := yf 0
          have yf1 := yf 1
          clear yf
          have hm6 := mid_two7 Wskg (Ws.heap.size) (.slice m1 n1 c1) (.slice m2 n2 c2)
          have lG := HLG.out
          have lB := LB.out
          have G_y := Lib.hid (gr_mid7 G_skg.out hm6 (by omega))
          have D_y := Lib.hid (D_skg.out.mid hm6 (.inl (by omega)))
          have UC_y := Lib.hid (UC_skg.out.mid hm6 (by show bu < _; omega))
          have Z2_y := Lib.hid ((Z2_skg.out.set0 (.slice m1 n1 c1)).set1 (.slice m2 n2 c2))
          have MO_y := Lib.hid (MO_skg.out.mid hm6 (by first | exact .inr LMB0.out | exact .inl (Nat.le_refl _)))
          have RV_y := Lib.hid (RV_skg.out.mid hm6 (fun g hg => by have := (HXV.out g (.inl hg)).2; omega))
          have RS_y := Lib.hid (RS_skg.out.mid hm6 (fun g hg => by have := (HXV.out g (.inr hg)).2; omega))
          have EE_y := Lib.hid (EE_skg.out.mid hm6 (fun b h1 h2 h3 => .inr (by omega)))
          have BV_y := Lib.hid (show BZw v0 _ from Below.trans BV_skg.out (hm6.toBelow (by omega) (Below.size BV_skg.out)))
          go_simp
          refine hK.out _ _ (show _ from ⟨G_y.out, ⟨D_y.out.1, D_y.out.2.1⟩, UC_y.out⟩) (fun hHeld => ?_)
          clear hK K
          try simp only [Act.put, List.getElem_toArray, List.getElem_cons_succ, List.getElem_cons_zero, List.setIfInBounds_toArray, List.set_cons_zero, List.set_cons_succ]
          refine wpAnyH_take (i := 12) (v := ?_) rfl (by kernel_rfl) (by kernel_rfl) (by kernel_rfl) (fun _ _ _ h => h) (Or.inl ⟨by kernel_rfl, ?_⟩) (by assumption) ?_
          rotate_left 1
          · intro w9 hSw
            try dsimp only at hSw
            go_simp
            try with_reducible rfl
          try simp only [Act.put, List.getElem_toArray, List.getElem_cons_succ, List.getElem_cons_zero, List.setIfInBounds_toArray, List.set_cons_zero, List.set_cons_succ]
          refine wpAnyH_done (by kernel_rfl) ?_ _
          go_wp2_with fail
          go_meet
          exact ⟨_, _, _, _, _, _, _, _, _, rfl, rfl, Z2_y.out, MO_y.out, LQ.out, (by have := LB.out; omega), RV_y.out, RS_y.out, EE_y.out, BV_y.out⟩
      case rest =>
        obtain ⟨bx, m1, n1, c1, m2, n2, c2, QQ, PP, rfl, rfl, hz2, hmo, hqq, hbx, hrv, hrs, hel, hbv⟩ := hcut
        have hel2 := hel.sub (Y := Xr (.slice va m vc) (.slice vb m vd)) (fun b h => .inl h)
        clear hel
        cases hmd : mdB P Q G d own
        · have HQ := Lib.hid (qu_off HD.out HO9.out hmd)
          have HRV := Lib.hid hrv
          have HRS := Lib.hid hrs
          have HEL := Lib.hid hel2
          have HBV := Lib.hid hbv
          clear hmd hmo hz2 hrv hrs hel2 hbv
          go_wp2
          go_roundw
          case rel => exact ⟨k + 1, m, va, vc, vb, vd, vs, by omega, by rw [HQ.out.1]; exact HM.out, rfl, rfl, by go_num, by rw [HQ.out.1, HQ.out.2]; exact ⟨HRV.out, HRS.out, HEL.out, HBV.out⟩⟩
          case measure => simp only [intOf]; omega
        · have HQ := Lib.hid (qu_on HD.out HO9.out hmd)
          obtain ⟨y1, y2, MM, hv9, ho1, ho2⟩ := hmo hmd
          simp only [Value.agg.injEq, Array.mk.injEq, List.cons.injEq, and_true] at hv9
          obtain ⟨rfl, rfl⟩ := hv9
          have hqm := ho1.2.2.2
          have hCX := InX.ofOw (X := Xr (.slice va m vc) (.slice vb m vd)) ho1 (fun b hb => .inl (by have := (HXV.out b hb).2; omega))
          have hSX := InX.ofOw (X := Xr (.slice va m vc) (.slice vb m vd)) ho2 (fun b hb => .inl (by have := (HXV.out b hb).2; omega))
          have hvl : vs.length = (qdL P Q G ds av k).length * 2 := by have h1 := (show World.ownsRow _ _ _ _ _ _ _ from hrs).1; have h2 := (quL_length P Q G ds av k).1; have h3 := HM.out; omega
          have hE4 := hel2.snoc hvl hCX hSX
          have ha1 := ba wc (.cells #[.int .i64 ((k : Int) + 1)] 3)
          have HV_l := Lib.hid (own_below hrv ha1)
          have HS_l := Lib.hid (own_below hrs ha1)
          have HE_l := Lib.hid (hE4.below ha1)
          have HB_l := Lib.hid (bt hbv ha1)
          have D_l := Lib.hid (hz2.below ha1)
          have hxk : IntKind.i64.wrap ((k : Int) + 1) = (k : Int) + 1 := by rw [IntKind.wrap_i64]; omega
          have hbz := hz2.lt
          clear hmd hmo ho1 ho2 hCX hSX hvl hE4 ha1 hz2 hrv hrs hel2 hbv
          go_wp2_with (first
            | (at_builtin
               refine wpList_append_lies _ rfl _ _ 25 rfl v0.heap.size 42 i1 (.agg #[.slice none 0 0, .slice none 0 0]) 2 48 Try.underlying25 hj0 hw0 hw1 hw2 rfl (by decide) _ _ _ rfl HS_m.out ⟨w6.heap.size, 0, none⟩ 1 1 [.slice m1 n1 c1, .slice m2 n2 c2] rfl rfl (pair_new _ _ _ _) (by intro u hu; simp at hu; rcases hu with rfl | rfl <;> rfl) (by decide) (by unfold maxLen; omega) (by omega) HB_m.out.size (w6.heap.size + 1) (by simp) ?_
               intro g8 c8 w8 hown8 hgr8 hli8 hlt8
               have HV_8 := Lib.hid (rows_kept HS_m.out HV_m.out (by decide) hgr8)
               have HS_8 := Lib.hid hown8
               have HE_8 := Lib.hid (HE_m.out.grown (X' := Xr (.slice (some ⟨g6, 0, none⟩) (m + 1) c6) (.slice (some ⟨g8, 0, none⟩) (m + 1) c8)) hgr8 (fun k hk => .inr hk) (fun k hk => hk.elim (fun h => .inl (.inl h)) (fun h => by
                 have e : g8 = k := by simpa [Value.ownBlock] using h
                 subst e
                 exact hli8.elim (fun h => .inl (.inr h)) (fun h => .inr (by rw [h]; simp)))))
               have HB_8 := Lib.hid (HB_m.out.grown hgr8 HB_m.out.size (fun q hq => (HS_m.out.lt q hq).1))
               clear hown8 hgr8 hli8 hlt8)
            | (at_builtin
               refine wpList_append_lies _ rfl _ _ 29 rfl v0.heap.size 3 i0 (.int .i64 0) 1 8 Try.underlying29 hi0 hy0 hy1 hy2 rfl (by decide) _ _ _ rfl HV_l.out ⟨wc.heap.size, 0, none⟩ 1 1 [.int .i64 ((k : Int) + 1)] rfl rfl (cell_one_new _ _ _) (ints_oneCell .i64 [(k : Int) + 1]) (by decide) (by unfold maxLen; omega) (by omega) HB_l.out.size (wc.heap.size + 1) (by simp) ?_
               intro g6 c6 w6 hown6 hgr6 hli6 hlt6
               have HV_6 := Lib.hid (show w6.ownsRow v0.heap.size 3 1 (.slice (some ⟨g6, 0, none⟩) (m + 1) c6) (m + 1) ((quL P Q G ds av k ++ [(k : Int) + 1]).map (Value.int .i64)) by rw [List.map_append]; exact hown6)
               have hS6 := rows_kept HV_l.out HS_l.out (by decide) hgr6
               have hE6 := HE_l.out.grown (X' := Xr (.slice (some ⟨g6, 0, none⟩) (m + 1) c6) (.slice vb m vd)) hgr6 (fun k hk => .inl hk) (fun k hk => hk.elim (fun h => by
                 have e : g6 = k := by simpa [Value.ownBlock] using h
                 subst e
                 exact hli6.elim (fun h => .inl (.inl h)) (fun h => .inr (by rw [h]; simp))) (fun h => .inl (.inr h)))
               have hB6 := HB_l.out.grown hgr6 HB_l.out.size (fun q hq => (HV_l.out.lt q hq).1)
               have e0 := (hgr6.cell_far ⟨bx, 0, none⟩ (by simp; omega) (fun e => by have := (HXV.out bx (.inl e.symm)).2; omega)).trans D_l.out.1
               have e1 := (hgr6.cell_far ⟨bx, 1, none⟩ (by simp; omega) (fun e => by have := (HXV.out bx (.inl e.symm)).2; omega)).trans D_l.out.2.1
               have ha2 := ba w6 (.cells #[.slice m1 n1 c1, .slice m2 n2 c2] 42)
               have HV_m := Lib.hid (own_below HV_6.out ha2)
               have HS_m := Lib.hid (own_below hS6 ha2)
               have HE_m := Lib.hid (hE6.below ha2)
               have HB_m := Lib.hid (bt hB6 ha2)
               clear hown6 hgr6 hli6 hlt6 hS6 hE6 hB6 ha2))
          go_roundw
          case rel => exact ⟨k + 1, m + 1, some ⟨g6, 0, none⟩, c6, some ⟨g8, 0, none⟩, c8, vs ++ [.slice m1 n1 c1, .slice m2 n2 c2], by omega, by rw [HQ.out.1, List.length_append, HM.out]; rfl, rfl, rfl, by go_num, by rw [HQ.out.1, HQ.out.2]; exact ⟨HV_8.out, HS_8.out, HE_8.out, HB_8.out⟩⟩
          case measure => simp only [intOf]; omega
    · obtain rfl : k = ds.length := by omega
      have HST := Lib.hid hst
      clear hst
      go_wp2
      go_ret2
      exact ⟨_, _, rfl, (owI_mk HST.out.1 HST.out.2.2.2.size).wide HB_0.out.size (Nat.le_refl _) (Nat.le_refl _), inDs_of_row HST.out.2.1 (by have := (quL_length P Q G ds av ds.length).1; have := HM.out; omega) HST.out.2.2.1, bt HB_0.out HST.out.2.2.2⟩

set_option maxRecDepth 100000 in
set_option maxHeartbeats 3200000 in
theorem sQualifiedIn_any (P Q G : Int) {B : Nat} {v : Value} {ds : List DlD} (hl : ds.length ≤ 1048576) (hr : nDs ds ≤ 1048576) {B2 : Nat} {u : Value} {av : List (List Int)} (hl2 : av.length ≤ 1048576) (hr2 : nS av ≤ 1048576) {w : World} (hz : InDs B w v ds) (hu : InS B2 w u av) :
    Calls Try.prog 50 #[gv P Q G, v, u] w (AnsY w (qaR P Q G ds av) (kaB P Q G ds av)) := by
  obtain ⟨la, lc, rfl⟩ := hz.shape
  obtain ⟨ua, uc, rfl⟩ := hu.shape
  have hmf : ∀ (fn : Fn) (first cap : Array Value) (w : World), (Instr.makeFunc fn first cap).run Try.prog w = .ok (.func fn first cap) w := fun _ _ _ _ => rfl
  have G_0 := Lib.hid (gr_atS w w.heap.size rfl P Q G 24)
  have HB_0 := Lib.hid (show Below w.heap.size w (w.alloc (.cells #[.int .i64 P, .int .i64 Q, .int .i64 G] 24)) from ba _ _)
  have L_0 := Lib.hid (hz.below HB_0.out)
  have U_0 := Lib.hid (hu.below HB_0.out)
  clear hz hu
  cases h0 : kaB P Q G ds av
  · have K0 := Lib.hid (show kaB P Q G ds av = false from h0)
    have E1 := Lib.hid h0
    rw [qaR_off E1.out]
    clear h0
    obtain ⟨gG0, gG1, gG2⟩ := G_0.out
    go_enter Try.func50, Try.ntmps50
    go_wp2_with fail
    refine (kgAnswers_any P Q G hl hr hl2 hr2 L_0.out U_0.out).mono ?_
    rw [K0.out]
    rintro e v1 ⟨rfl, hb⟩
    have HB_1 := Lib.hid (bt HB_0.out hb)
    have G_1 := Lib.hid (G_0.out.below hb)
    have L_1 := Lib.hid (L_0.out.below hb)
    have U_1 := Lib.hid (U_0.out.below hb)
    clear hb gG0 gG1 gG2
    obtain ⟨gG0, gG1, gG2⟩ := G_1.out
    go_wp2
    go_ret2
    exact ⟨_, rfl, owI_nil _ _ HB_1.out.size, HB_1.out⟩
  have K0 := Lib.hid (show kaB P Q G ds av = true from h0)
  have E1 := Lib.hid h0
  rw [qaR_on E1.out]
  clear h0
  obtain ⟨gG0, gG1, gG2⟩ := G_0.out
  go_enter Try.func50, Try.ntmps50
  go_wp2_with fail
  refine (kgAnswers_any P Q G hl hr hl2 hr2 L_0.out U_0.out).mono ?_
  rw [K0.out]
  rintro e v1 ⟨rfl, hb⟩
  have HB_1 := Lib.hid (bt HB_0.out hb)
  have G_1 := Lib.hid (G_0.out.below hb)
  have L_1 := Lib.hid (L_0.out.below hb)
  have U_1 := Lib.hid (U_0.out.below hb)
  clear hb gG0 gG1 gG2
  obtain ⟨gG0, gG1, gG2⟩ := G_1.out
  go_wp2_with fail
  refine (kgQualified_any P Q G hl hr hl2 hr2 L_1.out U_1.out E1.out).mono ?_
  rintro e w4 ⟨q1, q2, rfl, ho, hi, hb4⟩
  have HO4 := Lib.hid ho
  have HB4 := Lib.hid (bt HB_1.out hb4)
  have HBS := Lib.hid HB_1.out.size
  clear ho hi hb4 gG0 gG1 gG2
  go_wp2
  go_ret2
  exact ⟨_, rfl, HO4.out.wide HBS.out (Nat.le_refl _) (Nat.le_refl _), HB4.out⟩

end Go.Proofs.Ytchlnkdlnfjijaa

