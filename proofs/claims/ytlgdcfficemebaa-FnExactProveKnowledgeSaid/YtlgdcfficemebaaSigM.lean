/- Sigma proofs: what proves. -/
import Derived.Test.YtlgdcfficemebaaSigT
import Derived.Test.YtlgdcfficemebaaSigX
namespace Go.Proofs.Ytlgdcfficemebaa
open Go.RowKit
set_option linter.unusedVariables false
set_option linter.unusedSimpArgs false

/-! ### A drawn region that stores into what it loads (as in ElM, under a name of its own) -/
/-- Operation n waits for operation i. -/
def lastWaitsK (ops : Array Oper) (n i : Nat) : Bool :=
  match ops[n]? with
  | some o => o.after.any fun e => Region.binds .any e && e.on == i
  | none => false
/-- Whatever order is picked from here on; behind every operation but number n the condition S holds. -/
def wpK (P : Program) (ops : Array Oper) (Q : Exit → Act → World → Prop) (n : Nat) (S : World → Prop) : Nat → Array Bool → Act → World → Prop
  | 0, L, a, w => Region.ready .any ops L = [] ∧ Q .normal a w
  | f + 1, L, a, w => (Region.ready .any ops L = [] → Q .normal a w) ∧
    ∀ i ∈ Region.ready .any ops L, wpOp P ops Q i (fun a' w' => (i ≠ n → S w') ∧ wpK P ops Q n S f (L.setIfInBounds i true) a' w') a w
theorem wpK_any {P : Program} {ops : Array Oper} {Q : Exit → Act → World → Prop} {n : Nat} {S : World → Prop} : ∀ (f : Nat) (L : Array Bool) (a : Act) (w : World), wpK P ops Q n S f L a w → wpAny P .any ops Q f L a w
  | 0, _, _, _, h => h
  | f + 1, _, _, _, h => ⟨h.1, fun i hi => wpOp_mono (fun a' w' k => wpK_any f _ a' w' k.2) (h.2 i hi)⟩
theorem wpK_begin {P : Program} {ops : Array Oper} {Q : Exit → Act → World → Prop} {n : Nat} {S : World → Prop} {id : Nat} {a : Act} {w : World} (hm : P.follows .mixedOrders = true)
    (h : wpK P ops Q n S ops.size (Array.replicate ops.size false) a w.drew) : (Code.region id ops true).wp P Q a w := wp_region_any hm (wpK_any _ _ _ _ h)

section
variable {P : Program} {ops : Array Oper} {Q : Exit → Act → World → Prop} {n : Nat} {S : World → Prop}
theorem wpK_first {i : Nat} {oi : Oper} {v : Value} (hi : ops[i]? = some oi) (hin : i ≠ n) (hlast : lastWaitsK ops n i = true)
    (hsel : ∀ (j : Nat) (o : Oper) cs b, ops[j]? = some o → o.op ≠ .select cs b) (hQ : ∀ c a w, Q (.panic c) (a.put oi.dst v) w → Q (.panic c) a w) :
    ∀ (f : Nat) (L : Array Bool) (a : Act) (w : World),
      (∀ j oj, ops[j]? = some oj → j ≠ i → L.getD j true = false → (∀ e ∈ oj.after, Region.binds .any e = true → e.on ≠ i) → oi.apart ops oj = true) →
      i ∈ Region.ready .any ops L → YieldsIf P ops S oi v a → S w → wpK P ops Q n S f (L.setIfInBounds i true) (a.put oi.dst v) w → wpK P ops Q n S (f + 1) L a w
  | f, L, a, w, hfree, hr, hy, hS, H => by
    refine ⟨fun h0 => (by rw [h0] at hr; cases hr), fun j hj => ?_⟩
    by_cases hji : j = i
    · subst hji
      exact hy.wpOp hi hS ⟨fun _ => hS, H⟩
    · cases f with
      | zero =>
        have := ready_mono hj hji
        rw [H.1] at this
        cases this
      | succ f =>
        obtain ⟨hjun, oj, hoj, hall⟩ := mem_ready.1 hj
        have hoff : L.getD i false = false := by
          have h0 := (mem_ready.1 hr).1
          rcases Nat.lt_or_ge i L.size with h' | h'
          · simp [h'] at h0 ⊢; exact h0
          · simp [Array.getElem?_eq_none h']
        have hnot : ∀ e ∈ oj.after, Region.binds .any e = true → e.on ≠ i := fun e he hb heq => by
          have h1 := hall e he hb
          rw [heq, hoff] at h1
          cases h1
        have hjn : j ≠ n := fun hjn => by
          subst hjn
          unfold lastWaitsK at hlast
          rw [hoj] at hlast
          obtain ⟨e, he, hb⟩ := Array.any_eq_true'.1 hlast
          simp only [Bool.and_eq_true, beq_iff_eq] at hb
          exact hnot e he hb.1 hb.2
        have h2 := wpOp_putIf hoj (hfree j oj hoj hji hjun hnot) (fun cs b => hsel i oi cs b hi) (fun cs b => hsel j oj cs b hoj) hQ hy (H.2 j (ready_mono hj hji))
        have hfree' : ∀ k ok, ops[k]? = some ok → k ≠ i → (L.setIfInBounds j true).getD k true = false →
            (∀ e ∈ ok.after, Region.binds .any e = true → e.on ≠ i) → oi.apart ops ok = true := fun k ok hk hki hun hno => by
          refine hfree k ok hk hki ?_ hno
          by_cases hjk : j = k
          · subst hjk; exact hjun
          · rw [getD_set_ne true hjk] at hun; exact hun
        refine wpOp_mono (fun a' w' h3 => ⟨fun _ => h3.2.1 hjn, wpK_first hi hin hlast hsel hQ f _ a' w' hfree' (ready_mono hr (Ne.symm hji)) h3.1 (h3.2.1 hjn) ?_⟩) h2
        rw [Array.setIfInBounds_comm _ _ hji]
        exact h3.2.2
theorem wpK_take {i : Nat} {oi : Oper} {v : Value} {f : Nat} {L : Array Bool} {a : Act} {w : World} (hi' : ops.toList[i]? = some oi)
    (hs : Region.noSelect ops = true) (hf : Region.free .any ops L i = true) (hr : (Region.ready .any ops L).contains i = true) (hl : (i != n && lastWaitsK ops n i) = true)
    (hQ : ∀ c a w, Q (.panic c) (a.put oi.dst v) w → Q (.panic c) a w) (hy : YieldsIf P ops S oi v a) (hS : S w)
    (h : wpK P ops Q n S f (L.setIfInBounds i true) (a.put oi.dst v) w) : wpK P ops Q n S (f + 1) L a w := by
  simp only [Bool.and_eq_true, bne_iff_ne] at hl
  have hi : ops[i]? = some oi := by rw [← Array.getElem?_toList]; exact hi'
  exact wpK_first hi hl.1 hl.2 (Region.noSelect_spec hs) hQ f L a w (Region.free_spec hi hf) (by simpa using hr) hy hS h
theorem wpK_one {i : Nat} {o : Oper} {f : Nat} {L : Array Bool} {a : Act} {w : World} (hr : Region.ready .any ops L = [i]) (ho' : ops.toList[i]? = some o)
    (h : ∀ K' : Act → World → Prop, Shut (∀ a w, (i ≠ n → S w) → wpK P ops Q n S f (L.setIfInBounds i true) a w → K' a w) → if Region.wanted o (yielded ops a.tmps) = true then Oper.wp P o a w K' Q else K' (a.put o.dst undef) w) : wpK P ops Q n S (f + 1) L a w := by
  refine ⟨fun h0 => (by rw [h0] at hr; cases hr), fun j hj => ?_⟩
  rw [hr] at hj
  obtain rfl : j = i := by simpa using hj
  have ho : ops[j]? = some o := by rw [← Array.getElem?_toList]; exact ho'
  exact wpOp_step ho (fun K' hK => h K' (fun a w hS hW => hK a w ⟨hS, hW⟩))
theorem wpK_two {i j : Nat} {o o' : Oper} {f : Nat} {L : Array Bool} {a : Act} {w : World} (hr : Region.ready .any ops L = [i, j]) (hoi : ops.toList[i]? = some o) (hoj : ops.toList[j]? = some o')
    (h : ∀ K' : Act → World → Prop, Shut (∀ a w, (i ≠ n → S w) → wpK P ops Q n S f (L.setIfInBounds i true) a w → K' a w) → if Region.wanted o (yielded ops a.tmps) = true then Oper.wp P o a w K' Q else K' (a.put o.dst undef) w)
    (h' : ∀ K' : Act → World → Prop, Shut (∀ a w, (j ≠ n → S w) → wpK P ops Q n S f (L.setIfInBounds j true) a w → K' a w) → if Region.wanted o' (yielded ops a.tmps) = true then Oper.wp P o' a w K' Q else K' (a.put o'.dst undef) w) : wpK P ops Q n S (f + 1) L a w := by
  refine ⟨fun h0 => (by rw [h0] at hr; cases hr), fun k hk => ?_⟩
  rw [hr] at hk
  simp only [List.mem_cons, List.not_mem_nil, or_false] at hk
  have ho : ops[i]? = some o := by rw [← Array.getElem?_toList]; exact hoi
  have ho' : ops[j]? = some o' := by rw [← Array.getElem?_toList]; exact hoj
  rcases hk with rfl | rfl
  · exact wpOp_step ho (fun K' hK => h K' (fun a w hS hW => hK a w ⟨hS, hW⟩))
  · exact wpOp_step ho' (fun K' hK => h' K' (fun a w hS hW => hK a w ⟨hS, hW⟩))
theorem wpK_done {L : Array Bool} {a : Act} {w : World} (hr : Region.ready .any ops L = []) (h : Q .normal a w) : ∀ f, wpK P ops Q n S f L a w
  | 0 => ⟨hr, h⟩
  | _ + 1 => ⟨fun _ => h, by rw [hr]; simp⟩
end

/-! ### A multiple is added (as in PolA) -/
theorem smul_res {q a b : Int} (h3 : q ≤ 2000000000) (ha0 : 0 ≤ a) (ha : a < q) (hb0 : 0 ≤ b) (hb : b < q) : 0 ≤ a * b ∧ a * b ≤ 4000000000000000000 := prod_bd ha0 (by omega) hb0 (by omega)
theorem sown_at {wr : World} {B g n cap j : Nat} {zs : List Int} (hown : wr.ownsRow B 3 1 (.slice (some ⟨g, 0, none⟩) n cap) n (zs.map (Value.int .i64))) (hj : j < n) {z : Int} (hz : zs[j]? = some z) :
    wr.cell? ⟨g, j, none⟩ = some (.int .i64 z) ∧ wr.frozen? ⟨g, j, none⟩ = false := by
  refine ⟨?_, hown.frozenAt j⟩
  rw [hown.cellAt j (by omega)]
  simp [hz]
theorem sown_set {wr : World} {B g n cap j : Nat} {zs : List Int} (hown : wr.ownsRow B 3 1 (.slice (some ⟨g, 0, none⟩) n cap) n (zs.map (Value.int .i64))) (z : Int) :
    (wr.setCell ⟨g, j, none⟩ (.int .i64 z)).ownsRow B 3 1 (.slice (some ⟨g, 0, none⟩) n cap) n ((zs.set j z).map (Value.int .i64)) := by
  have := (hown.stored j (.int .i64 z)).1
  rwa [← List.map_set] at this
/-- Where the row stands after k rounds. -/
def srowAt (q c : Int) (P gs : List Int) (off k : Nat) : List Int := P.take off ++ sxpy q (P.drop off) c (gs.take k)
theorem srowAt_get {q c : Int} {P gs : List Int} {off k : Nat} (hk : off + k < P.length) : (srowAt q c P gs off k)[off + k]? = P[off + k]? := by
  unfold srowAt
  rw [List.getElem?_append_right (by simp; omega)]
  have : off + k - (P.take off).length = k := by simp; omega
  rw [this, sxpy_get _ _ _ (by simp; omega), List.getElem?_drop]
theorem srowAt_step {q c a b : Int} {P gs rest : List Int} {off k : Nat} (hk : off + k < P.length) (ha : P[off + k]? = some a) (hb : gs.drop k = b :: rest) : (srowAt q c P gs off k).set (off + k) ((a + c * b) % q) = srowAt q c P gs off (k + 1) := by
  unfold srowAt
  rw [List.set_append_right _ _ (by simp; omega)]
  have : off + k - (P.take off).length = k := by simp; omega
  rw [this, sxpy_step _ _ _ a b (by rw [List.getElem?_drop]; exact ha)]
  have h : (gs.drop k)[0]? = some b := by rw [hb]; rfl
  rwa [List.getElem?_drop, Nat.add_zero] at h
theorem srowAt_zero (q c : Int) (P gs : List Int) (off : Nat) : srowAt q c P gs off 0 = P := by
  unfold srowAt; rw [List.take_zero, sxpy_nil, List.take_append_drop]
theorem srowAt_all {q c : Int} {P gs : List Int} {off k : Nat} (h : gs.length ≤ k) : srowAt q c P gs off k = P.take off ++ sxpy q (P.drop off) c gs := by
  unfold srowAt; rw [List.take_of_length_le h]

theorem sints_lt {w : World} {ad : Option Addr} {zs : List Int} (h : IsInts w ad zs) (h0 : zs ≠ []) : ∀ a, ad = some a → a.block < w.heap.size := by
  rcases h with h | ⟨b, off, rfl, hb, _⟩
  · exact absurd h h0
  · rintro a ⟨⟩; exact hb
theorem sints_ne {w : World} {ad : Option Addr} {zs : List Int} {g : Nat} (h : IsInts w ad zs) (hg : w.heap.size ≤ g) : zs ≠ [] → ∀ a, ad = some a → some a.block ≠ some g := by
  intro h0 a ha h'
  have := sints_lt h h0 a ha
  simp only [Option.some.injEq] at h'
  omega
def sAddPost (w : World) (B g N C : Nat) (zs : List Int) (e : Ending) (w' : World) : Prop :=
  (∃ v, e = .returned v) ∧ w'.ownsRow B 3 1 (.slice (some ⟨g, 0, none⟩) N C) N (zs.map (Value.int .i64)) ∧ w.grownBy w' (some g)

set_option maxHeartbeats 1600000 in
theorem saddMultiple_any (q c : Int) (B g off len cap N C : Nat) (P : List Int) (ad : Option Addr) (n cap' : Nat) (gs : List Int) (h2 : 2 ≤ q) (h3 : q ≤ 2000000000) (hc0 : 0 ≤ c) (hc : c < q)
    (hP : ∀ z ∈ P, 0 ≤ z ∧ z < q) (hg : ∀ z ∈ gs, 0 ≤ z ∧ z < q) (hn : gs.length = n) (hnl : n ≤ len) (hol : off + len ≤ N) (hN : N ≤ 1000000) (w : World)
    (hown : w.ownsRow B 3 1 (.slice (some ⟨g, 0, none⟩) N C) N (P.map (Value.int .i64))) (hz : IsInts w ad gs) (hne : gs ≠ [] → ∀ a, ad = some a → some a.block ≠ some g) :
    Calls Try.prog 128 #[.int .i64 q, .slice (some ⟨g, off, none⟩) len cap, .int .i64 c, .slice ad n cap'] w (sAddPost w B g N C (P.take off ++ sxpy q (P.drop off) c gs)) := by
  have hPl : P.length = N := by have := hown.1; simpa using this
  have HP := Lib.hid hP
  have HG := Lib.hid hg
  have HN := Lib.hid hn
  have HPL := Lib.hid hPl
  have HOW := Lib.hid hown
  clear hP hg hn hPl hown
  go_enter Try.func128, Try.ntmps128
  go_wp2_with fail
  go_loopw [8, 9, 12] (fun _ _ K wr => ∃ k : Nat, k ≤ n ∧ K = .int .i64 k ∧ wr.ownsRow B 3 1 (.slice (some ⟨g, 0, none⟩) N C) N ((srowAt q c P gs off k).map (Value.int .i64)) ∧ w.grownBy wr (some g)) (fun _ _ K _ => n - (intOf K).toNat)
  case atStart => exact ⟨0, Nat.zero_le _, rfl, by rw [srowAt_zero]; exact HOW.out, grown_of_below (Below.refl _ _) _⟩
  case round =>
    obtain ⟨k, hk, rfl, hownr, hgr⟩ := hrel
    by_cases hkn : k < n
    · obtain ⟨b, o', z, rfl, hb, hcz, hd⟩ := (hz.grown hgr (hne (by intro h; have := HN.out; simp [h] at this; omega))).at (k := k) (by have := HN.out; omega)
      have hok : off + k < P.length := by rw [HPL.out]; omega
      have hpk : P[off + k]? = some P[off + k] := by simp [hok]
      obtain ⟨hcu, hfu⟩ := sown_at hownr (j := off + k) (by omega) ((srowAt_get hok).trans hpk)
      have hpr := HP.out P[off + k] (List.getElem_mem hok)
      have hzr := HG.out z (mem_drop hd)
      obtain ⟨m0, m1⟩ := smul_res h3 hc0 hc hzr.1 hzr.2
      have HO := Lib.hid (sown_set (j := off + k) hownr ((P[off + k] + c * z) % q))
      have HS := Lib.hid (srowAt_step (q := q) (c := c) hok hpk hd)
      have HGR := Lib.hid hgr
      have HD := Lib.hid hd
      generalize P[off + k] = p at *
      clear hownr hgr hd hpk hok
      go_wp2
      go_roundw
      case rel =>
        refine ⟨k + 1, by omega, by go_num, ?_, grown_trans HGR.out (grown_cell _ _ _)⟩
        have h := HO.out
        rwa [HS.out] at h
      case measure => simp only [intOf]; omega
    · have HO := Lib.hid hownr
      have HGR := Lib.hid hgr
      clear hownr hgr
      go_wp2
      go_end0
      refine ⟨⟨_, rfl⟩, ?_, HGR.out⟩
      have h := HO.out
      rwa [srowAt_all (by have := HN.out; omega)] at h

/-! ### Commits are elements -/
theorem zip_el {P Q G c : Int} (hg : goodB P Q G = true) (hc : 0 ≤ c) : ∀ (a b : List Int), allEl P Q a = true → allEl P Q b = true → allEl P Q (List.zipWith (fun x y => decW P Q y x c) a b) = true
  | [], _, _, _ => by simp [allEl]
  | _ :: _, [], _, _ => by simp [allEl]
  | x :: a, y :: b, h1, h2 => by
    simp only [allEl, List.all_cons, Bool.and_eq_true, List.zipWith_cons_cons] at *
    exact ⟨dec_el hg h2.1 h1.1 hc, zip_el hg hc a b h1.2 h2.2⟩
theorem imgs_all {P Q G : Int} (hg : goodB P Q G = true) {rows : List (List Int)} {es : List Int} (hr : ∀ r ∈ rows, allEl P Q r = true) (he : allIn es 0 (Q - 1) = true) : allEl P Q (imgs P rows es) = true := by
  unfold allEl imgs
  rw [List.all_eq_true]
  intro z hz
  obtain ⟨r, hr', rfl⟩ := List.mem_map.1 hz
  exact pows_el hg r es 1 (one_el hg) (hr r hr') he
theorem in_take {es : List Int} {lo hi : Int} (h : allIn es lo hi = true) (k : Nat) : allIn (es.take k) lo hi = true := by
  unfold allIn at *
  rw [List.all_eq_true] at *
  exact fun z hz => h z (List.mem_of_mem_take hz)
theorem in_drop {es : List Int} {lo hi : Int} (h : allIn es lo hi = true) (k : Nat) : allIn (es.drop k) lo hi = true := by
  unfold allIn at *
  rw [List.all_eq_true] at *
  exact fun z hz => h z (List.mem_of_mem_drop hz)
theorem cmts_el {P Q G : Int} (hg : goodB P Q G = true) : ∀ (ps : List LinD) (h r : List Int), (∀ p ∈ ps, (∀ r ∈ p.1, allEl P Q r = true) ∧ allEl P Q p.2 = true) → (∀ e ∈ h, 0 ≤ e) → allIn r 0 (Q - 1) = true → allEl P Q (cmts P Q ps h r) = true
  | [], _, _, _, _, _ => by simp [cmts, allEl]
  | _ :: _, [], _, _, _, _ => by simp [cmts, allEl]
  | p :: ps, c :: cs, r, hp, hh, hr => by
    have ih := cmts_el hg ps cs (r.drop (wid p.1)) (fun p hm => hp p (by simp [hm])) (fun e he => hh e (by simp [he])) (in_drop hr _)
    have h1 := hp p (by simp)
    show allEl P Q (List.zipWith _ (imgs P p.1 _) p.2 ++ cmts P Q ps cs _) = true
    exact all_app (zip_el hg (hh c (by simp)) _ _ (imgs_all hg h1.1 (in_take hr _)) h1.2) ih

/-! ### An answer whose Challenges and Responses lie ahead of its Commits -/
def OwQ (Q P : Nat) (w : World) (v : Value) (p : PrD) : Prop := ∃ a b c M N, v = .agg #[a, b, c] ∧ OwI Q M w b p.h ∧ OwI M N w c p.r ∧ OwI N P w a p.c
theorem OwQ.below {Q P : Nat} {w w' : World} {v : Value} {p : PrD} (h : OwQ Q P w v p) (hb : Below w.heap.size w w') : OwQ Q P w' v p := by
  obtain ⟨a, b, c, M, N, rfl, h1, h2, h3⟩ := h
  exact ⟨a, b, c, M, N, rfl, h1.below hb, h2.below hb, h3.below hb⟩
theorem OwQ.mid {Q P A B : Nat} {w w' : World} {v : Value} {p : PrD} (h : OwQ Q P w v p) (hm : Mid A B w w') (ho : P ≤ A ∨ B ≤ Q) : OwQ Q P w' v p := by
  obtain ⟨a, b, c, M, N, rfl, h1, h2, h3⟩ := h
  have q1 := h1.2.2.2
  have q2 := h2.2.2.2
  have q3 := h3.2.2.2
  exact ⟨a, b, c, M, N, rfl, h1.mid hm (by omega), h2.mid hm (by omega), h3.mid hm (by omega)⟩
theorem OwQ.wide {Q P Q' P' : Nat} {w : World} {v : Value} {p : PrD} (h : OwQ Q P w v p) (hQ : Q' ≤ Q) (hP : P ≤ P') (hs : P' ≤ w.heap.size := by exact Nat.le_refl _) : OwQ Q' P' w v p := by
  obtain ⟨a, b, c, M, N, rfl, h1, h2, h3⟩ := h
  exact ⟨a, b, c, M, N, rfl, h1.wide hQ (Nat.le_refl _) h1.2.2.1, h2, h3.wide (Nat.le_refl _) hP hs⟩
theorem OwQ.toIn {Q P : Nat} {w : World} {v : Value} {p : PrD} (h : OwQ Q P w v p) : InP P w v p := by
  obtain ⟨a, b, c, M, N, rfl, h1, h2, h3⟩ := h
  have q2 := h2.2.2.2
  have q3 := h3.2.2.2
  have q4 := h3.2.2.1
  exact ⟨a, b, c, rfl, h3.toIn, h1.toIn.wide (by omega) q4, h2.toIn.wide (by omega) q4⟩
theorem OwQ.le {Q P : Nat} {w : World} {v : Value} {p : PrD} (h : OwQ Q P w v p) : P ≤ w.heap.size := h.toIn.le
theorem owQ_nil (Q : Nat) (w : World) (hQ : Q ≤ w.heap.size) : OwQ Q w.heap.size w (.agg #[.slice none 0 0, .slice none 0 0, .slice none 0 0]) nilP :=
  ⟨_, _, _, _, _, rfl, owI_nil Q w hQ, owI_nil _ w (Nat.le_refl _), owI_nil _ w (Nat.le_refl _)⟩
def AnsQ (base : Nat) (w : World) (p : PrD) (ok : Bool) (e : Ending) (w' : World) : Prop := ∃ a b c, e = .returned (.tuple #[.agg #[a, b, c], .bool ok]) ∧ OwQ base w'.heap.size w' (.agg #[a, b, c]) p ∧ Below base w w'
def MarkQ (Q P : Nat) (w : World) (p : PrD) (v : Value) (k : Int) (e : Ending) (w' : World) : Prop := e = .returned (.int .i64 (k + (p.n : Int))) ∧ OwQ Q P w' v (mkP k p) ∧ Mid Q P w w'

set_option maxRecDepth 100000 in
set_option maxHeartbeats 1600000 in
theorem markQ_any {Q P : Nat} {w : World} {v : Value} {p : PrD} {k : Int} (h : OwQ Q P w v p) (hk0 : 0 ≤ k) (hk1 : k ≤ 8796093022208) (hl : p.n ≤ 8796093022208) :
    Calls Try.prog 40 #[v, .int .i64 k] w (MarkQ Q P w p v k) := by
  obtain ⟨a, b, c, M, N, rfl, h1, h2, h3⟩ := h
  have q1 := h1.2.2.2
  have q2 := h2.2.2.2
  have q3 := h3.2.2.2
  have q4 := h3.2.2.1
  obtain ⟨hl1, hl2, hl3, hl4⟩ : p.c.length ≤ 8796093022208 ∧ p.h.length ≤ 8796093022208 ∧ p.r.length ≤ 8796093022208 ∧ p.c.length + p.h.length ≤ 8796093022208 := by unfold PrD.n at hl; omega
  have hal := ba w (.cells #[a, b, c] 36)
  have HX := Lib.hid (b3_new w a b c 36)
  have HM := Lib.hid (Mid.ofBelow (Q := Q) (P := P) hal)
  have J1 := Lib.hid (h3.below hal)
  have J2 := Lib.hid (h1.below hal)
  have J3 := Lib.hid (h2.below hal)
  obtain ⟨a1, a2, rfl⟩ := own_shape h3.1
  obtain ⟨b1, b2, rfl⟩ := own_shape h1.1
  obtain ⟨c1, c2, rfl⟩ := own_shape h2.1
  clear hal h1 h2 h3
  obtain ⟨x0, _, _, _⟩ := HX.out
  go_enter Try.func40, Try.ntmps40
  go_wp2_with fail
  refine (markI_any J1.out hk0 (by omega) (by omega)).mono ?_
  rintro e w1 ⟨rfl, ho1, hm1⟩
  have HX1 := Lib.hid (HX.out.mid hm1 (.inr (by omega)))
  have O1 := Lib.hid ho1
  have J21 := Lib.hid (J2.out.mid hm1 (.inl q2))
  have J31 := Lib.hid (J3.out.mid hm1 (.inl (Nat.le_refl _)))
  have HM1 := Lib.hid (HM.out.trans (hm1.wide (Nat.le_trans q1 q2) (Nat.le_refl _)))
  clear hm1 ho1 x0
  obtain ⟨_, x1, _, _⟩ := HX1.out
  go_wp2_with fail
  refine (markI_any J21.out (by omega) (by omega) (by omega)).mono ?_
  rintro e w2 ⟨rfl, ho2, hm2⟩
  have HX2 := Lib.hid (HX1.out.mid hm2 (.inr (by omega)))
  have O2 := Lib.hid (And.intro (O1.out.mid hm2 (.inr q2)) ho2)
  have J32 := Lib.hid (J31.out.mid hm2 (.inr (Nat.le_refl _)))
  have HM2 := Lib.hid (HM1.out.trans (hm2.wide (Nat.le_refl _) (Nat.le_trans q2 q3)))
  clear hm2 ho2 x1
  obtain ⟨_, _, x2, _⟩ := HX2.out
  go_wp2_with fail
  refine (markI_any J32.out (by omega) (by omega) (by omega)).mono ?_
  rintro e w3 ⟨rfl, ho3, hm3⟩
  have O3 := Lib.hid (And.intro (O2.out.1.mid hm3 (.inr (Nat.le_refl _))) (And.intro (O2.out.2.mid hm3 (.inl (Nat.le_refl _))) ho3))
  have HM3 := Lib.hid (HM2.out.trans (hm3.wide q1 q3))
  clear hm3 ho3 x2
  go_wp2
  go_ret
  refine ⟨?_, ?_, HM3.out⟩
  · exact ret_int (by unfold PrD.n; omega)
  · exact ⟨_, _, _, M, N, rfl, O3.out.2.1, O3.out.2.2, O3.out.1⟩


/-! ### complete -/
theorem InI.blk {B : Nat} {w : World} {ad : Option Addr} {n c : Nat} {zs : List Int} (h : InI B w (.slice ad n c) zs) {g : Nat} (hg : B ≤ g) : zs ≠ [] → ∀ a, ad = some a → some a.block ≠ some g := by
  intro h0 a ha e
  obtain ⟨_, ad', cap, hv, hb, _⟩ := h
  simp only [Value.slice.injEq] at hv
  obtain ⟨rfl, _, _⟩ := hv
  rcases hb with hb | ⟨b, off, h1, h2, _⟩
  · exact h0 hb
  · rw [h1] at ha; cases ha
    simp only [Option.some.injEq] at e
    omega
theorem OwI.put {Q P g c j : Nat} {w : World} {zs : List Int} (h : OwI Q P w (.slice (some ⟨g, 0, none⟩) zs.length c) zs) (x : Int) : OwI Q P (w.setCell ⟨g, j, none⟩ (.int .i64 x)) (.slice (some ⟨g, 0, none⟩) (zs.set j x).length c) (zs.set j x) := by
  have h1 := sown_set (j := j) h.1 x
  have hs : w.heap.size ≤ (w.setCell ⟨g, j, none⟩ (.int .i64 x)).heap.size := (mid_cell w g j (.int .i64 x)).size
  refine ⟨?_, fun k hk => h.2.1 k hk, Nat.le_trans h.2.2.1 hs, h.2.2.2⟩
  simpa using h1
theorem OwI.gblk {Q P g c n : Nat} {w : World} {zs : List Int} (h : OwI Q P w (.slice (some ⟨g, 0, none⟩) n c) zs) : Q ≤ g ∧ g < P := ⟨(h.1.lt g rfl).1, h.2.1 g rfl⟩
theorem mid_grow {g : Nat} {w w' : World} (h : w.grownBy w' (some g)) : Mid g (g + 1) w w' := Mid.grown h (by rintro k ⟨⟩; exact ⟨Nat.le_refl _, Nat.lt_succ_self _⟩)
theorem OwI.same {Q P g c : Nat} {w w' : World} {zs : List Int} (h : OwI Q P w (.slice (some ⟨g, 0, none⟩) zs.length c) zs) {ys : List Int} (ho : w'.ownsRow Q 3 1 (.slice (some ⟨g, 0, none⟩) zs.length c) zs.length (ys.map (Value.int .i64))) (hl : ys.length = zs.length) (hm : Mid g (g + 1) w w') : OwI Q P w' (.slice (some ⟨g, 0, none⟩) ys.length c) ys := by
  refine ⟨?_, fun k hk => h.2.1 k hk, Nat.le_trans h.2.2.1 hm.size, h.2.2.2⟩
  rw [hl]; exact ho

theorem GR.mid {w w' : World} {b A B : Nat} {P Q G : Int} (h : GR w b P Q G) (hm : Mid A B w w') (ho : b < A ∨ B ≤ b) : GR w' b P Q G := by
  have hl := h.lt
  have he : w'.heap[b]? = w.heap[b]? := hm.block b hl ho
  obtain ⟨c0, c1, c2⟩ := h
  refine ⟨?_, ?_, ?_⟩
  · rw [World.cell?_of_block (a := ⟨b, 0, none⟩) he]; exact c0
  · rw [World.cell?_of_block (a := ⟨b, 1, none⟩) he]; exact c1
  · rw [World.cell?_of_block (a := ⟨b, 2, none⟩) he]; exact c2
theorem mid3 (w : World) (b : Nat) (x y z : Value) : Mid b (b + 1) w (((w.setCell ⟨b, 0, none⟩ x).setCell ⟨b, 1, none⟩ y).setCell ⟨b, 2, none⟩ z) := ((mid_cell w b 0 x).trans (mid_cell _ b 1 y)).trans (mid_cell _ b 2 z)

set_option maxRecDepth 100000 in
set_option maxHeartbeats 6400000 in
theorem completeLin_any (P Q G : Int) (hg : goodB P Q G = true) (s : ByteArray) (hs : s.size ≤ 40) {B1 B2 : Nat} {u1 u2 : Value} {rows : List (List Int)} {im : List Int} {B3 base M gh ch gr cr x2 : Nat} {x1 : Option Addr} {dh dr xs : List Int} (hok : (St.lin rows im).ok P Q = true) {w : World} (hu1 : InS B1 w u1 rows) (hu2 : InI B2 w u2 im) (hB12 : B1 ≤ base ∧ B2 ≤ base) (hH : OwI base M w (.slice (some ⟨gh, 0, none⟩) dh.length ch) dh) (hR : OwI M w.heap.size w (.slice (some ⟨gr, 0, none⟩) dr.length cr) dr) (hX : InI B3 w (.slice x1 xs.length x2) xs) (hB3 : B3 ≤ base)
    (hdh : dh.length = (St.lin rows im).parts.length) (hdr : dr.length = nCols (St.lin rows im).parts) (hdi : allIn dh 0 (Q - 1) = true) (hri : allIn dr 0 (Q - 1) = true) (hxi : allIn xs 0 (Q - 1) = true) (hxl : xs.length ≤ dr.length) (hdp : 0 < dr.length) :
    Calls Try.prog 78 #[gv P Q G, .string s, .iface 92 (.agg #[u1, u2]), pv3 none 0 0 (some ⟨gh, 0, none⟩) dh.length ch (some ⟨gr, 0, none⟩) dr.length cr, .int .i64 0, .slice x1 xs.length x2] w (AnsQ base w (cplP P Q G s (St.lin rows im) dh dr 0 xs) true) := by
  obtain ⟨y1, y2, rfl⟩ := hu1.shape
  obtain ⟨z1, z2, rfl⟩ := hu2.shape
  obtain ⟨⟨f1, f2, f3, f4⟩, f5, f6, f7, f8⟩ := lin_facts hok
  have hm2 : ∀ (k : Nat) (W : World), (method (k + 1) 92 (.agg #[.slice y1 rows.length y2, .slice z1 im.length z2]) "loop.example/g00878/impl.parts").run Try.prog W = .ok (188, (.agg #[.slice y1 rows.length y2, .slice z1 im.length z2])) W := fun _ _ => by kernel_rfl
  have hfr := f7.1.rows (St.lin rows im).parts.length (Nat.le_refl _)
  rw [List.take_length] at hfr
  have h8 := f7.1.1
  obtain ⟨hhl, hrl⟩ : dh.length ≤ 8 ∧ dr.length ≤ 64 := by omega
  have hdi0 := all_ex hdi
  obtain ⟨cm, hcm⟩ : ∃ cm, cmts P Q (St.lin rows im).parts dh dr = cm := ⟨_, rfl⟩
  have hcme : allEl P Q cm = true := hcm ▸ cmts_el hg _ _ _ (fun p hp => ⟨fun r hr => ((f7.2 p hp).1 r hr).2, (f7.2 p hp).2.2⟩) (fun e he => (hdi0 e he).1) hri
  have hcml : cm.length ≤ 64 := by have h9 := cmts_len (P := P) (Q := Q) (St.lin rows im).parts dh dr (fun q hq => (f7.1.2 q hq).2.1); rw [hcm] at h9; omega
  have hch : chB P Q G s ((St.lin rows im).els ++ cm) 3 = true := ch_ok hg hs (by rw [List.length_append]; omega) (all_app f6 hcme)
  have hq := (good_rng hg).2.1
  obtain ⟨c, hc⟩ : ∃ c, missV P Q G s (St.lin rows im) cm dh = c := ⟨_, rfl⟩
  have hcr : 0 ≤ c ∧ c < Q := by
    rw [← hc]; unfold missV
    exact subF_rng (Q := Q) (e := 0) (by omega) ⟨by omega, by omega⟩ dh _ (chX_rng (by omega))
  have hcp : cplP P Q G s (St.lin rows im) dh dr 0 xs = ⟨cm, dh.set 0 c, dr.take (0 * xs.length) ++ sxpy Q (dr.drop (0 * xs.length)) c xs⟩ := by unfold cplP; simp only [hcm, hc]
  have hms := (msV_on (ch := dh) hch).trans hc
  rw [hcp]
  rw [Nat.zero_mul]
  have HCM := Lib.hid hcm
  have HCH := Lib.hid hch
  have HMS := Lib.hid hms
  have HG := Lib.hid hg
  have F7 := Lib.hid f7
  have HDI := Lib.hid hdi
  have HDI0 := Lib.hid hdi0
  have HRI := Lib.hid hri
  have HRI0 := Lib.hid (all_ex hri)
  have HXI := Lib.hid (all_ex hxi)
  have HDH := Lib.hid hdh
  have HDR := Lib.hid hdr
  have hgh := hH.gblk
  have hgr := hR.gblk
  have hMw := hR.2.2.2
  clear hcm hch hms hg f6 f7 hdi hdi0 hri hxi hcme hc hcp hfr hok hdh hdr
  have G_0 := Lib.hid (((gr_new w P Q G 32).below (ba _ (.cells #[.slice none 0 0, .slice (some ⟨gh, 0, none⟩) dh.length ch, .slice (some ⟨gr, 0, none⟩) dr.length cr] 36))).below (ba _ (.cells #[.slice none 0 0, .slice none 0 0, .slice none 0 0] 36)))
  have hv := (b3_new (w.alloc (.cells #[.int .i64 P, .int .i64 Q, .int .i64 G] 32)) (.slice none 0 0) (.slice (some ⟨gh, 0, none⟩) dh.length ch) (.slice (some ⟨gr, 0, none⟩) dr.length cr) 36).below (ba _ (.cells #[.slice none 0 0, .slice none 0 0, .slice none 0 0] 36))
  rw [show (w.alloc (.cells #[.int .i64 P, .int .i64 Q, .int .i64 G] 32)).heap.size = w.heap.size + 1 by simp] at hv
  have V_0 := Lib.hid hv
  have hz := b3_new ((w.alloc (.cells #[.int .i64 P, .int .i64 Q, .int .i64 G] 32)).alloc (.cells #[.slice none 0 0, .slice (some ⟨gh, 0, none⟩) dh.length ch, .slice (some ⟨gr, 0, none⟩) dr.length cr] 36)) (.slice none 0 0) (.slice none 0 0) (.slice none 0 0) 36
  rw [show ((w.alloc (.cells #[.int .i64 P, .int .i64 Q, .int .i64 G] 32)).alloc (.cells #[.slice none 0 0, .slice (some ⟨gh, 0, none⟩) dh.length ch, .slice (some ⟨gr, 0, none⟩) dr.length cr] 36)).heap.size = w.heap.size + 2 by simp] at hz
  have Z_0 := Lib.hid hz
  have HB_0 := Lib.hid (bt (bt (ba w (.cells #[.int .i64 P, .int .i64 Q, .int .i64 G] 32)) (ba _ (.cells #[.slice none 0 0, .slice (some ⟨gh, 0, none⟩) dh.length ch, .slice (some ⟨gr, 0, none⟩) dr.length cr] 36))) (ba _ (.cells #[.slice none 0 0, .slice none 0 0, .slice none 0 0] 36)))
  have H_0 := Lib.hid (hH.below HB_0.out)
  have R_0 := Lib.hid (hR.below HB_0.out)
  have X_0 := Lib.hid (hX.below HB_0.out)
  have M1_0 := Lib.hid (hu1.below HB_0.out)
  have M2_0 := Lib.hid (hu2.below HB_0.out)
  clear hv hz hH hR hX hu1 hu2
  obtain ⟨W, hW⟩ : ∃ W, ((w.alloc (.cells #[.int .i64 P, .int .i64 Q, .int .i64 G] 32)).alloc (.cells #[.slice none 0 0, .slice (some ⟨gh, 0, none⟩) dh.length ch, .slice (some ⟨gr, 0, none⟩) dr.length cr] 36)).alloc (.cells #[.slice none 0 0, .slice none 0 0, .slice none 0 0] 36) = W := ⟨_, rfl⟩
  rw [hW] at HB_0 G_0 V_0 Z_0 H_0 R_0 X_0 M1_0 M2_0
  have PP_0 := Lib.hid (show InP W.heap.size W (pv3 none 0 0 (some ⟨gh, 0, none⟩) dh.length ch (some ⟨gr, 0, none⟩) dr.length cr) ⟨[], dh, dr⟩ from ⟨_, _, _, rfl, InI.of (.inl rfl) (fun _ => rfl) (Nat.le_refl _), H_0.out.toIn.wide (by have := HB_0.out.size; omega) (Nat.le_refl _), R_0.out.toIn.wide HB_0.out.size (Nat.le_refl _)⟩)
  obtain ⟨g0, g1, g2⟩ := G_0.out
  obtain ⟨p0, p1, p2, pf⟩ := V_0.out
  go_enter Try.func78, Try.ntmps78
  go_wp2_with fail
  clear hW
  refine wpK_begin (n := 6) (S := (fun w' => (w'.cell? ⟨w.heap.size, 0, none⟩ = some (.int .i64 P) ∧ w'.cell? ⟨w.heap.size, 1, none⟩ = some (.int .i64 Q) ∧ w'.cell? ⟨w.heap.size, 2, none⟩ = some (.int .i64 G)) ∧ w'.cell? ⟨w.heap.size + 1, 0, none⟩ = some (.slice none 0 0) ∧ w'.cell? ⟨w.heap.size + 1, 1, none⟩ = some (.slice (some ⟨gh, 0, none⟩) dh.length ch) ∧ w'.cell? ⟨w.heap.size + 1, 2, none⟩ = some (.slice (some ⟨gr, 0, none⟩) dr.length cr))) (by kernel_rfl) ?_
  refine wpK_take (i := 0) (v := ?_) rfl (by kernel_rfl) (by kernel_rfl) (by kernel_rfl) (by kernel_rfl) (fun _ _ _ h => h) (Or.inl ⟨by kernel_rfl, ?_⟩) (show _ from ⟨⟨G_0.out.1, G_0.out.2.1, G_0.out.2.2⟩, V_0.out.1, V_0.out.2.1, V_0.out.2.2.1⟩) ?_
  rotate_left 1
  · intro w9 hSw
    (try dsimp only at hSw)
    go_simp
    (try with_reducible rfl)
  (try simp only [Act.put, List.getElem_toArray, List.getElem_cons_succ, List.getElem_cons_zero, List.setIfInBounds_toArray, List.set_cons_zero, List.set_cons_succ])
  refine wpK_take (i := 1) (v := ?_) rfl (by kernel_rfl) (by kernel_rfl) (by kernel_rfl) (by kernel_rfl) (fun _ _ _ h => h) (Or.inl ⟨by kernel_rfl, ?_⟩) (show _ from ⟨⟨G_0.out.1, G_0.out.2.1, G_0.out.2.2⟩, V_0.out.1, V_0.out.2.1, V_0.out.2.2.1⟩) ?_
  rotate_left 1
  · intro w9 hSw
    (try dsimp only at hSw)
    go_simp
    (try with_reducible rfl)
  (try simp only [Act.put, List.getElem_toArray, List.getElem_cons_succ, List.getElem_cons_zero, List.setIfInBounds_toArray, List.set_cons_zero, List.set_cons_succ])
  refine wpK_take (i := 3) (v := ?_) rfl (by kernel_rfl) (by kernel_rfl) (by kernel_rfl) (by kernel_rfl) (fun _ _ _ h => h) (Or.inl ⟨by kernel_rfl, ?_⟩) (show _ from ⟨⟨G_0.out.1, G_0.out.2.1, G_0.out.2.2⟩, V_0.out.1, V_0.out.2.1, V_0.out.2.2.1⟩) ?_
  rotate_left 1
  · intro w9 hSw
    (try dsimp only at hSw)
    go_simp
    (try with_reducible rfl)
  (try simp only [Act.put, List.getElem_toArray, List.getElem_cons_succ, List.getElem_cons_zero, List.setIfInBounds_toArray, List.set_cons_zero, List.set_cons_succ])
  refine wpK_one (i := 2) (by kernel_rfl) rfl ?_
  intro K' hK
  go_simp
  go_at_call 188
  refine (linParts_any M1_0.out.dr M2_0.out.dr).mono ?_
  rintro e vp ⟨rp, rfl, hL, hb0⟩
  obtain ⟨lg, lc, rfl, _⟩ := id hL
  have hb : Below W.heap.size W vp := bt ((Below.refl _ W).drew) hb0
  clear hb0
  have HB_p := Lib.hid (bt HB_0.out hb)
  have G_p := Lib.hid (G_0.out.below hb)
  have V_p := Lib.hid (V_0.out.below hb)
  have Z_p := Lib.hid (Z_0.out.below hb)
  have H_p := Lib.hid (H_0.out.below hb)
  have R_p := Lib.hid (R_0.out.below hb)
  have X_p := Lib.hid (X_0.out.below hb)
  have PP_p := Lib.hid (PP_0.out.below hb)
  have M1_p := Lib.hid (M1_0.out.below hb)
  have M2_p := Lib.hid (M2_0.out.below hb)
  clear hb
  have L_p := Lib.hid hL
  clear hL
  go_wp2_with fail
  refine hK.out _ _ (fun _ => ⟨⟨G_p.out.1, G_p.out.2.1, G_p.out.2.2⟩, V_p.out.1, V_p.out.2.1, V_p.out.2.2.1⟩) ?_
  clear hK K'
  (try simp only [Act.put, List.getElem_toArray, List.getElem_cons_succ, List.getElem_cons_zero, List.setIfInBounds_toArray, List.set_cons_zero, List.set_cons_succ])
  refine wpK_one (i := 4) (by kernel_rfl) rfl ?_
  intro K' hK
  go_simp
  go_at_call 126
  refine (commitsOf_any P Q G HG.out F7.out f8 HDH.out HDR.out HDI.out HRI.out L_p.out PP_p.out).mono ?_
  rw [HCM.out]
  rintro e vq ⟨rc, rfl, ho, hb⟩
  obtain ⟨rca, rcc, rfl⟩ := ho.toIn.shape
  have HB_q := Lib.hid (bt HB_p.out hb)
  have G_q := Lib.hid (G_p.out.below hb)
  have V_q := Lib.hid (V_p.out.below hb)
  have Z_q := Lib.hid (Z_p.out.below hb)
  have H_q := Lib.hid (H_p.out.below hb)
  have R_q := Lib.hid (R_p.out.below hb)
  have X_q := Lib.hid (X_p.out.below hb)
  have PP_q := Lib.hid (PP_p.out.below hb)
  have M1_q := Lib.hid (M1_p.out.below hb)
  have M2_q := Lib.hid (M2_p.out.below hb)
  clear hb
  have C_q := Lib.hid ho
  clear ho
  go_wp2_with fail
  refine hK.out _ _ (fun _ => ⟨⟨G_q.out.1, G_q.out.2.1, G_q.out.2.2⟩, V_q.out.1, V_q.out.2.1, V_q.out.2.2.1⟩) ?_
  clear hK K'
  (try simp only [Act.put, List.getElem_toArray, List.getElem_cons_succ, List.getElem_cons_zero, List.setIfInBounds_toArray, List.set_cons_zero, List.set_cons_succ])
  refine wpK_take (i := 5) (v := ?_) rfl (by kernel_rfl) (by kernel_rfl) (by kernel_rfl) (by kernel_rfl) (fun _ _ _ h => h) (Or.inl ⟨by kernel_rfl, ?_⟩) ⟨⟨G_q.out.1, G_q.out.2.1, G_q.out.2.2⟩, V_q.out.1, V_q.out.2.1, V_q.out.2.2.1⟩ ?_
  rotate_left 1
  · intro w9 hSw
    (try dsimp only at hSw)
    go_simp
    (try with_reducible rfl)
  (try simp only [Act.put, List.getElem_toArray, List.getElem_cons_succ, List.getElem_cons_zero, List.setIfInBounds_toArray, List.set_cons_zero, List.set_cons_succ])
  refine wpK_one (i := 6) (by kernel_rfl) rfl ?_
  intro K' hK
  obtain ⟨u0, u1, u2, uf⟩ := V_q.out
  have uf0 := uf 0
  clear uf
  go_simp
  refine hK.out _ _ (fun h => absurd rfl h) ?_
  clear hK K'
  (try simp only [Act.put, List.getElem_toArray, List.getElem_cons_succ, List.getElem_cons_zero, List.setIfInBounds_toArray, List.set_cons_zero, List.set_cons_succ])
  refine wpK_done (by kernel_rfl) ?_ _
  have hwq : w.heap.size + 2 < vq.heap.size := Z_q.out.lt
  have hm : Mid (w.heap.size + 1) (w.heap.size + 1 + 1) vq (vq.setCell ⟨w.heap.size + 1, 0, none⟩ (.slice rca cm.length rcc)) := mid_cell _ _ _ _
  have V_r := Lib.hid (V_q.out.set0 (.slice rca cm.length rcc))
  have G_r := Lib.hid (G_q.out.mid hm (.inl (by omega)))
  have Z_r := Lib.hid (Z_q.out.mid hm (.inr (by omega)))
  have H_r := Lib.hid (H_q.out.mid hm (.inl (by omega)))
  have R_r := Lib.hid (R_q.out.mid hm (.inl (by omega)))
  have X_r := Lib.hid (X_q.out.mid hm (by omega))
  have C_r := Lib.hid (C_q.out.mid hm (.inr (by have := Z_p.out.lt; omega)))
  have HB_r := Lib.hid (HB_q.out.trans (hm.toBelow (by omega) (by omega)))
  have M1_r := Lib.hid (M1_q.out.mid hm (by omega))
  have M2_r := Lib.hid (M2_q.out.mid hm (by omega))
  have hcs := C_r.out.2.2.1
  generalize hX2 : vq.setCell ⟨w.heap.size + 1, 0, none⟩ (.slice rca cm.length rcc) = vr at *
  have PP_r := Lib.hid (show InP vr.heap.size vr (pv3 rca cm.length rcc (some ⟨gh, 0, none⟩) dh.length ch (some ⟨gr, 0, none⟩) dr.length cr) ⟨cm, dh, dr⟩ from ⟨_, _, _, rfl, C_r.out.toIn.wide hcs (Nat.le_refl _), H_r.out.toIn.wide H_r.out.2.2.1 (Nat.le_refl _), R_r.out.toIn.wide R_r.out.2.2.1 (Nat.le_refl _)⟩)
  clear hm g0 g1 g2 p0 p1 p2 pf
  obtain ⟨g0, g1, g2⟩ := G_r.out
  obtain ⟨p0, p1, p2, pf⟩ := V_r.out
  go_wp2_with fail
  refine (msLin_any P Q G HG.out s (by omega) f1 (by omega) f3 f4 (p := ⟨cm, dh, dr⟩) (by unfold PrD.n; simp only []; omega) HDI0.out M1_r.out M2_r.out PP_r.out).mono ?_
  rw [HMS.out, HCH.out]
  rintro e vs ⟨rfl, hb⟩
  have HB_s := Lib.hid (HB_r.out.trans (hb.mono HB_r.out.size))
  have G_s := Lib.hid (G_r.out.below hb)
  have V_s := Lib.hid (V_r.out.below hb)
  have Z_s := Lib.hid (Z_r.out.below hb)
  have H_s := Lib.hid (H_r.out.below hb)
  have R_s := Lib.hid (R_r.out.below hb)
  have X_s := Lib.hid (X_r.out.below hb)
  have C_s := Lib.hid (C_r.out.below hb)
  have M1_s := Lib.hid (M1_r.out.below hb)
  have M2_s := Lib.hid (M2_r.out.below hb)
  have hws := Z_s.out.lt
  have hcss := C_s.out.2.2.1
  clear hb g0 g1 g2 p0 p1 p2 pf
  obtain ⟨g0, g1, g2⟩ := G_s.out
  obtain ⟨p0, p1, p2, pf⟩ := V_s.out
  have hwd : 0 < dh.length := by have := HDH.out; omega
  obtain ⟨hc0, hf0⟩ := sown_at H_s.out.1 (j := 0) hwd (z := dh[0]) (by simp [hwd])
  have hcap := own_cap R_s.out.1
  have hcz : ¬ cr = 0 := by have := HDR.out; have := HDH.out; omega
  go_wp2_with fail
  have hm : Mid gh (gh + 1) vs (vs.setCell ⟨gh, 0, none⟩ (.int .i64 c)) := mid_cell _ _ _ _
  have G_t := Lib.hid (G_s.out.mid hm (.inr (by omega)))
  have V_t := Lib.hid (V_s.out.mid hm (.inr (by omega)))
  have Z_t := Lib.hid (Z_s.out.mid hm (.inr (by omega)))
  have H_t := Lib.hid (H_s.out.put (j := 0) c)
  have R_t := Lib.hid (R_s.out.mid hm (.inr (by omega)))
  have X_t := Lib.hid (X_s.out.mid hm (by omega))
  have C_t := Lib.hid (C_s.out.mid hm (.inr (by have := HB_p.out.size; omega)))
  have HB_t := Lib.hid ((HB_s.out.mono (show base ≤ w.heap.size by omega)).trans (hm.toBelow (by omega) (by have := HB_s.out.size; omega)))
  clear g0 g1 g2 p0 p1 p2 pf hc0 hf0
  obtain ⟨g0, g1, g2⟩ := G_t.out
  obtain ⟨p0, p1, p2, pf⟩ := V_t.out
  have hst := hm.size
  generalize hX3 : vs.setCell ⟨gh, 0, none⟩ (.int .i64 c) = vt at *
  clear hm
  have hw0 : IntKind.i64.wrap 0 = 0 := by decide
  have htest := saddMultiple_any Q c M gr 0 dr.length cr dr.length cr dr x1 xs.length x2 xs hq.1 hq.2 hcr.1 hcr.2 HRI0.out HXI.out rfl (by omega) (by omega) (by omega) vt.drew R_t.out.1 (X_t.out.ints).1 (X_t.out.blk (by omega))
  have HT := Lib.hid htest
  clear htest
  go_region_held3 (fun w' => (w'.cell? ⟨w.heap.size, 0, none⟩ = some (.int .i64 P) ∧ w'.cell? ⟨w.heap.size, 1, none⟩ = some (.int .i64 Q) ∧ w'.cell? ⟨w.heap.size, 2, none⟩ = some (.int .i64 G)) ∧ w'.cell? ⟨w.heap.size + 1, 0, none⟩ = some (.slice rca cm.length rcc) ∧ w'.cell? ⟨w.heap.size + 1, 1, none⟩ = some (.slice (some ⟨gh, 0, none⟩) dh.length ch) ∧ w'.cell? ⟨w.heap.size + 1, 2, none⟩ = some (.slice (some ⟨gr, 0, none⟩) dr.length cr)) (first | with_reducible exact ⟨⟨s0, s1, s2⟩, t0, t1, t2⟩ | exact ⟨⟨g0, g1, g2⟩, p0, p1, p2⟩) ((first
    | (go_at_call 128; refine HT.out.mono ?_; rintro e vu ⟨⟨ev, rfl⟩, hown, hgrow⟩; have hm2' : Mid gr (gr + 1) vt vu := (Mid.ofBelow ((Below.refl _ vt).drew)).trans (mid_grow hgrow); have HO := Lib.hid hown; have HMU := Lib.hid hm2'; obtain ⟨s0, s1, s2⟩ := G_t.out.mid hm2' (.inr (by omega)); obtain ⟨t0, t1, t2, _⟩ := V_t.out.mid hm2' (.inr (by omega)); clear hown hgrow hm2')
    | fail))
  all_goals (
    have hm4 := HMU.out
    have V_u := Lib.hid (V_t.out.mid hm4 (.inr (by omega)))
    have Z_u := Lib.hid (Z_t.out.mid hm4 (.inr (by omega)))
    have H_u := Lib.hid (H_t.out.mid hm4 (.inl hgr.1))
    have R_u := Lib.hid (R_t.out.same HO.out (by first | (simp [sxpy_length]; done) | (simp [sxpy_length]; omega)) hm4)
    have C_u := Lib.hid (C_t.out.mid hm4 (.inr (by have := HB_p.out.size; omega)))
    have HB_u := Lib.hid (HB_t.out.trans (hm4.toBelow (by omega) (by have := HB_t.out.size; omega)))
    clear hm4
    obtain ⟨q0, q1, q2, _⟩ := V_u.out
    obtain ⟨y0, y1, y2, yf⟩ := Z_u.out
    have yf0 := yf 0
    have yf1 := yf 1
    have yf2 := yf 2
    clear yf
    have hlu := Z_u.out.lt
    go_wp2
    (try simp only [Exit.inBlock, Exit.then])
    refine bodyPost_ret (v := .tuple #[pv3 rca cm.length rcc (some ⟨gh, 0, none⟩) dh.length ch (some ⟨gr, 0, none⟩) dr.length cr, .bool true]) ?_ rfl ?_
    · rw [results_cell_tmp rfl]; go_simp
    · have hm5 := mid3 vu (w.heap.size + 2) (.slice rca cm.length rcc) (.slice (some ⟨gh, 0, none⟩) dh.length ch) (.slice (some ⟨gr, 0, none⟩) dr.length cr)
      have h1 := H_u.out.mid hm5 (.inl (by omega))
      have h2 := R_u.out.mid hm5 (.inl (by omega))
      have h3 := C_u.out.mid hm5 (.inr (by have := HB_p.out.size; have := Z_p.out.lt; omega))
      rw [List.length_set] at h1
      rw [show (dr.take 0 ++ sxpy Q (dr.drop 0) c xs).length = dr.length by first | (simp [sxpy_length]; done) | (simp [sxpy_length]; omega)] at h2
      exact ⟨_, _, _, rfl, ⟨_, _, _, M, w.heap.size, rfl, h1, h2, h3.wide HB_p.out.size h3.2.2.1 (Nat.le_refl _)⟩, HB_u.out.trans (hm5.toBelow (by omega) (by have := HB_u.out.size; omega))⟩)

set_option maxRecDepth 100000 in
set_option maxHeartbeats 6400000 in
theorem completeCho_any (P Q G : Int) (hg : goodB P Q G = true) (s : ByteArray) (hs : s.size ≤ 40) {B1 : Nat} {u1 : Value} {es : List Int} {n4 : Nat} (hn4 : es.length = n4 * 4) {QX PX base M gh ch gr cr x2 : Nat} {x1 : Option Addr} {dh dr xs : List Int} {which : Nat} (hok : (St.cho es).ok P Q = true) {w : World} (hu1 : InE B1 w u1 es) (hB12 : B1 ≤ base) (hH : OwI base M w (.slice (some ⟨gh, 0, none⟩) dh.length ch) dh) (hR : OwI M w.heap.size w (.slice (some ⟨gr, 0, none⟩) dr.length cr) dr) (hX : KP QX PX (fun w' => IsInts w' x1 xs) w) (hXs : (PX ≤ gh ∨ gh + 1 ≤ QX) ∧ (PX ≤ gr ∨ gr + 1 ≤ QX)) (hXb : xs ≠ [] → ∀ a, x1 = some a → some a.block ≠ some gr)
    (hdh : dh.length = (St.cho es).parts.length) (hdr : dr.length = nCols (St.cho es).parts) (hdi : allIn dh 0 (Q - 1) = true) (hri : allIn dr 0 (Q - 1) = true) (hxi : allIn xs 0 (Q - 1) = true) (hx1 : xs.length = 1) (hwl : which < dh.length) (hwr : which < dr.length) :
    Calls Try.prog 78 #[gv P Q G, .string s, .iface 98 u1, pv3 none 0 0 (some ⟨gh, 0, none⟩) dh.length ch (some ⟨gr, 0, none⟩) dr.length cr, .int .i64 (which : Int), .slice x1 xs.length x2] w (AnsQ base w (cplP P Q G s (St.cho es) dh dr which xs) true) := by
  obtain ⟨y1, yn, y2, rfl, hyn, _, _⟩ := hu1.shape
  obtain ⟨f1, f5, f6, f7, f8⟩ := cho_facts hn4 hok
  have f9 := cho_pos hok
  have hm2 : ∀ (k : Nat) (W : World), (method (k + 1) 98 (.slice y1 yn y2) "loop.example/g00878/impl.parts").run Try.prog W = .ok (103, (.slice y1 yn y2)) W := fun _ _ => by kernel_rfl
  have hfr := f7.1.rows (St.cho es).parts.length (Nat.le_refl _)
  rw [List.take_length] at hfr
  have h8 := f7.1.1
  obtain ⟨hhl, hrl⟩ : dh.length ≤ 8 ∧ dr.length ≤ 64 := by omega
  have hdi0 := all_ex hdi
  obtain ⟨cm, hcm⟩ : ∃ cm, cmts P Q (St.cho es).parts dh dr = cm := ⟨_, rfl⟩
  have hcme : allEl P Q cm = true := hcm ▸ cmts_el hg _ _ _ (fun p hp => ⟨fun r hr => ((f7.2 p hp).1 r hr).2, (f7.2 p hp).2.2⟩) (fun e he => (hdi0 e he).1) hri
  have hcml : cm.length ≤ 64 := by have h9 := cmts_len (P := P) (Q := Q) (St.cho es).parts dh dr (fun q hq => (f7.1.2 q hq).2.1); rw [hcm] at h9; omega
  have hch : chB P Q G s ((St.cho es).els ++ cm) 3 = true := ch_ok hg hs (by rw [List.length_append]; omega) (all_app f6 hcme)
  have hq := (good_rng hg).2.1
  obtain ⟨c, hc⟩ : ∃ c, missV P Q G s (St.cho es) cm dh = c := ⟨_, rfl⟩
  have hcr : 0 ≤ c ∧ c < Q := by
    rw [← hc]; unfold missV
    exact subF_rng (Q := Q) (e := 0) (by omega) ⟨by omega, by omega⟩ dh _ (chX_rng (by omega))
  have hcp : cplP P Q G s (St.cho es) dh dr which xs = ⟨cm, dh.set which c, dr.take (which * xs.length) ++ sxpy Q (dr.drop (which * xs.length)) c xs⟩ := by unfold cplP; simp only [hcm, hc]
  have hms := (msV_on (ch := dh) hch).trans hc
  rw [hcp]
  have HX1 := Lib.hid hx1
  rw [hx1, Nat.mul_one]
  clear hx1
  have HCM := Lib.hid hcm
  have HCH := Lib.hid hch
  have HMS := Lib.hid hms
  have HG := Lib.hid hg
  have F7 := Lib.hid f7
  have HDI := Lib.hid hdi
  have HDI0 := Lib.hid hdi0
  have HRI := Lib.hid hri
  have HRI0 := Lib.hid (all_ex hri)
  have HXI := Lib.hid (all_ex hxi)
  have HDH := Lib.hid hdh
  have HDR := Lib.hid hdr
  have hgh := hH.gblk
  have hgr := hR.gblk
  have hMw := hR.2.2.2
  have hPX := hX.1
  have HXB := Lib.hid hXb
  clear hXb
  clear hcm hch hms hg f6 f7 hdi hdi0 hri hxi hcme hc hcp hfr hok hdh hdr
  have G_0 := Lib.hid (((gr_new w P Q G 32).below (ba _ (.cells #[.slice none 0 0, .slice (some ⟨gh, 0, none⟩) dh.length ch, .slice (some ⟨gr, 0, none⟩) dr.length cr] 36))).below (ba _ (.cells #[.slice none 0 0, .slice none 0 0, .slice none 0 0] 36)))
  have hv := (b3_new (w.alloc (.cells #[.int .i64 P, .int .i64 Q, .int .i64 G] 32)) (.slice none 0 0) (.slice (some ⟨gh, 0, none⟩) dh.length ch) (.slice (some ⟨gr, 0, none⟩) dr.length cr) 36).below (ba _ (.cells #[.slice none 0 0, .slice none 0 0, .slice none 0 0] 36))
  rw [show (w.alloc (.cells #[.int .i64 P, .int .i64 Q, .int .i64 G] 32)).heap.size = w.heap.size + 1 by simp] at hv
  have V_0 := Lib.hid hv
  have hz := b3_new ((w.alloc (.cells #[.int .i64 P, .int .i64 Q, .int .i64 G] 32)).alloc (.cells #[.slice none 0 0, .slice (some ⟨gh, 0, none⟩) dh.length ch, .slice (some ⟨gr, 0, none⟩) dr.length cr] 36)) (.slice none 0 0) (.slice none 0 0) (.slice none 0 0) 36
  rw [show ((w.alloc (.cells #[.int .i64 P, .int .i64 Q, .int .i64 G] 32)).alloc (.cells #[.slice none 0 0, .slice (some ⟨gh, 0, none⟩) dh.length ch, .slice (some ⟨gr, 0, none⟩) dr.length cr] 36)).heap.size = w.heap.size + 2 by simp] at hz
  have Z_0 := Lib.hid hz
  have HB_0 := Lib.hid (bt (bt (ba w (.cells #[.int .i64 P, .int .i64 Q, .int .i64 G] 32)) (ba _ (.cells #[.slice none 0 0, .slice (some ⟨gh, 0, none⟩) dh.length ch, .slice (some ⟨gr, 0, none⟩) dr.length cr] 36))) (ba _ (.cells #[.slice none 0 0, .slice none 0 0, .slice none 0 0] 36)))
  have H_0 := Lib.hid (hH.below HB_0.out)
  have R_0 := Lib.hid (hR.below HB_0.out)
  have X_0 := Lib.hid (hX.below HB_0.out)
  have M1_0 := Lib.hid (hu1.below HB_0.out)
  clear hv hz hH hR hX hu1
  obtain ⟨W, hW⟩ : ∃ W, ((w.alloc (.cells #[.int .i64 P, .int .i64 Q, .int .i64 G] 32)).alloc (.cells #[.slice none 0 0, .slice (some ⟨gh, 0, none⟩) dh.length ch, .slice (some ⟨gr, 0, none⟩) dr.length cr] 36)).alloc (.cells #[.slice none 0 0, .slice none 0 0, .slice none 0 0] 36) = W := ⟨_, rfl⟩
  rw [hW] at HB_0 G_0 V_0 Z_0 H_0 R_0 X_0 M1_0
  have PP_0 := Lib.hid (show InP W.heap.size W (pv3 none 0 0 (some ⟨gh, 0, none⟩) dh.length ch (some ⟨gr, 0, none⟩) dr.length cr) ⟨[], dh, dr⟩ from ⟨_, _, _, rfl, InI.of (.inl rfl) (fun _ => rfl) (Nat.le_refl _), H_0.out.toIn.wide (by have := HB_0.out.size; omega) (Nat.le_refl _), R_0.out.toIn.wide HB_0.out.size (Nat.le_refl _)⟩)
  obtain ⟨g0, g1, g2⟩ := G_0.out
  obtain ⟨p0, p1, p2, pf⟩ := V_0.out
  go_enter Try.func78, Try.ntmps78
  go_wp2_with fail
  clear hW
  refine wpK_begin (n := 6) (S := (fun w' => (w'.cell? ⟨w.heap.size, 0, none⟩ = some (.int .i64 P) ∧ w'.cell? ⟨w.heap.size, 1, none⟩ = some (.int .i64 Q) ∧ w'.cell? ⟨w.heap.size, 2, none⟩ = some (.int .i64 G)) ∧ w'.cell? ⟨w.heap.size + 1, 0, none⟩ = some (.slice none 0 0) ∧ w'.cell? ⟨w.heap.size + 1, 1, none⟩ = some (.slice (some ⟨gh, 0, none⟩) dh.length ch) ∧ w'.cell? ⟨w.heap.size + 1, 2, none⟩ = some (.slice (some ⟨gr, 0, none⟩) dr.length cr))) (by kernel_rfl) ?_
  refine wpK_take (i := 0) (v := ?_) rfl (by kernel_rfl) (by kernel_rfl) (by kernel_rfl) (by kernel_rfl) (fun _ _ _ h => h) (Or.inl ⟨by kernel_rfl, ?_⟩) (show _ from ⟨⟨G_0.out.1, G_0.out.2.1, G_0.out.2.2⟩, V_0.out.1, V_0.out.2.1, V_0.out.2.2.1⟩) ?_
  rotate_left 1
  · intro w9 hSw
    (try dsimp only at hSw)
    go_simp
    (try with_reducible rfl)
  (try simp only [Act.put, List.getElem_toArray, List.getElem_cons_succ, List.getElem_cons_zero, List.setIfInBounds_toArray, List.set_cons_zero, List.set_cons_succ])
  refine wpK_take (i := 1) (v := ?_) rfl (by kernel_rfl) (by kernel_rfl) (by kernel_rfl) (by kernel_rfl) (fun _ _ _ h => h) (Or.inl ⟨by kernel_rfl, ?_⟩) (show _ from ⟨⟨G_0.out.1, G_0.out.2.1, G_0.out.2.2⟩, V_0.out.1, V_0.out.2.1, V_0.out.2.2.1⟩) ?_
  rotate_left 1
  · intro w9 hSw
    (try dsimp only at hSw)
    go_simp
    (try with_reducible rfl)
  (try simp only [Act.put, List.getElem_toArray, List.getElem_cons_succ, List.getElem_cons_zero, List.setIfInBounds_toArray, List.set_cons_zero, List.set_cons_succ])
  refine wpK_take (i := 3) (v := ?_) rfl (by kernel_rfl) (by kernel_rfl) (by kernel_rfl) (by kernel_rfl) (fun _ _ _ h => h) (Or.inl ⟨by kernel_rfl, ?_⟩) (show _ from ⟨⟨G_0.out.1, G_0.out.2.1, G_0.out.2.2⟩, V_0.out.1, V_0.out.2.1, V_0.out.2.2.1⟩) ?_
  rotate_left 1
  · intro w9 hSw
    (try dsimp only at hSw)
    go_simp
    (try with_reducible rfl)
  (try simp only [Act.put, List.getElem_toArray, List.getElem_cons_succ, List.getElem_cons_zero, List.setIfInBounds_toArray, List.set_cons_zero, List.set_cons_succ])
  refine wpK_one (i := 2) (by kernel_rfl) rfl ?_
  intro K' hK
  go_simp
  go_at_call 103
  refine (choParts_any f1 M1_0.out.dr).mono ?_
  rintro e vp ⟨rp, rfl, hL, hb0⟩
  obtain ⟨lg, lc, rfl, _⟩ := id hL
  have hb : Below W.heap.size W vp := bt ((Below.refl _ W).drew) hb0
  clear hb0
  have HB_p := Lib.hid (bt HB_0.out hb)
  have G_p := Lib.hid (G_0.out.below hb)
  have V_p := Lib.hid (V_0.out.below hb)
  have Z_p := Lib.hid (Z_0.out.below hb)
  have H_p := Lib.hid (H_0.out.below hb)
  have R_p := Lib.hid (R_0.out.below hb)
  have X_p := Lib.hid (X_0.out.below hb)
  have PP_p := Lib.hid (PP_0.out.below hb)
  have M1_p := Lib.hid (M1_0.out.below hb)
  clear hb
  have L_p := Lib.hid hL
  clear hL
  go_wp2_with fail
  refine hK.out _ _ (fun _ => ⟨⟨G_p.out.1, G_p.out.2.1, G_p.out.2.2⟩, V_p.out.1, V_p.out.2.1, V_p.out.2.2.1⟩) ?_
  clear hK K'
  (try simp only [Act.put, List.getElem_toArray, List.getElem_cons_succ, List.getElem_cons_zero, List.setIfInBounds_toArray, List.set_cons_zero, List.set_cons_succ])
  refine wpK_one (i := 4) (by kernel_rfl) rfl ?_
  intro K' hK
  go_simp
  go_at_call 126
  refine (commitsOf_any P Q G HG.out F7.out f8 HDH.out HDR.out HDI.out HRI.out L_p.out PP_p.out).mono ?_
  rw [HCM.out]
  rintro e vq ⟨rc, rfl, ho, hb⟩
  obtain ⟨rca, rcc, rfl⟩ := ho.toIn.shape
  have HB_q := Lib.hid (bt HB_p.out hb)
  have G_q := Lib.hid (G_p.out.below hb)
  have V_q := Lib.hid (V_p.out.below hb)
  have Z_q := Lib.hid (Z_p.out.below hb)
  have H_q := Lib.hid (H_p.out.below hb)
  have R_q := Lib.hid (R_p.out.below hb)
  have X_q := Lib.hid (X_p.out.below hb)
  have PP_q := Lib.hid (PP_p.out.below hb)
  have M1_q := Lib.hid (M1_p.out.below hb)
  clear hb
  have C_q := Lib.hid ho
  clear ho
  go_wp2_with fail
  refine hK.out _ _ (fun _ => ⟨⟨G_q.out.1, G_q.out.2.1, G_q.out.2.2⟩, V_q.out.1, V_q.out.2.1, V_q.out.2.2.1⟩) ?_
  clear hK K'
  (try simp only [Act.put, List.getElem_toArray, List.getElem_cons_succ, List.getElem_cons_zero, List.setIfInBounds_toArray, List.set_cons_zero, List.set_cons_succ])
  refine wpK_take (i := 5) (v := ?_) rfl (by kernel_rfl) (by kernel_rfl) (by kernel_rfl) (by kernel_rfl) (fun _ _ _ h => h) (Or.inl ⟨by kernel_rfl, ?_⟩) ⟨⟨G_q.out.1, G_q.out.2.1, G_q.out.2.2⟩, V_q.out.1, V_q.out.2.1, V_q.out.2.2.1⟩ ?_
  rotate_left 1
  · intro w9 hSw
    (try dsimp only at hSw)
    go_simp
    (try with_reducible rfl)
  (try simp only [Act.put, List.getElem_toArray, List.getElem_cons_succ, List.getElem_cons_zero, List.setIfInBounds_toArray, List.set_cons_zero, List.set_cons_succ])
  refine wpK_one (i := 6) (by kernel_rfl) rfl ?_
  intro K' hK
  obtain ⟨u0, u1, u2, uf⟩ := V_q.out
  have uf0 := uf 0
  clear uf
  go_simp
  refine hK.out _ _ (fun h => absurd rfl h) ?_
  clear hK K'
  (try simp only [Act.put, List.getElem_toArray, List.getElem_cons_succ, List.getElem_cons_zero, List.setIfInBounds_toArray, List.set_cons_zero, List.set_cons_succ])
  refine wpK_done (by kernel_rfl) ?_ _
  have hwq : w.heap.size + 2 < vq.heap.size := Z_q.out.lt
  have hm : Mid (w.heap.size + 1) (w.heap.size + 1 + 1) vq (vq.setCell ⟨w.heap.size + 1, 0, none⟩ (.slice rca cm.length rcc)) := mid_cell _ _ _ _
  have V_r := Lib.hid (V_q.out.set0 (.slice rca cm.length rcc))
  have G_r := Lib.hid (G_q.out.mid hm (.inl (by omega)))
  have Z_r := Lib.hid (Z_q.out.mid hm (.inr (by omega)))
  have H_r := Lib.hid (H_q.out.mid hm (.inl (by omega)))
  have R_r := Lib.hid (R_q.out.mid hm (.inl (by omega)))
  have X_r := Lib.hid (X_q.out.mid hm (by omega))
  have C_r := Lib.hid (C_q.out.mid hm (.inr (by have := Z_p.out.lt; omega)))
  have HB_r := Lib.hid (HB_q.out.trans (hm.toBelow (by omega) (by omega)))
  have M1_r := Lib.hid (M1_q.out.mid hm (by omega))
  have hcs := C_r.out.2.2.1
  generalize hX2 : vq.setCell ⟨w.heap.size + 1, 0, none⟩ (.slice rca cm.length rcc) = vr at *
  have PP_r := Lib.hid (show InP vr.heap.size vr (pv3 rca cm.length rcc (some ⟨gh, 0, none⟩) dh.length ch (some ⟨gr, 0, none⟩) dr.length cr) ⟨cm, dh, dr⟩ from ⟨_, _, _, rfl, C_r.out.toIn.wide hcs (Nat.le_refl _), H_r.out.toIn.wide H_r.out.2.2.1 (Nat.le_refl _), R_r.out.toIn.wide R_r.out.2.2.1 (Nat.le_refl _)⟩)
  clear hm g0 g1 g2 p0 p1 p2 pf
  obtain ⟨g0, g1, g2⟩ := G_r.out
  obtain ⟨p0, p1, p2, pf⟩ := V_r.out
  go_wp2_with fail
  refine (msCho_any P Q G HG.out s (by omega) f1 f9 (p := ⟨cm, dh, dr⟩) (by unfold PrD.n; simp only []; omega) HDI0.out M1_r.out PP_r.out).mono ?_
  rw [HMS.out, HCH.out]
  rintro e vs ⟨rfl, hb⟩
  have HB_s := Lib.hid (HB_r.out.trans (hb.mono HB_r.out.size))
  have G_s := Lib.hid (G_r.out.below hb)
  have V_s := Lib.hid (V_r.out.below hb)
  have Z_s := Lib.hid (Z_r.out.below hb)
  have H_s := Lib.hid (H_r.out.below hb)
  have R_s := Lib.hid (R_r.out.below hb)
  have X_s := Lib.hid (X_r.out.below hb)
  have C_s := Lib.hid (C_r.out.below hb)
  have M1_s := Lib.hid (M1_r.out.below hb)
  have hws := Z_s.out.lt
  have hcss := C_s.out.2.2.1
  clear hb g0 g1 g2 p0 p1 p2 pf
  obtain ⟨g0, g1, g2⟩ := G_s.out
  obtain ⟨p0, p1, p2, pf⟩ := V_s.out
  have hwd : which < dh.length := hwl
  obtain ⟨hc0, hf0⟩ := sown_at H_s.out.1 (j := which) hwd (z := dh[which]) (by simp [hwd])
  have hwi : (which : Int) < (dh.length : Int) := by omega
  have hcap := own_cap R_s.out.1
  have hcz : ¬ cr = which := by have := HDR.out; have := HDH.out; omega
  go_wp2_with fail
  have hm : Mid gh (gh + 1) vs (vs.setCell ⟨gh, which, none⟩ (.int .i64 c)) := mid_cell _ _ _ _
  have G_t := Lib.hid (G_s.out.mid hm (.inr (by omega)))
  have V_t := Lib.hid (V_s.out.mid hm (.inr (by omega)))
  have Z_t := Lib.hid (Z_s.out.mid hm (.inr (by omega)))
  have H_t := Lib.hid (H_s.out.put (j := which) c)
  have R_t := Lib.hid (R_s.out.mid hm (.inr (by omega)))
  have X_t := Lib.hid (X_s.out.mid hm (by omega))
  have C_t := Lib.hid (C_s.out.mid hm (.inr (by have := HB_p.out.size; omega)))
  have HB_t := Lib.hid ((HB_s.out.mono (show base ≤ w.heap.size by omega)).trans (hm.toBelow (by omega) (by have := HB_s.out.size; omega)))
  clear g0 g1 g2 p0 p1 p2 pf hc0 hf0
  obtain ⟨g0, g1, g2⟩ := G_t.out
  obtain ⟨p0, p1, p2, pf⟩ := V_t.out
  have hst := hm.size
  generalize hX3 : vs.setCell ⟨gh, which, none⟩ (.int .i64 c) = vt at *
  clear hm
  have hw0 : IntKind.i64.wrap (which : Int) = (which : Int) := by rw [IntKind.wrap_i64]; omega
  have hw1 : IntKind.i64.wrap ((which : Int) * 1) = (which : Int) := by rw [Int.mul_one]; exact hw0
  have hb0 : (0 : Int) ≤ (which : Int) := by omega
  have hb1 : (which : Int) ≤ (dr.length : Int) := by omega
  have htest := saddMultiple_any Q c M gr which (dr.length - which) (cr - which) dr.length cr dr x1 1 x2 xs hq.1 hq.2 hcr.1 hcr.2 HRI0.out HXI.out HX1.out (by omega) (by omega) (by omega) vt.drew R_t.out.1 X_t.out.out HXB.out
  have HT := Lib.hid htest
  clear htest
  go_region_held3 (fun w' => (w'.cell? ⟨w.heap.size, 0, none⟩ = some (.int .i64 P) ∧ w'.cell? ⟨w.heap.size, 1, none⟩ = some (.int .i64 Q) ∧ w'.cell? ⟨w.heap.size, 2, none⟩ = some (.int .i64 G)) ∧ w'.cell? ⟨w.heap.size + 1, 0, none⟩ = some (.slice rca cm.length rcc) ∧ w'.cell? ⟨w.heap.size + 1, 1, none⟩ = some (.slice (some ⟨gh, 0, none⟩) dh.length ch) ∧ w'.cell? ⟨w.heap.size + 1, 2, none⟩ = some (.slice (some ⟨gr, 0, none⟩) dr.length cr)) (first | with_reducible exact ⟨⟨s0, s1, s2⟩, t0, t1, t2⟩ | exact ⟨⟨g0, g1, g2⟩, p0, p1, p2⟩) ((first
    | (go_at_call 128; refine HT.out.mono ?_; rintro e vu ⟨⟨ev, rfl⟩, hown, hgrow⟩; have hm2' : Mid gr (gr + 1) vt vu := (Mid.ofBelow ((Below.refl _ vt).drew)).trans (mid_grow hgrow); have HO := Lib.hid hown; have HMU := Lib.hid hm2'; obtain ⟨s0, s1, s2⟩ := G_t.out.mid hm2' (.inr (by omega)); obtain ⟨t0, t1, t2, _⟩ := V_t.out.mid hm2' (.inr (by omega)); clear hown hgrow hm2')
    | fail))
  all_goals (
    have hm4 := HMU.out
    have V_u := Lib.hid (V_t.out.mid hm4 (.inr (by omega)))
    have Z_u := Lib.hid (Z_t.out.mid hm4 (.inr (by omega)))
    have H_u := Lib.hid (H_t.out.mid hm4 (.inl hgr.1))
    have R_u := Lib.hid (R_t.out.same HO.out (by first | (simp [sxpy_length]; done) | (simp [sxpy_length]; omega)) hm4)
    have C_u := Lib.hid (C_t.out.mid hm4 (.inr (by have := HB_p.out.size; omega)))
    have HB_u := Lib.hid (HB_t.out.trans (hm4.toBelow (by omega) (by have := HB_t.out.size; omega)))
    clear hm4
    obtain ⟨q0, q1, q2, _⟩ := V_u.out
    obtain ⟨y0, y1, y2, yf⟩ := Z_u.out
    have yf0 := yf 0
    have yf1 := yf 1
    have yf2 := yf 2
    clear yf
    have hlu := Z_u.out.lt
    go_wp2
    (try simp only [Exit.inBlock, Exit.then])
    refine bodyPost_ret (v := .tuple #[pv3 rca cm.length rcc (some ⟨gh, 0, none⟩) dh.length ch (some ⟨gr, 0, none⟩) dr.length cr, .bool true]) ?_ rfl ?_
    · rw [results_cell_tmp rfl]; go_simp
    · have hm5 := mid3 vu (w.heap.size + 2) (.slice rca cm.length rcc) (.slice (some ⟨gh, 0, none⟩) dh.length ch) (.slice (some ⟨gr, 0, none⟩) dr.length cr)
      have h1 := H_u.out.mid hm5 (.inl (by omega))
      have h2 := R_u.out.mid hm5 (.inl (by omega))
      have h3 := C_u.out.mid hm5 (.inr (by have := HB_p.out.size; have := Z_p.out.lt; omega))
      rw [List.length_set] at h1
      rw [show (dr.take which ++ sxpy Q (dr.drop which) c xs).length = dr.length by first | (simp [sxpy_length]; done) | (simp [sxpy_length]; omega)] at h2
      exact ⟨_, _, _, rfl, ⟨_, _, _, M, w.heap.size, rfl, h1, h2, h3.wide HB_p.out.size h3.2.2.1 (Nat.le_refl _)⟩, HB_u.out.trans (hm5.toBelow (by omega) (by have := HB_u.out.size; omega))⟩)

set_option maxRecDepth 100000 in
set_option maxHeartbeats 6400000 in
theorem completeLin_off (P Q G : Int) (hg : goodB P Q G = true) (s : ByteArray) (hs : 40 < s.size) (hsm : s.size ≤ 1048576) {B1 B2 : Nat} {u1 u2 : Value} {rows : List (List Int)} {im : List Int} {B3 base M gh ch gr cr x2 : Nat} {x1 : Option Addr} {dh dr xs : List Int} (hok : (St.lin rows im).ok P Q = true) {w : World} (hu1 : InS B1 w u1 rows) (hu2 : InI B2 w u2 im) (hB12 : B1 ≤ base ∧ B2 ≤ base) (hH : OwI base M w (.slice (some ⟨gh, 0, none⟩) dh.length ch) dh) (hR : OwI M w.heap.size w (.slice (some ⟨gr, 0, none⟩) dr.length cr) dr) (hX : InI B3 w (.slice x1 xs.length x2) xs) (hB3 : B3 ≤ base)
    (hdh : dh.length = (St.lin rows im).parts.length) (hdr : dr.length = nCols (St.lin rows im).parts) (hdi : allIn dh 0 (Q - 1) = true) (hri : allIn dr 0 (Q - 1) = true) (hxi : allIn xs 0 (Q - 1) = true) (hxl : xs.length ≤ dr.length) (hdp : 0 < dr.length) :
    Calls Try.prog 78 #[gv P Q G, .string s, .iface 92 (.agg #[u1, u2]), pv3 none 0 0 (some ⟨gh, 0, none⟩) dh.length ch (some ⟨gr, 0, none⟩) dr.length cr, .int .i64 0, .slice x1 xs.length x2] w (AnsQ base w nilP false) := by
  obtain ⟨y1, y2, rfl⟩ := hu1.shape
  obtain ⟨z1, z2, rfl⟩ := hu2.shape
  obtain ⟨⟨f1, f2, f3, f4⟩, f5, f6, f7, f8⟩ := lin_facts hok
  have hm2 : ∀ (k : Nat) (W : World), (method (k + 1) 92 (.agg #[.slice y1 rows.length y2, .slice z1 im.length z2]) "loop.example/g00878/impl.parts").run Try.prog W = .ok (188, (.agg #[.slice y1 rows.length y2, .slice z1 im.length z2])) W := fun _ _ => by kernel_rfl
  have hfr := f7.1.rows (St.lin rows im).parts.length (Nat.le_refl _)
  rw [List.take_length] at hfr
  have h8 := f7.1.1
  obtain ⟨hhl, hrl⟩ : dh.length ≤ 8 ∧ dr.length ≤ 64 := by omega
  have hdi0 := all_ex hdi
  obtain ⟨cm, hcm⟩ : ∃ cm, cmts P Q (St.lin rows im).parts dh dr = cm := ⟨_, rfl⟩
  have hcme : allEl P Q cm = true := hcm ▸ cmts_el hg _ _ _ (fun p hp => ⟨fun r hr => ((f7.2 p hp).1 r hr).2, (f7.2 p hp).2.2⟩) (fun e he => (hdi0 e he).1) hri
  have hcml : cm.length ≤ 64 := by have h9 := cmts_len (P := P) (Q := Q) (St.lin rows im).parts dh dr (fun q hq => (f7.1.2 q hq).2.1); rw [hcm] at h9; omega
  have hch : chB P Q G s ((St.lin rows im).els ++ cm) 3 = false := by rw [← Bool.not_eq_true]; intro h; have h2 := labB_true.1 (chB_true.1 h).2.1; omega
  have hq := (good_rng hg).2.1
  have hms : msV P Q G s (St.lin rows im).els cm dh = 0 := by simp [msV, hch]
  have HCM := Lib.hid hcm
  have HCH := Lib.hid hch
  have HMS := Lib.hid hms
  have HG := Lib.hid hg
  have F7 := Lib.hid f7
  have HDI := Lib.hid hdi
  have HDI0 := Lib.hid hdi0
  have HRI := Lib.hid hri
  have HRI0 := Lib.hid (all_ex hri)
  have HXI := Lib.hid (all_ex hxi)
  have HDH := Lib.hid hdh
  have HDR := Lib.hid hdr
  have hgh := hH.gblk
  have hgr := hR.gblk
  have hMw := hR.2.2.2
  clear hcm hch hms hg f6 f7 hdi hdi0 hri hxi hcme hfr hok hdh hdr
  have G_0 := Lib.hid (((gr_new w P Q G 32).below (ba _ (.cells #[.slice none 0 0, .slice (some ⟨gh, 0, none⟩) dh.length ch, .slice (some ⟨gr, 0, none⟩) dr.length cr] 36))).below (ba _ (.cells #[.slice none 0 0, .slice none 0 0, .slice none 0 0] 36)))
  have hv := (b3_new (w.alloc (.cells #[.int .i64 P, .int .i64 Q, .int .i64 G] 32)) (.slice none 0 0) (.slice (some ⟨gh, 0, none⟩) dh.length ch) (.slice (some ⟨gr, 0, none⟩) dr.length cr) 36).below (ba _ (.cells #[.slice none 0 0, .slice none 0 0, .slice none 0 0] 36))
  rw [show (w.alloc (.cells #[.int .i64 P, .int .i64 Q, .int .i64 G] 32)).heap.size = w.heap.size + 1 by simp] at hv
  have V_0 := Lib.hid hv
  have hz := b3_new ((w.alloc (.cells #[.int .i64 P, .int .i64 Q, .int .i64 G] 32)).alloc (.cells #[.slice none 0 0, .slice (some ⟨gh, 0, none⟩) dh.length ch, .slice (some ⟨gr, 0, none⟩) dr.length cr] 36)) (.slice none 0 0) (.slice none 0 0) (.slice none 0 0) 36
  rw [show ((w.alloc (.cells #[.int .i64 P, .int .i64 Q, .int .i64 G] 32)).alloc (.cells #[.slice none 0 0, .slice (some ⟨gh, 0, none⟩) dh.length ch, .slice (some ⟨gr, 0, none⟩) dr.length cr] 36)).heap.size = w.heap.size + 2 by simp] at hz
  have Z_0 := Lib.hid hz
  have HB_0 := Lib.hid (bt (bt (ba w (.cells #[.int .i64 P, .int .i64 Q, .int .i64 G] 32)) (ba _ (.cells #[.slice none 0 0, .slice (some ⟨gh, 0, none⟩) dh.length ch, .slice (some ⟨gr, 0, none⟩) dr.length cr] 36))) (ba _ (.cells #[.slice none 0 0, .slice none 0 0, .slice none 0 0] 36)))
  have H_0 := Lib.hid (hH.below HB_0.out)
  have R_0 := Lib.hid (hR.below HB_0.out)
  have X_0 := Lib.hid (hX.below HB_0.out)
  have M1_0 := Lib.hid (hu1.below HB_0.out)
  have M2_0 := Lib.hid (hu2.below HB_0.out)
  clear hv hz hH hR hX hu1 hu2
  obtain ⟨W, hW⟩ : ∃ W, ((w.alloc (.cells #[.int .i64 P, .int .i64 Q, .int .i64 G] 32)).alloc (.cells #[.slice none 0 0, .slice (some ⟨gh, 0, none⟩) dh.length ch, .slice (some ⟨gr, 0, none⟩) dr.length cr] 36)).alloc (.cells #[.slice none 0 0, .slice none 0 0, .slice none 0 0] 36) = W := ⟨_, rfl⟩
  rw [hW] at HB_0 G_0 V_0 Z_0 H_0 R_0 X_0 M1_0 M2_0
  have PP_0 := Lib.hid (show InP W.heap.size W (pv3 none 0 0 (some ⟨gh, 0, none⟩) dh.length ch (some ⟨gr, 0, none⟩) dr.length cr) ⟨[], dh, dr⟩ from ⟨_, _, _, rfl, InI.of (.inl rfl) (fun _ => rfl) (Nat.le_refl _), H_0.out.toIn.wide (by have := HB_0.out.size; omega) (Nat.le_refl _), R_0.out.toIn.wide HB_0.out.size (Nat.le_refl _)⟩)
  obtain ⟨g0, g1, g2⟩ := G_0.out
  obtain ⟨p0, p1, p2, pf⟩ := V_0.out
  go_enter Try.func78, Try.ntmps78
  go_wp2_with fail
  clear hW
  refine wpK_begin (n := 6) (S := (fun w' => (w'.cell? ⟨w.heap.size, 0, none⟩ = some (.int .i64 P) ∧ w'.cell? ⟨w.heap.size, 1, none⟩ = some (.int .i64 Q) ∧ w'.cell? ⟨w.heap.size, 2, none⟩ = some (.int .i64 G)) ∧ w'.cell? ⟨w.heap.size + 1, 0, none⟩ = some (.slice none 0 0) ∧ w'.cell? ⟨w.heap.size + 1, 1, none⟩ = some (.slice (some ⟨gh, 0, none⟩) dh.length ch) ∧ w'.cell? ⟨w.heap.size + 1, 2, none⟩ = some (.slice (some ⟨gr, 0, none⟩) dr.length cr))) (by kernel_rfl) ?_
  refine wpK_take (i := 0) (v := ?_) rfl (by kernel_rfl) (by kernel_rfl) (by kernel_rfl) (by kernel_rfl) (fun _ _ _ h => h) (Or.inl ⟨by kernel_rfl, ?_⟩) (show _ from ⟨⟨G_0.out.1, G_0.out.2.1, G_0.out.2.2⟩, V_0.out.1, V_0.out.2.1, V_0.out.2.2.1⟩) ?_
  rotate_left 1
  · intro w9 hSw
    (try dsimp only at hSw)
    go_simp
    (try with_reducible rfl)
  (try simp only [Act.put, List.getElem_toArray, List.getElem_cons_succ, List.getElem_cons_zero, List.setIfInBounds_toArray, List.set_cons_zero, List.set_cons_succ])
  refine wpK_take (i := 1) (v := ?_) rfl (by kernel_rfl) (by kernel_rfl) (by kernel_rfl) (by kernel_rfl) (fun _ _ _ h => h) (Or.inl ⟨by kernel_rfl, ?_⟩) (show _ from ⟨⟨G_0.out.1, G_0.out.2.1, G_0.out.2.2⟩, V_0.out.1, V_0.out.2.1, V_0.out.2.2.1⟩) ?_
  rotate_left 1
  · intro w9 hSw
    (try dsimp only at hSw)
    go_simp
    (try with_reducible rfl)
  (try simp only [Act.put, List.getElem_toArray, List.getElem_cons_succ, List.getElem_cons_zero, List.setIfInBounds_toArray, List.set_cons_zero, List.set_cons_succ])
  refine wpK_take (i := 3) (v := ?_) rfl (by kernel_rfl) (by kernel_rfl) (by kernel_rfl) (by kernel_rfl) (fun _ _ _ h => h) (Or.inl ⟨by kernel_rfl, ?_⟩) (show _ from ⟨⟨G_0.out.1, G_0.out.2.1, G_0.out.2.2⟩, V_0.out.1, V_0.out.2.1, V_0.out.2.2.1⟩) ?_
  rotate_left 1
  · intro w9 hSw
    (try dsimp only at hSw)
    go_simp
    (try with_reducible rfl)
  (try simp only [Act.put, List.getElem_toArray, List.getElem_cons_succ, List.getElem_cons_zero, List.setIfInBounds_toArray, List.set_cons_zero, List.set_cons_succ])
  refine wpK_one (i := 2) (by kernel_rfl) rfl ?_
  intro K' hK
  go_simp
  go_at_call 188
  refine (linParts_any M1_0.out.dr M2_0.out.dr).mono ?_
  rintro e vp ⟨rp, rfl, hL, hb0⟩
  obtain ⟨lg, lc, rfl, _⟩ := id hL
  have hb : Below W.heap.size W vp := bt ((Below.refl _ W).drew) hb0
  clear hb0
  have HB_p := Lib.hid (bt HB_0.out hb)
  have G_p := Lib.hid (G_0.out.below hb)
  have V_p := Lib.hid (V_0.out.below hb)
  have Z_p := Lib.hid (Z_0.out.below hb)
  have H_p := Lib.hid (H_0.out.below hb)
  have R_p := Lib.hid (R_0.out.below hb)
  have X_p := Lib.hid (X_0.out.below hb)
  have PP_p := Lib.hid (PP_0.out.below hb)
  have M1_p := Lib.hid (M1_0.out.below hb)
  have M2_p := Lib.hid (M2_0.out.below hb)
  clear hb
  have L_p := Lib.hid hL
  clear hL
  go_wp2_with fail
  refine hK.out _ _ (fun _ => ⟨⟨G_p.out.1, G_p.out.2.1, G_p.out.2.2⟩, V_p.out.1, V_p.out.2.1, V_p.out.2.2.1⟩) ?_
  clear hK K'
  (try simp only [Act.put, List.getElem_toArray, List.getElem_cons_succ, List.getElem_cons_zero, List.setIfInBounds_toArray, List.set_cons_zero, List.set_cons_succ])
  refine wpK_one (i := 4) (by kernel_rfl) rfl ?_
  intro K' hK
  go_simp
  go_at_call 126
  refine (commitsOf_any P Q G HG.out F7.out f8 HDH.out HDR.out HDI.out HRI.out L_p.out PP_p.out).mono ?_
  rw [HCM.out]
  rintro e vq ⟨rc, rfl, ho, hb⟩
  obtain ⟨rca, rcc, rfl⟩ := ho.toIn.shape
  have HB_q := Lib.hid (bt HB_p.out hb)
  have G_q := Lib.hid (G_p.out.below hb)
  have V_q := Lib.hid (V_p.out.below hb)
  have Z_q := Lib.hid (Z_p.out.below hb)
  have H_q := Lib.hid (H_p.out.below hb)
  have R_q := Lib.hid (R_p.out.below hb)
  have X_q := Lib.hid (X_p.out.below hb)
  have PP_q := Lib.hid (PP_p.out.below hb)
  have M1_q := Lib.hid (M1_p.out.below hb)
  have M2_q := Lib.hid (M2_p.out.below hb)
  clear hb
  have C_q := Lib.hid ho
  clear ho
  go_wp2_with fail
  refine hK.out _ _ (fun _ => ⟨⟨G_q.out.1, G_q.out.2.1, G_q.out.2.2⟩, V_q.out.1, V_q.out.2.1, V_q.out.2.2.1⟩) ?_
  clear hK K'
  (try simp only [Act.put, List.getElem_toArray, List.getElem_cons_succ, List.getElem_cons_zero, List.setIfInBounds_toArray, List.set_cons_zero, List.set_cons_succ])
  refine wpK_take (i := 5) (v := ?_) rfl (by kernel_rfl) (by kernel_rfl) (by kernel_rfl) (by kernel_rfl) (fun _ _ _ h => h) (Or.inl ⟨by kernel_rfl, ?_⟩) ⟨⟨G_q.out.1, G_q.out.2.1, G_q.out.2.2⟩, V_q.out.1, V_q.out.2.1, V_q.out.2.2.1⟩ ?_
  rotate_left 1
  · intro w9 hSw
    (try dsimp only at hSw)
    go_simp
    (try with_reducible rfl)
  (try simp only [Act.put, List.getElem_toArray, List.getElem_cons_succ, List.getElem_cons_zero, List.setIfInBounds_toArray, List.set_cons_zero, List.set_cons_succ])
  refine wpK_one (i := 6) (by kernel_rfl) rfl ?_
  intro K' hK
  obtain ⟨u0, u1, u2, uf⟩ := V_q.out
  have uf0 := uf 0
  clear uf
  go_simp
  refine hK.out _ _ (fun h => absurd rfl h) ?_
  clear hK K'
  (try simp only [Act.put, List.getElem_toArray, List.getElem_cons_succ, List.getElem_cons_zero, List.setIfInBounds_toArray, List.set_cons_zero, List.set_cons_succ])
  refine wpK_done (by kernel_rfl) ?_ _
  have hwq : w.heap.size + 2 < vq.heap.size := Z_q.out.lt
  have hm : Mid (w.heap.size + 1) (w.heap.size + 1 + 1) vq (vq.setCell ⟨w.heap.size + 1, 0, none⟩ (.slice rca cm.length rcc)) := mid_cell _ _ _ _
  have V_r := Lib.hid (V_q.out.set0 (.slice rca cm.length rcc))
  have G_r := Lib.hid (G_q.out.mid hm (.inl (by omega)))
  have Z_r := Lib.hid (Z_q.out.mid hm (.inr (by omega)))
  have H_r := Lib.hid (H_q.out.mid hm (.inl (by omega)))
  have R_r := Lib.hid (R_q.out.mid hm (.inl (by omega)))
  have X_r := Lib.hid (X_q.out.mid hm (by omega))
  have C_r := Lib.hid (C_q.out.mid hm (.inr (by have := Z_p.out.lt; omega)))
  have HB_r := Lib.hid (HB_q.out.trans (hm.toBelow (by omega) (by omega)))
  have M1_r := Lib.hid (M1_q.out.mid hm (by omega))
  have M2_r := Lib.hid (M2_q.out.mid hm (by omega))
  have hcs := C_r.out.2.2.1
  generalize hX2 : vq.setCell ⟨w.heap.size + 1, 0, none⟩ (.slice rca cm.length rcc) = vr at *
  have PP_r := Lib.hid (show InP vr.heap.size vr (pv3 rca cm.length rcc (some ⟨gh, 0, none⟩) dh.length ch (some ⟨gr, 0, none⟩) dr.length cr) ⟨cm, dh, dr⟩ from ⟨_, _, _, rfl, C_r.out.toIn.wide hcs (Nat.le_refl _), H_r.out.toIn.wide H_r.out.2.2.1 (Nat.le_refl _), R_r.out.toIn.wide R_r.out.2.2.1 (Nat.le_refl _)⟩)
  clear hm g0 g1 g2 p0 p1 p2 pf
  obtain ⟨g0, g1, g2⟩ := G_r.out
  obtain ⟨p0, p1, p2, pf⟩ := V_r.out
  go_wp2_with fail
  refine (msLin_any P Q G HG.out s hsm f1 (by omega) f3 f4 (p := ⟨cm, dh, dr⟩) (by unfold PrD.n; simp only []; omega) HDI0.out M1_r.out M2_r.out PP_r.out).mono ?_
  rw [HMS.out, HCH.out]
  rintro e vs ⟨rfl, hb⟩
  have HB_s := Lib.hid (HB_r.out.trans (hb.mono HB_r.out.size))
  have G_s := Lib.hid (G_r.out.below hb)
  have V_s := Lib.hid (V_r.out.below hb)
  have Z_s := Lib.hid (Z_r.out.below hb)
  have H_s := Lib.hid (H_r.out.below hb)
  have R_s := Lib.hid (R_r.out.below hb)
  have X_s := Lib.hid (X_r.out.below hb)
  have C_s := Lib.hid (C_r.out.below hb)
  have M1_s := Lib.hid (M1_r.out.below hb)
  have M2_s := Lib.hid (M2_r.out.below hb)
  have hws := Z_s.out.lt
  have hcss := C_s.out.2.2.1
  clear hb g0 g1 g2 p0 p1 p2 pf
  obtain ⟨g0, g1, g2⟩ := G_s.out
  obtain ⟨p0, p1, p2, pf⟩ := V_s.out
  obtain ⟨y0, y1, y2, yf⟩ := Z_s.out
  have yf0 := yf 0
  have yf1 := yf 1
  have yf2 := yf 2
  clear yf
  go_wp2
  (try simp only [Exit.inBlock, Exit.then])
  refine bodyPost_ret (v := .tuple #[.agg #[.slice none 0 0, .slice none 0 0, .slice none 0 0], .bool false]) ?_ rfl ?_
  · rw [results_cell_tmp rfl]; go_simp
  · have hm5 := mid3 vs (w.heap.size + 2) (.slice none 0 0) (.slice none 0 0) (.slice none 0 0)
    have hb5 : Below base w vs := HB_s.out.mono (by omega)
    exact ⟨_, _, _, rfl, owQ_nil base _ (Nat.le_trans (show base ≤ vs.heap.size from by have := HB_s.out.size; omega) hm5.size), hb5.trans (hm5.toBelow (by omega) (by have := HB_s.out.size; omega))⟩

set_option maxRecDepth 100000 in
set_option maxHeartbeats 6400000 in
theorem completeCho_off (P Q G : Int) (hg : goodB P Q G = true) (s : ByteArray) (hs : 40 < s.size) (hsm : s.size ≤ 1048576) {B1 : Nat} {u1 : Value} {es : List Int} {n4 : Nat} (hn4 : es.length = n4 * 4) {QX PX base M gh ch gr cr x2 : Nat} {x1 : Option Addr} {dh dr xs : List Int} {which : Nat} (hok : (St.cho es).ok P Q = true) {w : World} (hu1 : InE B1 w u1 es) (hB12 : B1 ≤ base) (hH : OwI base M w (.slice (some ⟨gh, 0, none⟩) dh.length ch) dh) (hR : OwI M w.heap.size w (.slice (some ⟨gr, 0, none⟩) dr.length cr) dr) (hX : KP QX PX (fun w' => IsInts w' x1 xs) w) (hXs : (PX ≤ gh ∨ gh + 1 ≤ QX) ∧ (PX ≤ gr ∨ gr + 1 ≤ QX)) (hXb : xs ≠ [] → ∀ a, x1 = some a → some a.block ≠ some gr)
    (hdh : dh.length = (St.cho es).parts.length) (hdr : dr.length = nCols (St.cho es).parts) (hdi : allIn dh 0 (Q - 1) = true) (hri : allIn dr 0 (Q - 1) = true) (hxi : allIn xs 0 (Q - 1) = true) (hx1 : xs.length = 1) (hwl : which < dh.length) (hwr : which < dr.length) :
    Calls Try.prog 78 #[gv P Q G, .string s, .iface 98 u1, pv3 none 0 0 (some ⟨gh, 0, none⟩) dh.length ch (some ⟨gr, 0, none⟩) dr.length cr, .int .i64 (which : Int), .slice x1 xs.length x2] w (AnsQ base w nilP false) := by
  obtain ⟨y1, yn, y2, rfl, hyn, _, _⟩ := hu1.shape
  obtain ⟨f1, f5, f6, f7, f8⟩ := cho_facts hn4 hok
  have f9 := cho_pos hok
  have hm2 : ∀ (k : Nat) (W : World), (method (k + 1) 98 (.slice y1 yn y2) "loop.example/g00878/impl.parts").run Try.prog W = .ok (103, (.slice y1 yn y2)) W := fun _ _ => by kernel_rfl
  have hfr := f7.1.rows (St.cho es).parts.length (Nat.le_refl _)
  rw [List.take_length] at hfr
  have h8 := f7.1.1
  obtain ⟨hhl, hrl⟩ : dh.length ≤ 8 ∧ dr.length ≤ 64 := by omega
  have hdi0 := all_ex hdi
  obtain ⟨cm, hcm⟩ : ∃ cm, cmts P Q (St.cho es).parts dh dr = cm := ⟨_, rfl⟩
  have hcme : allEl P Q cm = true := hcm ▸ cmts_el hg _ _ _ (fun p hp => ⟨fun r hr => ((f7.2 p hp).1 r hr).2, (f7.2 p hp).2.2⟩) (fun e he => (hdi0 e he).1) hri
  have hcml : cm.length ≤ 64 := by have h9 := cmts_len (P := P) (Q := Q) (St.cho es).parts dh dr (fun q hq => (f7.1.2 q hq).2.1); rw [hcm] at h9; omega
  have hch : chB P Q G s ((St.cho es).els ++ cm) 3 = false := by rw [← Bool.not_eq_true]; intro h; have h2 := labB_true.1 (chB_true.1 h).2.1; omega
  have hq := (good_rng hg).2.1
  have hms : msV P Q G s (St.cho es).els cm dh = 0 := by simp [msV, hch]
  have HX1 := Lib.hid hx1
  rw [hx1]
  clear hx1
  have HCM := Lib.hid hcm
  have HCH := Lib.hid hch
  have HMS := Lib.hid hms
  have HG := Lib.hid hg
  have F7 := Lib.hid f7
  have HDI := Lib.hid hdi
  have HDI0 := Lib.hid hdi0
  have HRI := Lib.hid hri
  have HRI0 := Lib.hid (all_ex hri)
  have HXI := Lib.hid (all_ex hxi)
  have HDH := Lib.hid hdh
  have HDR := Lib.hid hdr
  have hgh := hH.gblk
  have hgr := hR.gblk
  have hMw := hR.2.2.2
  have hPX := hX.1
  have HXB := Lib.hid hXb
  clear hXb
  clear hcm hch hms hg f6 f7 hdi hdi0 hri hxi hcme hfr hok hdh hdr
  have G_0 := Lib.hid (((gr_new w P Q G 32).below (ba _ (.cells #[.slice none 0 0, .slice (some ⟨gh, 0, none⟩) dh.length ch, .slice (some ⟨gr, 0, none⟩) dr.length cr] 36))).below (ba _ (.cells #[.slice none 0 0, .slice none 0 0, .slice none 0 0] 36)))
  have hv := (b3_new (w.alloc (.cells #[.int .i64 P, .int .i64 Q, .int .i64 G] 32)) (.slice none 0 0) (.slice (some ⟨gh, 0, none⟩) dh.length ch) (.slice (some ⟨gr, 0, none⟩) dr.length cr) 36).below (ba _ (.cells #[.slice none 0 0, .slice none 0 0, .slice none 0 0] 36))
  rw [show (w.alloc (.cells #[.int .i64 P, .int .i64 Q, .int .i64 G] 32)).heap.size = w.heap.size + 1 by simp] at hv
  have V_0 := Lib.hid hv
  have hz := b3_new ((w.alloc (.cells #[.int .i64 P, .int .i64 Q, .int .i64 G] 32)).alloc (.cells #[.slice none 0 0, .slice (some ⟨gh, 0, none⟩) dh.length ch, .slice (some ⟨gr, 0, none⟩) dr.length cr] 36)) (.slice none 0 0) (.slice none 0 0) (.slice none 0 0) 36
  rw [show ((w.alloc (.cells #[.int .i64 P, .int .i64 Q, .int .i64 G] 32)).alloc (.cells #[.slice none 0 0, .slice (some ⟨gh, 0, none⟩) dh.length ch, .slice (some ⟨gr, 0, none⟩) dr.length cr] 36)).heap.size = w.heap.size + 2 by simp] at hz
  have Z_0 := Lib.hid hz
  have HB_0 := Lib.hid (bt (bt (ba w (.cells #[.int .i64 P, .int .i64 Q, .int .i64 G] 32)) (ba _ (.cells #[.slice none 0 0, .slice (some ⟨gh, 0, none⟩) dh.length ch, .slice (some ⟨gr, 0, none⟩) dr.length cr] 36))) (ba _ (.cells #[.slice none 0 0, .slice none 0 0, .slice none 0 0] 36)))
  have H_0 := Lib.hid (hH.below HB_0.out)
  have R_0 := Lib.hid (hR.below HB_0.out)
  have X_0 := Lib.hid (hX.below HB_0.out)
  have M1_0 := Lib.hid (hu1.below HB_0.out)
  clear hv hz hH hR hX hu1
  obtain ⟨W, hW⟩ : ∃ W, ((w.alloc (.cells #[.int .i64 P, .int .i64 Q, .int .i64 G] 32)).alloc (.cells #[.slice none 0 0, .slice (some ⟨gh, 0, none⟩) dh.length ch, .slice (some ⟨gr, 0, none⟩) dr.length cr] 36)).alloc (.cells #[.slice none 0 0, .slice none 0 0, .slice none 0 0] 36) = W := ⟨_, rfl⟩
  rw [hW] at HB_0 G_0 V_0 Z_0 H_0 R_0 X_0 M1_0
  have PP_0 := Lib.hid (show InP W.heap.size W (pv3 none 0 0 (some ⟨gh, 0, none⟩) dh.length ch (some ⟨gr, 0, none⟩) dr.length cr) ⟨[], dh, dr⟩ from ⟨_, _, _, rfl, InI.of (.inl rfl) (fun _ => rfl) (Nat.le_refl _), H_0.out.toIn.wide (by have := HB_0.out.size; omega) (Nat.le_refl _), R_0.out.toIn.wide HB_0.out.size (Nat.le_refl _)⟩)
  obtain ⟨g0, g1, g2⟩ := G_0.out
  obtain ⟨p0, p1, p2, pf⟩ := V_0.out
  go_enter Try.func78, Try.ntmps78
  go_wp2_with fail
  clear hW
  refine wpK_begin (n := 6) (S := (fun w' => (w'.cell? ⟨w.heap.size, 0, none⟩ = some (.int .i64 P) ∧ w'.cell? ⟨w.heap.size, 1, none⟩ = some (.int .i64 Q) ∧ w'.cell? ⟨w.heap.size, 2, none⟩ = some (.int .i64 G)) ∧ w'.cell? ⟨w.heap.size + 1, 0, none⟩ = some (.slice none 0 0) ∧ w'.cell? ⟨w.heap.size + 1, 1, none⟩ = some (.slice (some ⟨gh, 0, none⟩) dh.length ch) ∧ w'.cell? ⟨w.heap.size + 1, 2, none⟩ = some (.slice (some ⟨gr, 0, none⟩) dr.length cr))) (by kernel_rfl) ?_
  refine wpK_take (i := 0) (v := ?_) rfl (by kernel_rfl) (by kernel_rfl) (by kernel_rfl) (by kernel_rfl) (fun _ _ _ h => h) (Or.inl ⟨by kernel_rfl, ?_⟩) (show _ from ⟨⟨G_0.out.1, G_0.out.2.1, G_0.out.2.2⟩, V_0.out.1, V_0.out.2.1, V_0.out.2.2.1⟩) ?_
  rotate_left 1
  · intro w9 hSw
    (try dsimp only at hSw)
    go_simp
    (try with_reducible rfl)
  (try simp only [Act.put, List.getElem_toArray, List.getElem_cons_succ, List.getElem_cons_zero, List.setIfInBounds_toArray, List.set_cons_zero, List.set_cons_succ])
  refine wpK_take (i := 1) (v := ?_) rfl (by kernel_rfl) (by kernel_rfl) (by kernel_rfl) (by kernel_rfl) (fun _ _ _ h => h) (Or.inl ⟨by kernel_rfl, ?_⟩) (show _ from ⟨⟨G_0.out.1, G_0.out.2.1, G_0.out.2.2⟩, V_0.out.1, V_0.out.2.1, V_0.out.2.2.1⟩) ?_
  rotate_left 1
  · intro w9 hSw
    (try dsimp only at hSw)
    go_simp
    (try with_reducible rfl)
  (try simp only [Act.put, List.getElem_toArray, List.getElem_cons_succ, List.getElem_cons_zero, List.setIfInBounds_toArray, List.set_cons_zero, List.set_cons_succ])
  refine wpK_take (i := 3) (v := ?_) rfl (by kernel_rfl) (by kernel_rfl) (by kernel_rfl) (by kernel_rfl) (fun _ _ _ h => h) (Or.inl ⟨by kernel_rfl, ?_⟩) (show _ from ⟨⟨G_0.out.1, G_0.out.2.1, G_0.out.2.2⟩, V_0.out.1, V_0.out.2.1, V_0.out.2.2.1⟩) ?_
  rotate_left 1
  · intro w9 hSw
    (try dsimp only at hSw)
    go_simp
    (try with_reducible rfl)
  (try simp only [Act.put, List.getElem_toArray, List.getElem_cons_succ, List.getElem_cons_zero, List.setIfInBounds_toArray, List.set_cons_zero, List.set_cons_succ])
  refine wpK_one (i := 2) (by kernel_rfl) rfl ?_
  intro K' hK
  go_simp
  go_at_call 103
  refine (choParts_any f1 M1_0.out.dr).mono ?_
  rintro e vp ⟨rp, rfl, hL, hb0⟩
  obtain ⟨lg, lc, rfl, _⟩ := id hL
  have hb : Below W.heap.size W vp := bt ((Below.refl _ W).drew) hb0
  clear hb0
  have HB_p := Lib.hid (bt HB_0.out hb)
  have G_p := Lib.hid (G_0.out.below hb)
  have V_p := Lib.hid (V_0.out.below hb)
  have Z_p := Lib.hid (Z_0.out.below hb)
  have H_p := Lib.hid (H_0.out.below hb)
  have R_p := Lib.hid (R_0.out.below hb)
  have X_p := Lib.hid (X_0.out.below hb)
  have PP_p := Lib.hid (PP_0.out.below hb)
  have M1_p := Lib.hid (M1_0.out.below hb)
  clear hb
  have L_p := Lib.hid hL
  clear hL
  go_wp2_with fail
  refine hK.out _ _ (fun _ => ⟨⟨G_p.out.1, G_p.out.2.1, G_p.out.2.2⟩, V_p.out.1, V_p.out.2.1, V_p.out.2.2.1⟩) ?_
  clear hK K'
  (try simp only [Act.put, List.getElem_toArray, List.getElem_cons_succ, List.getElem_cons_zero, List.setIfInBounds_toArray, List.set_cons_zero, List.set_cons_succ])
  refine wpK_one (i := 4) (by kernel_rfl) rfl ?_
  intro K' hK
  go_simp
  go_at_call 126
  refine (commitsOf_any P Q G HG.out F7.out f8 HDH.out HDR.out HDI.out HRI.out L_p.out PP_p.out).mono ?_
  rw [HCM.out]
  rintro e vq ⟨rc, rfl, ho, hb⟩
  obtain ⟨rca, rcc, rfl⟩ := ho.toIn.shape
  have HB_q := Lib.hid (bt HB_p.out hb)
  have G_q := Lib.hid (G_p.out.below hb)
  have V_q := Lib.hid (V_p.out.below hb)
  have Z_q := Lib.hid (Z_p.out.below hb)
  have H_q := Lib.hid (H_p.out.below hb)
  have R_q := Lib.hid (R_p.out.below hb)
  have X_q := Lib.hid (X_p.out.below hb)
  have PP_q := Lib.hid (PP_p.out.below hb)
  have M1_q := Lib.hid (M1_p.out.below hb)
  clear hb
  have C_q := Lib.hid ho
  clear ho
  go_wp2_with fail
  refine hK.out _ _ (fun _ => ⟨⟨G_q.out.1, G_q.out.2.1, G_q.out.2.2⟩, V_q.out.1, V_q.out.2.1, V_q.out.2.2.1⟩) ?_
  clear hK K'
  (try simp only [Act.put, List.getElem_toArray, List.getElem_cons_succ, List.getElem_cons_zero, List.setIfInBounds_toArray, List.set_cons_zero, List.set_cons_succ])
  refine wpK_take (i := 5) (v := ?_) rfl (by kernel_rfl) (by kernel_rfl) (by kernel_rfl) (by kernel_rfl) (fun _ _ _ h => h) (Or.inl ⟨by kernel_rfl, ?_⟩) ⟨⟨G_q.out.1, G_q.out.2.1, G_q.out.2.2⟩, V_q.out.1, V_q.out.2.1, V_q.out.2.2.1⟩ ?_
  rotate_left 1
  · intro w9 hSw
    (try dsimp only at hSw)
    go_simp
    (try with_reducible rfl)
  (try simp only [Act.put, List.getElem_toArray, List.getElem_cons_succ, List.getElem_cons_zero, List.setIfInBounds_toArray, List.set_cons_zero, List.set_cons_succ])
  refine wpK_one (i := 6) (by kernel_rfl) rfl ?_
  intro K' hK
  obtain ⟨u0, u1, u2, uf⟩ := V_q.out
  have uf0 := uf 0
  clear uf
  go_simp
  refine hK.out _ _ (fun h => absurd rfl h) ?_
  clear hK K'
  (try simp only [Act.put, List.getElem_toArray, List.getElem_cons_succ, List.getElem_cons_zero, List.setIfInBounds_toArray, List.set_cons_zero, List.set_cons_succ])
  refine wpK_done (by kernel_rfl) ?_ _
  have hwq : w.heap.size + 2 < vq.heap.size := Z_q.out.lt
  have hm : Mid (w.heap.size + 1) (w.heap.size + 1 + 1) vq (vq.setCell ⟨w.heap.size + 1, 0, none⟩ (.slice rca cm.length rcc)) := mid_cell _ _ _ _
  have V_r := Lib.hid (V_q.out.set0 (.slice rca cm.length rcc))
  have G_r := Lib.hid (G_q.out.mid hm (.inl (by omega)))
  have Z_r := Lib.hid (Z_q.out.mid hm (.inr (by omega)))
  have H_r := Lib.hid (H_q.out.mid hm (.inl (by omega)))
  have R_r := Lib.hid (R_q.out.mid hm (.inl (by omega)))
  have X_r := Lib.hid (X_q.out.mid hm (by omega))
  have C_r := Lib.hid (C_q.out.mid hm (.inr (by have := Z_p.out.lt; omega)))
  have HB_r := Lib.hid (HB_q.out.trans (hm.toBelow (by omega) (by omega)))
  have M1_r := Lib.hid (M1_q.out.mid hm (by omega))
  have hcs := C_r.out.2.2.1
  generalize hX2 : vq.setCell ⟨w.heap.size + 1, 0, none⟩ (.slice rca cm.length rcc) = vr at *
  have PP_r := Lib.hid (show InP vr.heap.size vr (pv3 rca cm.length rcc (some ⟨gh, 0, none⟩) dh.length ch (some ⟨gr, 0, none⟩) dr.length cr) ⟨cm, dh, dr⟩ from ⟨_, _, _, rfl, C_r.out.toIn.wide hcs (Nat.le_refl _), H_r.out.toIn.wide H_r.out.2.2.1 (Nat.le_refl _), R_r.out.toIn.wide R_r.out.2.2.1 (Nat.le_refl _)⟩)
  clear hm g0 g1 g2 p0 p1 p2 pf
  obtain ⟨g0, g1, g2⟩ := G_r.out
  obtain ⟨p0, p1, p2, pf⟩ := V_r.out
  go_wp2_with fail
  refine (msCho_any P Q G HG.out s hsm f1 f9 (p := ⟨cm, dh, dr⟩) (by unfold PrD.n; simp only []; omega) HDI0.out M1_r.out PP_r.out).mono ?_
  rw [HMS.out, HCH.out]
  rintro e vs ⟨rfl, hb⟩
  have HB_s := Lib.hid (HB_r.out.trans (hb.mono HB_r.out.size))
  have G_s := Lib.hid (G_r.out.below hb)
  have V_s := Lib.hid (V_r.out.below hb)
  have Z_s := Lib.hid (Z_r.out.below hb)
  have H_s := Lib.hid (H_r.out.below hb)
  have R_s := Lib.hid (R_r.out.below hb)
  have X_s := Lib.hid (X_r.out.below hb)
  have C_s := Lib.hid (C_r.out.below hb)
  have M1_s := Lib.hid (M1_r.out.below hb)
  have hws := Z_s.out.lt
  have hcss := C_s.out.2.2.1
  clear hb g0 g1 g2 p0 p1 p2 pf
  obtain ⟨g0, g1, g2⟩ := G_s.out
  obtain ⟨p0, p1, p2, pf⟩ := V_s.out
  obtain ⟨y0, y1, y2, yf⟩ := Z_s.out
  have yf0 := yf 0
  have yf1 := yf 1
  have yf2 := yf 2
  clear yf
  go_wp2
  (try simp only [Exit.inBlock, Exit.then])
  refine bodyPost_ret (v := .tuple #[.agg #[.slice none 0 0, .slice none 0 0, .slice none 0 0], .bool false]) ?_ rfl ?_
  · rw [results_cell_tmp rfl]; go_simp
  · have hm5 := mid3 vs (w.heap.size + 2) (.slice none 0 0) (.slice none 0 0) (.slice none 0 0)
    have hb5 : Below base w vs := HB_s.out.mono (by omega)
    exact ⟨_, _, _, rfl, owQ_nil base _ (Nat.le_trans (show base ≤ vs.heap.size from by have := HB_s.out.size; omega) hm5.size), hb5.trans (hm5.toBelow (by omega) (by have := HB_s.out.size; omega))⟩

end Go.Proofs.Ytlgdcfficemebaa

/- Sigma proofs: ProveLinear, ProveKnowledge, ProveEqual of the program. -/
namespace Go.Proofs.Ytlgdcfficemebaa
open Go.RowKit
set_option linter.unusedVariables false
set_option linter.unusedSimpArgs false

theorem OwI.some {Q P : Nat} {w : World} {v : Value} {zs : List Int} (h : OwI Q P w v zs) (h0 : 0 < zs.length) : ∃ g c, v = .slice (some ⟨g, 0, none⟩) zs.length c := by
  rcases h.1.2 with ⟨_, hn⟩ | ⟨g, cap, cur, rfl, _⟩
  · omega
  · exact ⟨g, cap, rfl⟩
theorem pl_off {P Q G : Int} {s : ByteArray} {rows : List (List Int)} {xs cs : List Int} (h : plB P Q G s rows xs cs = false) : plV P Q G s rows xs cs = nilP := by simp [plV, h]
theorem pl_on {P Q G : Int} {s : ByteArray} {rows : List (List Int)} {xs cs : List Int} (h : plB P Q G s rows xs cs = true) : plV P Q G s rows xs cs = cplP P Q G s (.lin rows (imgs P rows xs)) [0] cs 0 xs := by
  rw [cpl_lin h]; simp [plV, h]
theorem plB_size {P Q G : Int} {s : ByteArray} {rows : List (List Int)} {xs cs : List Int} (h : 40 < s.size) : plB P Q G s rows xs cs = false := by
  rw [← Bool.not_eq_true]; intro h'; have := (plB_true.1 h').2.2.2; omega
theorem OwQ.mid2 {Q P A B : Nat} {w w' : World} {v : Value} {p : PrD} (h : OwQ Q P w v p) (hm : Mid A B w w') (ho : P ≤ A ∨ B ≤ Q) : OwQ Q P w' v p := h.mid hm ho
theorem OwQ.shape {Q P : Nat} {w : World} {a b c : Value} {p : PrD} (h : OwQ Q P w (.agg #[a, b, c]) p) : ∃ a1 c1 a2 c2 a3 c3, a = .slice a1 p.c.length c1 ∧ b = .slice a2 p.h.length c2 ∧ c = .slice a3 p.r.length c3 := by
  obtain ⟨a1, c1, a2, c2, a3, c3, e, _⟩ := h.toIn.parts
  simp only [Value.agg.injEq, Array.mk.injEq, List.cons.injEq, and_true] at e
  exact ⟨a1, c1, a2, c2, a3, c3, e.1, e.2.1, e.2.2⟩

set_option maxRecDepth 100000 in
set_option maxHeartbeats 3200000 in
theorem provL_any (P Q G : Int) (s : ByteArray) (hs : s.size ≤ 1048576) {B C D : Nat} {v u x : Value} {rows : List (List Int)} {xs cs : List Int} (hl : rows.length ≤ 1048576) (hr : ∀ z ∈ rows, z.length ≤ 17592186044416) (hxl : xs.length ≤ 1048576) (hcl : cs.length ≤ 1048576) {w : World} (hz : InS B w v rows) (hx : InI C w u xs) (hc : InI D w x cs) :
    Calls Try.prog 37 #[gv P Q G, .string s, v, u, x] w (AnsQ w.heap.size w (plV P Q G s rows xs cs) (plB P Q G s rows xs cs)) := by
  obtain ⟨ad, cap, rfl⟩ := hz.shape
  obtain ⟨ad2, cap2, rfl⟩ := hx.shape
  obtain ⟨ad3, cap3, rfl⟩ := hc.shape
  have HRL := Lib.hid hr
  have G_0 := Lib.hid ((gr_new w P Q G 32).below (ba _ (.cells #[.slice none 0 0, .slice none 0 0, .slice none 0 0] 36)))
  have hb3 := b3_new (w.alloc (.cells #[.int .i64 P, .int .i64 Q, .int .i64 G] 32)) (.slice none 0 0) (.slice none 0 0) (.slice none 0 0) 36
  rw [show (w.alloc (.cells #[.int .i64 P, .int .i64 Q, .int .i64 G] 32)).heap.size = w.heap.size + 1 by simp] at hb3
  have Z_0 := Lib.hid hb3
  have HB_0 := Lib.hid (bt (ba w (.cells #[.int .i64 P, .int .i64 Q, .int .i64 G] 32)) (ba _ (.cells #[.slice none 0 0, .slice none 0 0, .slice none 0 0] 36)))
  have M_0 := Lib.hid (hz.below HB_0.out)
  have X_0 := Lib.hid (hx.below HB_0.out)
  have C_0 := Lib.hid (hc.below HB_0.out)
  have hzle := hz.le
  have hxle := hx.le
  have hcle := hc.le
  clear hr hb3 hz hx hc
  cases h0 : imB P Q G rows xs
  · have E1 := Lib.hid (show plB P Q G s rows xs cs = false by simp [plB, h0])
    rw [E1.out, pl_off E1.out]
    have K0 := Lib.hid h0
    clear h0
    obtain ⟨g0, g1, g2⟩ := G_0.out
    obtain ⟨y0, y1, y2, yf⟩ := Z_0.out
    have yf0 := yf 0
    have yf1 := yf 1
    have yf2 := yf 2
    go_enter Try.func37, Try.ntmps37
    go_wp2_with fail
    refine (imagesOfB_any P Q G hl HRL.out hxl M_0.out X_0.out).mono ?_
    rw [K0.out]
    rintro e v1 ⟨vi, rfl, hoi, hb⟩
    obtain ⟨via, vic, rfl⟩ := hoi.toIn.shape
    have HB_1 := Lib.hid (bt HB_0.out hb)
    have G_1 := Lib.hid (G_0.out.below hb)
    have Z_1 := Lib.hid (Z_0.out.below hb)
    have M_1 := Lib.hid (M_0.out.below hb)
    have X_1 := Lib.hid (X_0.out.below hb)
    have C_1 := Lib.hid (C_0.out.below hb)
    clear hb g0 g1 g2 y0 y1 y2 yf yf0 yf1 yf2
    obtain ⟨g0, g1, g2⟩ := G_1.out
    obtain ⟨y0, y1, y2, yf⟩ := Z_1.out
    have yf0 := yf 0
    have yf1 := yf 1
    have yf2 := yf 2
    clear hoi
    go_wp2
    (try simp only [Exit.inBlock, Exit.then])
    refine bodyPost_ret (v := .tuple #[.agg #[.slice none 0 0, .slice none 0 0, .slice none 0 0], .bool false]) ?_ rfl ?_
    · rw [results_cell_tmp rfl]; go_simp
    · have hm5 := mid3 v1 (w.heap.size + 1) (.slice none 0 0) (.slice none 0 0) (.slice none 0 0)
      exact ⟨_, _, _, rfl, owQ_nil _ _ (Nat.le_trans HB_1.out.size hm5.size), HB_1.out.trans (hm5.toBelow (by omega) HB_1.out.size)⟩
  obtain ⟨hgd, hrb, hxw, hxi⟩ := imB_true.1 h0
  obtain ⟨hr1, hr2, hr3⟩ := rowsB_true.1 hrb
  have KI := Lib.hid (im_on h0)
  have K0 := Lib.hid h0
  by_cases h1 : ¬ cs.length = xs.length
  · have E1 := Lib.hid (show plB P Q G s rows xs cs = false by simp [plB, h1])
    rw [E1.out, pl_off E1.out]
    have B1 : ((cs.length : Int) != (xs.length : Int)) = true := by simp; omega
    clear h0 h1 hxw hrb
    obtain ⟨g0, g1, g2⟩ := G_0.out
    obtain ⟨y0, y1, y2, yf⟩ := Z_0.out
    have yf0 := yf 0
    have yf1 := yf 1
    have yf2 := yf 2
    go_enter Try.func37, Try.ntmps37
    go_wp2_with fail
    refine (imagesOfB_any P Q G hl HRL.out hxl M_0.out X_0.out).mono ?_
    rw [K0.out, KI.out]
    rintro e v1 ⟨vi, rfl, hoi, hb⟩
    obtain ⟨via, vic, rfl⟩ := hoi.toIn.shape
    have HB_1 := Lib.hid (bt HB_0.out hb)
    have G_1 := Lib.hid (G_0.out.below hb)
    have Z_1 := Lib.hid (Z_0.out.below hb)
    have M_1 := Lib.hid (M_0.out.below hb)
    have X_1 := Lib.hid (X_0.out.below hb)
    have C_1 := Lib.hid (C_0.out.below hb)
    clear hb g0 g1 g2 y0 y1 y2 yf yf0 yf1 yf2
    obtain ⟨g0, g1, g2⟩ := G_1.out
    obtain ⟨y0, y1, y2, yf⟩ := Z_1.out
    have yf0 := yf 0
    have yf1 := yf 1
    have yf2 := yf 2
    have I_1 := Lib.hid hoi
    clear hoi
    go_wp2
    (try simp only [Exit.inBlock, Exit.then])
    refine bodyPost_ret (v := .tuple #[.agg #[.slice none 0 0, .slice none 0 0, .slice none 0 0], .bool false]) ?_ rfl ?_
    · rw [results_cell_tmp rfl]; go_simp
    · have hm5 := mid3 v1 (w.heap.size + 1) (.slice none 0 0) (.slice none 0 0) (.slice none 0 0)
      exact ⟨_, _, _, rfl, owQ_nil _ _ (Nat.le_trans HB_1.out.size hm5.size), HB_1.out.trans (hm5.toBelow (by omega) HB_1.out.size)⟩
  have h1 := Decidable.not_not.1 h1
  have B1 : ((cs.length : Int) != (xs.length : Int)) = false := by simp; omega
  cases h2 : allIn cs 0 (Q - 1)
  · have E1 := Lib.hid (show plB P Q G s rows xs cs = false by simp [plB, h2])
    rw [E1.out, pl_off E1.out]
    have K2 := Lib.hid (show exsB Q cs = false from (exsB'_all (by omega)).trans h2)
    clear h0 h1 h2 hxw hrb
    obtain ⟨g0, g1, g2⟩ := G_0.out
    obtain ⟨y0, y1, y2, yf⟩ := Z_0.out
    have yf0 := yf 0
    have yf1 := yf 1
    have yf2 := yf 2
    go_enter Try.func37, Try.ntmps37
    go_wp2_with fail
    refine (imagesOfB_any P Q G hl HRL.out hxl M_0.out X_0.out).mono ?_
    rw [K0.out, KI.out]
    rintro e v1 ⟨vi, rfl, hoi, hb⟩
    obtain ⟨via, vic, rfl⟩ := hoi.toIn.shape
    have HB_1 := Lib.hid (bt HB_0.out hb)
    have G_1 := Lib.hid (G_0.out.below hb)
    have Z_1 := Lib.hid (Z_0.out.below hb)
    have M_1 := Lib.hid (M_0.out.below hb)
    have X_1 := Lib.hid (X_0.out.below hb)
    have C_1 := Lib.hid (C_0.out.below hb)
    clear hb g0 g1 g2 y0 y1 y2 yf yf0 yf1 yf2
    obtain ⟨g0, g1, g2⟩ := G_1.out
    obtain ⟨y0, y1, y2, yf⟩ := Z_1.out
    have yf0 := yf 0
    have yf1 := yf 1
    have yf2 := yf 2
    have I_1 := Lib.hid hoi
    clear hoi
    go_wp2_with fail
    refine (areExponents_any P Q G _ _ _ cs rfl (by omega) _ (C_1.out.ints).1).mono ?_
    rw [K2.out]
    rintro e v2 ⟨rfl, hb⟩
    have hI2 := I_1.out.below hb
    have HB_2 := Lib.hid (bt HB_1.out hb)
    have G_2 := Lib.hid (G_1.out.below hb)
    have Z_2 := Lib.hid (Z_1.out.below hb)
    have M_2 := Lib.hid (M_1.out.below hb)
    have X_2 := Lib.hid (X_1.out.below hb)
    have C_2 := Lib.hid (C_1.out.below hb)
    clear hb g0 g1 g2 y0 y1 y2 yf yf0 yf1 yf2
    obtain ⟨g0, g1, g2⟩ := G_2.out
    obtain ⟨y0, y1, y2, yf⟩ := Z_2.out
    have yf0 := yf 0
    have yf1 := yf 1
    have yf2 := yf 2
    have I_2 := Lib.hid hI2
    clear hI2
    go_wp2
    (try simp only [Exit.inBlock, Exit.then])
    refine bodyPost_ret (v := .tuple #[.agg #[.slice none 0 0, .slice none 0 0, .slice none 0 0], .bool false]) ?_ rfl ?_
    · rw [results_cell_tmp rfl]; go_simp
    · have hm5 := mid3 v2 (w.heap.size + 1) (.slice none 0 0) (.slice none 0 0) (.slice none 0 0)
      exact ⟨_, _, _, rfl, owQ_nil _ _ (Nat.le_trans HB_2.out.size hm5.size), HB_2.out.trans (hm5.toBelow (by omega) HB_2.out.size)⟩
  have K2 := Lib.hid (show exsB Q cs = true from (exsB'_all (by omega)).trans h2)
  have hcp : 0 < cs.length := by omega
  have hgr := good_rng hgd
  have hst : (St.lin rows (imgs P rows xs)).ok P Q = true := by rw [lin_ok]; simp only [Bool.and_eq_true, decide_eq_true_eq]; exact ⟨hrb, imgs_length _ _ _, imgs_el h0⟩
  have hnc : nCols (St.lin rows (imgs P rows xs)).parts = cs.length := by simp [St.parts, nCols]; omega
  have H1 := Lib.hid h1
  have HNC := Lib.hid hnc
  have H2 := Lib.hid h2
  have HXI := Lib.hid hxi
  have HST := Lib.hid hst
  by_cases h3 : 40 < s.size
  · rw [plB_size h3, pl_off (plB_size h3)]
    clear h0 h1 h2 hxw hrb hnc hst hxi
    obtain ⟨g0, g1, g2⟩ := G_0.out
    obtain ⟨y0, y1, y2, yf⟩ := Z_0.out
    have yf0 := yf 0
    have yf1 := yf 1
    have yf2 := yf 2
    go_enter Try.func37, Try.ntmps37
    go_wp2_with fail
    refine (imagesOfB_any P Q G hl HRL.out hxl M_0.out X_0.out).mono ?_
    rw [K0.out, KI.out]
    rintro e v1 ⟨vi, rfl, hoi, hb⟩
    obtain ⟨via, vic, rfl⟩ := hoi.toIn.shape
    have HB_1 := Lib.hid (bt HB_0.out hb)
    have G_1 := Lib.hid (G_0.out.below hb)
    have Z_1 := Lib.hid (Z_0.out.below hb)
    have M_1 := Lib.hid (M_0.out.below hb)
    have X_1 := Lib.hid (X_0.out.below hb)
    have C_1 := Lib.hid (C_0.out.below hb)
    clear hb g0 g1 g2 y0 y1 y2 yf yf0 yf1 yf2
    obtain ⟨g0, g1, g2⟩ := G_1.out
    obtain ⟨y0, y1, y2, yf⟩ := Z_1.out
    have yf0 := yf 0
    have yf1 := yf 1
    have yf2 := yf 2
    have I_1 := Lib.hid hoi
    clear hoi
    go_wp2_with fail
    refine (areExponents_any P Q G _ _ _ cs rfl (by omega) _ (C_1.out.ints).1).mono ?_
    rw [K2.out]
    rintro e v2 ⟨rfl, hb⟩
    have hI2 := I_1.out.below hb
    have HB_2 := Lib.hid (bt HB_1.out hb)
    have G_2 := Lib.hid (G_1.out.below hb)
    have Z_2 := Lib.hid (Z_1.out.below hb)
    have M_2 := Lib.hid (M_1.out.below hb)
    have X_2 := Lib.hid (X_1.out.below hb)
    have C_2 := Lib.hid (C_1.out.below hb)
    clear hb g0 g1 g2 y0 y1 y2 yf yf0 yf1 yf2
    obtain ⟨g0, g1, g2⟩ := G_2.out
    obtain ⟨y0, y1, y2, yf⟩ := Z_2.out
    have yf0 := yf 0
    have yf1 := yf 1
    have yf2 := yf 2
    have I_2 := Lib.hid hI2
    clear hI2
    have hnl := (C_2.out.ints).2.2.1
    have hlit := ba v2 (.cells #[.int .i64 0] 3)
    have hci := ((C_2.out.below hlit).ints).1
    go_wp2_with fail
    refine (clone_any _ _ _ cs rfl (by omega) hnl _ hci).mono ?_
    rintro e v3 ⟨rc, rfl, ho, hb0⟩
    obtain ⟨gr, cr, rfl⟩ := ho.some hcp
    have hH := own_lit v2 [0] (by simp) 3
    have hs2 : (v2.alloc (.cells #[.int .i64 0] 3)).heap.size = v2.heap.size + 1 := by simp
    have hH2 : OwI v2.heap.size (v2.heap.size + 1) (v2.alloc (.cells #[.int .i64 0] 3)) (.slice (some ⟨v2.heap.size, 0, none⟩) ([0] : List Int).length 1) [0] := by rw [← hs2]; exact OwR.mk hH (by simp)
    rw [hs2] at ho
    have hH3 := hH2.below hb0
    have hal := ba v3 (.cells #[.slice none 0 0, .slice (some ⟨v2.heap.size, 0, none⟩) 1 1, .slice (some ⟨gr, 0, none⟩) cs.length cr] 36)
    have hb := bt (bt hlit hb0) hal
    have hsv : (v3.alloc (.cells #[.slice none 0 0, .slice (some ⟨v2.heap.size, 0, none⟩) 1 1, .slice (some ⟨gr, 0, none⟩) cs.length cr] 36)).heap.size = v3.heap.size + 1 := by simp
    have DV := Lib.hid (b3_new v3 (.slice none 0 0) (.slice (some ⟨v2.heap.size, 0, none⟩) 1 1) (.slice (some ⟨gr, 0, none⟩) cs.length cr) 36)
    have H_3 := Lib.hid (hH3.below hal)
    have ho2 := ho.below hal
    have R_3 := Lib.hid (ho2.wide (Nat.le_refl _) (show v3.heap.size ≤ (v3.alloc (.cells #[.slice none 0 0, .slice (some ⟨v2.heap.size, 0, none⟩) 1 1, .slice (some ⟨gr, 0, none⟩) cs.length cr] 36)).heap.size by omega) (Nat.le_refl _))
    have hI3 := I_2.out.below hb
    obtain ⟨V, hV⟩ : ∃ V, v3.alloc (.cells #[.slice none 0 0, .slice (some ⟨v2.heap.size, 0, none⟩) 1 1, .slice (some ⟨gr, 0, none⟩) cs.length cr] 36) = V := ⟨_, rfl⟩
    clear hlit hci hH hs2 hH2 hH3 ho ho2 hb0 hal hsv hnl
    rw [hV] at hb DV H_3 R_3 hI3
    have HB_3 := Lib.hid (bt HB_2.out hb)
    have G_3 := Lib.hid (G_2.out.below hb)
    have Z_3 := Lib.hid (Z_2.out.below hb)
    have M_3 := Lib.hid (M_2.out.below hb)
    have X_3 := Lib.hid (X_2.out.below hb)
    have C_3 := Lib.hid (C_2.out.below hb)
    clear hb g0 g1 g2 y0 y1 y2 yf yf0 yf1 yf2
    obtain ⟨g0, g1, g2⟩ := G_3.out
    obtain ⟨y0, y1, y2, yf⟩ := Z_3.out
    have yf0 := yf 0
    have yf1 := yf 1
    have yf2 := yf 2
    have I_3 := Lib.hid hI3
    clear hI3
    obtain ⟨d0, d1, d2, _⟩ := DV.out
    have hlz2 := Z_2.out.lt
    have hsz2 := HB_2.out.size
    have hsz1 := HB_1.out.size
    have hi1 := I_1.out.le
    have hi2 : v1.heap.size ≤ v2.heap.size := I_2.out.le
    have HC := Lib.hid (completeLin_off P Q G hgd s h3 hs (B3 := C) (base := v2.heap.size) (M := v2.heap.size + 1) (dh := [0]) (dr := cs) (xs := xs) HST.out M_3.out I_3.out.toIn ⟨by omega, hi2⟩ H_3.out R_3.out X_3.out (by omega) rfl HNC.out.symm (by simp [allIn, inB]; omega) H2.out HXI.out (by have := H1.out; omega) hcp)
    go_wp2_with fail
    clear hV
    refine HC.out.mono ?_
    rintro e v4 ⟨qa, qb, qc, rfl, hq, hb⟩
    obtain ⟨a1, c1, a2, c2, a3, c3, rfl, rfl, rfl⟩ := hq.shape
    have HB_4 := Lib.hid (HB_3.out.trans (hb.mono (by omega)))
    have hz4 := Z_3.out.belowB hb (by omega)
    have Z_4 := Lib.hid hz4
    have AQ := Lib.hid hq
    clear hq hz4 hb g0 g1 g2 y0 y1 y2 yf yf0 yf1 yf2 d0 d1 d2
    obtain ⟨y0, y1, y2, yf⟩ := Z_4.out
    have yf0 := yf 0
    have yf1 := yf 1
    have yf2 := yf 2
    clear yf
    go_wp2
    (try simp only [Exit.inBlock, Exit.then])
    refine bodyPost_ret (v := .tuple #[.agg #[.slice a1 nilP.c.length c1, .slice a2 nilP.h.length c2, .slice a3 nilP.r.length c3], .bool false]) ?_ rfl ?_
    · rw [results_cell_tmp rfl]; go_simp
    · have hm5 := mid3 v4 (w.heap.size + 1) (.slice a1 nilP.c.length c1) (.slice a2 nilP.h.length c2) (.slice a3 nilP.r.length c3)
      have h1 := AQ.out.mid hm5 (.inr (by omega))
      exact ⟨_, _, _, rfl, h1.wide (by omega) hm5.size (Nat.le_refl _), HB_4.out.trans (hm5.toBelow (by omega) HB_4.out.size)⟩
  have h3 : s.size ≤ 40 := by omega
  have E1 := Lib.hid (plB_true.2 ⟨h0, h1, h2, h3⟩)
  rw [E1.out, pl_on E1.out]
  obtain ⟨p, hp⟩ : ∃ p, cplP P Q G s (.lin rows (imgs P rows xs)) [0] cs 0 xs = p := ⟨_, rfl⟩
  have HP := Lib.hid hp
  rw [hp]
  clear hp h0 h1 h2 hxw hrb hnc hst hxi
  obtain ⟨g0, g1, g2⟩ := G_0.out
  obtain ⟨y0, y1, y2, yf⟩ := Z_0.out
  have yf0 := yf 0
  have yf1 := yf 1
  have yf2 := yf 2
  go_enter Try.func37, Try.ntmps37
  go_wp2_with fail
  refine (imagesOfB_any P Q G hl HRL.out hxl M_0.out X_0.out).mono ?_
  rw [K0.out, KI.out]
  rintro e v1 ⟨vi, rfl, hoi, hb⟩
  obtain ⟨via, vic, rfl⟩ := hoi.toIn.shape
  have HB_1 := Lib.hid (bt HB_0.out hb)
  have G_1 := Lib.hid (G_0.out.below hb)
  have Z_1 := Lib.hid (Z_0.out.below hb)
  have M_1 := Lib.hid (M_0.out.below hb)
  have X_1 := Lib.hid (X_0.out.below hb)
  have C_1 := Lib.hid (C_0.out.below hb)
  clear hb g0 g1 g2 y0 y1 y2 yf yf0 yf1 yf2
  obtain ⟨g0, g1, g2⟩ := G_1.out
  obtain ⟨y0, y1, y2, yf⟩ := Z_1.out
  have yf0 := yf 0
  have yf1 := yf 1
  have yf2 := yf 2
  have I_1 := Lib.hid hoi
  clear hoi
  go_wp2_with fail
  refine (areExponents_any P Q G _ _ _ cs rfl (by omega) _ (C_1.out.ints).1).mono ?_
  rw [K2.out]
  rintro e v2 ⟨rfl, hb⟩
  have hI2 := I_1.out.below hb
  have HB_2 := Lib.hid (bt HB_1.out hb)
  have G_2 := Lib.hid (G_1.out.below hb)
  have Z_2 := Lib.hid (Z_1.out.below hb)
  have M_2 := Lib.hid (M_1.out.below hb)
  have X_2 := Lib.hid (X_1.out.below hb)
  have C_2 := Lib.hid (C_1.out.below hb)
  clear hb g0 g1 g2 y0 y1 y2 yf yf0 yf1 yf2
  obtain ⟨g0, g1, g2⟩ := G_2.out
  obtain ⟨y0, y1, y2, yf⟩ := Z_2.out
  have yf0 := yf 0
  have yf1 := yf 1
  have yf2 := yf 2
  have I_2 := Lib.hid hI2
  clear hI2
  have hnl := (C_2.out.ints).2.2.1
  have hlit := ba v2 (.cells #[.int .i64 0] 3)
  have hci := ((C_2.out.below hlit).ints).1
  go_wp2_with fail
  refine (clone_any _ _ _ cs rfl (by omega) hnl _ hci).mono ?_
  rintro e v3 ⟨rc, rfl, ho, hb0⟩
  obtain ⟨gr, cr, rfl⟩ := ho.some hcp
  have hH := own_lit v2 [0] (by simp) 3
  have hs2 : (v2.alloc (.cells #[.int .i64 0] 3)).heap.size = v2.heap.size + 1 := by simp
  have hH2 : OwI v2.heap.size (v2.heap.size + 1) (v2.alloc (.cells #[.int .i64 0] 3)) (.slice (some ⟨v2.heap.size, 0, none⟩) ([0] : List Int).length 1) [0] := by rw [← hs2]; exact OwR.mk hH (by simp)
  rw [hs2] at ho
  have hH3 := hH2.below hb0
  have hal := ba v3 (.cells #[.slice none 0 0, .slice (some ⟨v2.heap.size, 0, none⟩) 1 1, .slice (some ⟨gr, 0, none⟩) cs.length cr] 36)
  have hb := bt (bt hlit hb0) hal
  have hsv : (v3.alloc (.cells #[.slice none 0 0, .slice (some ⟨v2.heap.size, 0, none⟩) 1 1, .slice (some ⟨gr, 0, none⟩) cs.length cr] 36)).heap.size = v3.heap.size + 1 := by simp
  have DV := Lib.hid (b3_new v3 (.slice none 0 0) (.slice (some ⟨v2.heap.size, 0, none⟩) 1 1) (.slice (some ⟨gr, 0, none⟩) cs.length cr) 36)
  have H_3 := Lib.hid (hH3.below hal)
  have ho2 := ho.below hal
  have R_3 := Lib.hid (ho2.wide (Nat.le_refl _) (show v3.heap.size ≤ (v3.alloc (.cells #[.slice none 0 0, .slice (some ⟨v2.heap.size, 0, none⟩) 1 1, .slice (some ⟨gr, 0, none⟩) cs.length cr] 36)).heap.size by omega) (Nat.le_refl _))
  have hI3 := I_2.out.below hb
  obtain ⟨V, hV⟩ : ∃ V, v3.alloc (.cells #[.slice none 0 0, .slice (some ⟨v2.heap.size, 0, none⟩) 1 1, .slice (some ⟨gr, 0, none⟩) cs.length cr] 36) = V := ⟨_, rfl⟩
  clear hlit hci hH hs2 hH2 hH3 ho ho2 hb0 hal hsv hnl
  rw [hV] at hb DV H_3 R_3 hI3
  have HB_3 := Lib.hid (bt HB_2.out hb)
  have G_3 := Lib.hid (G_2.out.below hb)
  have Z_3 := Lib.hid (Z_2.out.below hb)
  have M_3 := Lib.hid (M_2.out.below hb)
  have X_3 := Lib.hid (X_2.out.below hb)
  have C_3 := Lib.hid (C_2.out.below hb)
  clear hb g0 g1 g2 y0 y1 y2 yf yf0 yf1 yf2
  obtain ⟨g0, g1, g2⟩ := G_3.out
  obtain ⟨y0, y1, y2, yf⟩ := Z_3.out
  have yf0 := yf 0
  have yf1 := yf 1
  have yf2 := yf 2
  have I_3 := Lib.hid hI3
  clear hI3
  obtain ⟨d0, d1, d2, _⟩ := DV.out
  have hlz2 := Z_2.out.lt
  have hsz2 := HB_2.out.size
  have hsz1 := HB_1.out.size
  have hi1 := I_1.out.le
  have hi2 : v1.heap.size ≤ v2.heap.size := I_2.out.le
  have HC := Lib.hid (completeLin_any P Q G hgd s h3 (B3 := C) (base := v2.heap.size) (M := v2.heap.size + 1) (dh := [0]) (dr := cs) (xs := xs) HST.out M_3.out I_3.out.toIn ⟨by omega, hi2⟩ H_3.out R_3.out X_3.out (by omega) rfl HNC.out.symm (by simp [allIn, inB]; omega) H2.out HXI.out (by have := H1.out; omega) hcp)
  go_wp2_with fail
  clear hV
  refine HC.out.mono ?_
  rw [HP.out]
  rintro e v4 ⟨qa, qb, qc, rfl, hq, hb⟩
  obtain ⟨a1, c1, a2, c2, a3, c3, rfl, rfl, rfl⟩ := hq.shape
  have HB_4 := Lib.hid (HB_3.out.trans (hb.mono (by omega)))
  have hz4 := Z_3.out.belowB hb (by omega)
  have Z_4 := Lib.hid hz4
  have AQ := Lib.hid hq
  clear hq hz4 hb g0 g1 g2 y0 y1 y2 yf yf0 yf1 yf2 d0 d1 d2
  obtain ⟨y0, y1, y2, yf⟩ := Z_4.out
  have yf0 := yf 0
  have yf1 := yf 1
  have yf2 := yf 2
  clear yf
  go_wp2
  (try simp only [Exit.inBlock, Exit.then])
  refine bodyPost_ret (v := .tuple #[.agg #[.slice a1 p.c.length c1, .slice a2 p.h.length c2, .slice a3 p.r.length c3], .bool true]) ?_ rfl ?_
  · rw [results_cell_tmp rfl]; go_simp
  · have hm5 := mid3 v4 (w.heap.size + 1) (.slice a1 p.c.length c1) (.slice a2 p.h.length c2) (.slice a3 p.r.length c3)
    have h1 := AQ.out.mid hm5 (.inr (by omega))
    exact ⟨_, _, _, rfl, h1.wide (by omega) hm5.size (Nat.le_refl _), HB_4.out.trans (hm5.toBelow (by omega) HB_4.out.size)⟩

end Go.Proofs.Ytlgdcfficemebaa

/- Sigma proofs: a linear statement is proved by the reference. -/
namespace Go.Proofs.Ytlgdcfficemebaa
open Go.RowKit
set_option linter.unusedVariables false
set_option linter.unusedSimpArgs false

theorem sxpy_snoc {Q e c x : Int} : ∀ a b : List Int, a.length = b.length → sxpy Q (a ++ [c]) e (b ++ [x]) = sxpy Q a e b ++ [(c + e * x) % Q]
  | [], [], _ => rfl
  | [], _ :: _, h => by simp at h
  | _ :: _, [], h => by simp at h
  | y :: a, z :: b, h => by
    show (y + e * z) % Q :: sxpy Q (a ++ [c]) e (b ++ [x]) = _
    rw [sxpy_snoc a b (by simpa using h)]; rfl
theorem take_snoc {zs : List Int} {z : Int} {k : Nat} (h : zs.drop k = z :: zs.drop (k + 1)) (hk : k < zs.length) : zs.take (k + 1) = zs.take k ++ [z] := by
  rw [List.drop_eq_getElem_cons hk] at h
  rw [List.take_succ_eq_append_getElem hk, (List.cons.inj h).1]
theorem OwI.belowQ {Q P : Nat} {w w' : World} {v : Value} {zs : List Int} (h : OwI Q P w v zs) (hb : Below w.heap.size w w') : OwI Q w'.heap.size w' v zs := (h.below hb).wide (Nat.le_refl _) (Nat.le_trans h.2.2.1 hb.size) (Nat.le_refl _)
theorem InI.cell {B : Nat} {w : World} {ad : Option Addr} {n c : Nat} {zs : List Int} (h : InI B w (.slice ad n c) zs) {k : Nat} (hk : k < zs.length) : ∃ b off z, ad = some ⟨b, off, none⟩ ∧ (b < w.heap.size ∧ b < B) ∧ w.cell? ⟨b, off + k, none⟩ = some (.int .i64 z) ∧ zs.drop k = z :: zs.drop (k + 1) := by
  obtain ⟨b, off, z, h1, h2, h3, h4⟩ := (h.ints).1.at (k := k) hk
  refine ⟨b, off, z, h1, ⟨h2, ?_⟩, h3, h4⟩
  rcases Nat.lt_or_ge b B with hb | hb
  · exact hb
  · exact absurd rfl (h.blk hb (by intro e; subst e; simp at hk) _ h1)
theorem Mid.over {Q P R : Nat} {a b c : World} (h : Mid Q P a b) (k : Mid a.heap.size R b c) : Mid Q P a c :=
  ⟨k.os.trans h.os, k.tape.trans h.tape, k.output.trans h.output, Nat.le_trans h.size k.size, fun i hi hr => (k.block i (Nat.lt_of_lt_of_le hi h.size) (.inl hi)).trans (h.block i hi hr)⟩

set_option maxRecDepth 100000 in
set_option maxHeartbeats 3200000 in
theorem sProve_any (P Q G : Int) (hg : goodB P Q G = true) (s : ByteArray) (hs : s.size ≤ 1000000) {B C D : Nat} {v u t : Value} {rows : List (List Int)} {xs cs : List Int} (hl : rows.length ≤ 8) (h8 : xs.length ≤ 8) (hr : ∀ z ∈ rows, z.length = xs.length ∧ allEl P Q z = true) (hcl : cs.length = xs.length) (hxi : allIn xs 0 (Q - 1) = true) (hci : allIn cs 0 (Q - 1) = true) {w : World} (hz : InS B w v rows) (hx : InI C w u xs) (hc : InI D w t cs) :
    Calls Try.prog 74 #[gv P Q G, .string s, v, u, t] w (MadeP w (spP P Q G s rows xs cs)) := by
  obtain ⟨ad, cap, rfl⟩ := hz.shape
  obtain ⟨ad2, cap2, rfl⟩ := hx.shape
  obtain ⟨ad3, cap3, rfl⟩ := hc.shape
  have hgr := good_rng hg
  have hmo := good_mo hg
  have hzle := hz.le
  have hxle := hx.le
  have hcle := hc.le
  have hr2 : ∀ z ∈ rows, z.length = cs.length ∧ allEl P Q z = true := fun z hz => ⟨by rw [(hr z hz).1, hcl], (hr z hz).2⟩
  have hic : allEl P Q (imgs P rows cs) = true := imgs_all hg (fun r h => (hr r h).2) hci
  have hix : allEl P Q (imgs P rows xs) = true := imgs_all hg (fun r h => (hr r h).2) hxi
  have hfl : allEl P Q rows.flatten = true := flat_el (fun r h => (hr r h).2)
  have hns : nS rows ≤ 64 := by rw [flat_len (fun r h => (hr r h).1)]; exact Nat.mul_le_mul hl h8
  obtain ⟨lst, hlst⟩ : ∃ l, rows.flatten ++ imgs P rows xs ++ imgs P rows cs = l := ⟨_, rfl⟩
  have hle : allEl P Q lst = true := by rw [← hlst]; exact all_app (all_app hfl hix) hic
  have hll : lst.length ≤ 80 := by rw [← hlst]; simp only [List.length_append, imgs_length, nS_flat]; omega
  have hdig : ∀ z ∈ lst, 0 ≤ z ∧ z ≤ 4611686018427387903 := fun z hz => by have := all_rng hle z hz; have := hmo.1; omega
  obtain ⟨ch, hch⟩ : ∃ c, chX P Q G s lst = c := ⟨_, rfl⟩
  have hcr : 0 ≤ ch ∧ ch < Q := hch ▸ chX_rng (by omega)
  have hsp : spP P Q G s rows xs cs = ⟨imgs P rows cs, [ch], sxpy Q cs ch xs⟩ := by unfold spP; rw [hlst, hch]
  rw [hsp]
  obtain ⟨ic, hicn⟩ : ∃ l, imgs P rows cs = l := ⟨_, rfl⟩
  obtain ⟨ix, hixn⟩ : ∃ l, imgs P rows xs = l := ⟨_, rfl⟩
  have hil : ic.length = rows.length ∧ ix.length = rows.length := ⟨by rw [← hicn, imgs_length], by rw [← hixn, imgs_length]⟩
  rw [hicn, hixn] at hlst
  rw [hicn]
  have HIC := Lib.hid hicn
  have HIX := Lib.hid hixn
  have HLST := Lib.hid hlst
  have HCH := Lib.hid hch
  have HR := Lib.hid hr
  have HR2 := Lib.hid hr2
  have HXI := Lib.hid hxi
  have HCI := Lib.hid hci
  have HDIG := Lib.hid hdig
  have HCL := Lib.hid hcl
  have HIL := Lib.hid hil
  have HXR := Lib.hid (all_ex hxi)
  have HCR := Lib.hid (all_ex hci)
  have hP2 : 2 ≤ P ∧ P ≤ 2000000000 := hmo.1
  have G_0 := Lib.hid ((gr_new w P Q G 32).below (ba _ (.cells #[.slice none 0 0, .slice none 0 0, .slice none 0 0] 36)))
  have hb3 := b3_new (w.alloc (.cells #[.int .i64 P, .int .i64 Q, .int .i64 G] 32)) (.slice none 0 0) (.slice none 0 0) (.slice none 0 0) 36
  rw [show (w.alloc (.cells #[.int .i64 P, .int .i64 Q, .int .i64 G] 32)).heap.size = w.heap.size + 1 by simp] at hb3
  have Z_0 := Lib.hid hb3
  have HB_0 := Lib.hid (bt (ba w (.cells #[.int .i64 P, .int .i64 Q, .int .i64 G] 32)) (ba _ (.cells #[.slice none 0 0, .slice none 0 0, .slice none 0 0] 36)))
  have M_0 := Lib.hid (hz.below HB_0.out)
  have X_0 := Lib.hid (hx.below HB_0.out)
  have C_0 := Lib.hid (hc.below HB_0.out)
  obtain ⟨i0, hi, hz0, hz1, hz2⟩ := info_parts Try.info3
  clear hr hr2 hxi hci hic hix hfl hlst hle hdig hch hsp hicn hixn hil hcl hb3 hz hx hc hg
  obtain ⟨g0, g1, g2⟩ := G_0.out
  go_enter Try.func74, Try.ntmps74
  go_wp2_with fail
  refine (sImages_any P Q G hP2 hgr.2.1 hl HR2.out HCI.out (by have := HCL.out; omega) M_0.out rfl (C_0.out.ints).1).mono ?_
  rw [HIC.out]
  rintro e v1 ⟨ca, rfl, ho, hb0⟩
  obtain ⟨caa, cac, rfl⟩ := ho.toIn.shape
  have hal := ba v1 (.cells #[.slice caa ic.length cac, .slice none 0 0, .slice none 0 0] 36)
  have hb := bt hb0 hal
  have HB_1 := Lib.hid (bt HB_0.out hb)
  have G_1 := Lib.hid (G_0.out.below hb)
  have Z_1 := Lib.hid (Z_0.out.below hb)
  have M_1 := Lib.hid (M_0.out.below hb)
  have X_1 := Lib.hid (X_0.out.below hb)
  have C_1 := Lib.hid (C_0.out.below hb)
  have V_1 := Lib.hid (b3_new v1 (.slice caa ic.length cac) (.slice none 0 0) (.slice none 0 0) 36)
  have hsz0 := HB_0.out.size
  have hsz1 : w.heap.size + 1 < v1.heap.size := by have := (Z_0.out.below hb0).lt; omega
  have hsa : (v1.alloc (.cells #[.slice caa ic.length cac, .slice none 0 0, .slice none 0 0] 36)).heap.size = v1.heap.size + 1 := by simp
  have O_1 := Lib.hid ((ho.wide (show w.heap.size + 1 + 1 ≤ ((w.alloc (.cells #[.int .i64 P, .int .i64 Q, .int .i64 G] 32)).alloc (.cells #[.slice none 0 0, .slice none 0 0, .slice none 0 0] 36)).heap.size from by simp) (Nat.le_refl _) (Nat.le_refl _)).below hal)
  clear ho hb0 hb g0 g1 g2
  obtain ⟨g0, g1, g2⟩ := G_1.out
  obtain ⟨p0, p1, p2, _⟩ := V_1.out
  go_wp2_with fail
  generalize hW : v1.alloc (.cells #[.slice caa ic.length cac, .slice none 0 0, .slice none 0 0] 36) = W at *
  clear hW
  go_region_held3 (fun w' => (w'.cell? ⟨w.heap.size, 0, none⟩ = some (.int .i64 P) ∧ w'.cell? ⟨w.heap.size, 1, none⟩ = some (.int .i64 Q) ∧ w'.cell? ⟨w.heap.size, 2, none⟩ = some (.int .i64 G)) ∧ w'.cell? ⟨v1.heap.size, 0, none⟩ = some (.slice caa ic.length cac)) (first | with_reducible exact ⟨⟨s0, s1, s2⟩, s3⟩ | with_reducible exact ⟨⟨t0, t1, t2⟩, t3⟩ | with_reducible exact ⟨⟨u0, u1, u2⟩, u3⟩ | exact ⟨⟨g0, g1, g2⟩, p0⟩) ((first
    | (go_at_call 121; refine (sImages_any P Q G hP2 hgr.2.1 hl HR.out HXI.out h8 M_1.out.dr rfl (X_1.out.dr.ints).1).mono ?_; rw [HIX.out]; rintro e v2 ⟨ia, rfl, ho, hb0⟩; have hb : Below W.heap.size W v2 := bt ((Below.refl _ W).drew) hb0; obtain ⟨iaa, iac, rfl⟩ := ho.toIn.shape; have HI2 := Lib.hid ho.toIn; have G_2 := Lib.hid (G_1.out.below hb); have V_2 := Lib.hid (V_1.out.below hb); have M_2 := Lib.hid (M_1.out.below hb); have O_2 := Lib.hid (O_1.out.below hb); have HW2 := Lib.hid hb; obtain ⟨s0, s1, s2⟩ := G_2.out; obtain ⟨s3, _, _, _⟩ := V_2.out; clear ho hb hb0)
    | (go_at_call 116; refine (sStatement_any hl (by omega) (by have := HIL.out; omega) (by have := HIL.out; omega) M_2.out HI2.out O_2.out.toIn).mono ?_; rw [HLST.out]; rintro e v3 ⟨la, rfl, ho, hb⟩; obtain ⟨laa, lac, rfl⟩ := ho.toIn.shape; have HL := Lib.hid ho.toIn; have G_3 := Lib.hid (G_2.out.below hb); have V_3 := Lib.hid (V_2.out.below hb); have HW3 := Lib.hid (bt HW2.out hb); obtain ⟨t0, t1, t2⟩ := G_3.out; obtain ⟨t3, _, _, _⟩ := V_3.out; clear ho hb)
    | (go_at_call 115; refine (hChallenge_any P Q G hgr.1 hgr.2.1 hgr.2.2 s hs _ _ _ lst rfl (by omega) (HL.out.ints).2.2.1 HDIG.out _ (HL.out.ints).1).mono ?_; rw [HCH.out]; rintro e v4 ⟨rfl, hb⟩; have HW4 := Lib.hid (bt HW3.out hb); obtain ⟨u0, u1, u2⟩ := G_3.out.below hb; obtain ⟨u3, _, _, _⟩ := V_3.out.below hb; clear hb)
    | fail))
  all_goals (
    clear s0 s1 s2 s3 t0 t1 t2 t3 u0 u1 u2 u3 g0 g1 g2 p0 p1 p2
    have hal2 := ba v4 (.cells #[.int .i64 ch] 3)
    have hs4 : (v4.alloc (.cells #[.int .i64 ch] 3)).heap.size = v4.heap.size + 1 := by simp
    have hb := bt HW4.out hal2
    have hsw : W.heap.size ≤ v4.heap.size := HW4.out.size
    have V_4 := Lib.hid (V_1.out.below hb)
    obtain ⟨p0, p1, p2, pf⟩ := V_4.out
    have pf1 := pf 1
    clear pf
    go_wp2_with fail
    have hm : Mid v1.heap.size (v1.heap.size + 1) (v4.alloc (.cells #[.int .i64 ch] 3)) ((v4.alloc (.cells #[.int .i64 ch] 3)).setCell ⟨v1.heap.size, 1, none⟩ (.slice (some ⟨v4.heap.size, 0, none⟩) 1 1)) := mid_cell _ _ _ _
    have hlit : OwI v4.heap.size (v4.heap.size + 1) (v4.alloc (.cells #[.int .i64 ch] 3)) (.slice (some ⟨v4.heap.size, 0, none⟩) ([ch] : List Int).length 1) [ch] := by rw [← hs4]; exact OwR.mk (own_lit v4 [ch] (by simp) 3) (by simp)
    have hHB : Below w.heap.size w (v4.alloc (.cells #[.int .i64 ch] 3)) := bt HB_1.out hb
    have G_5 := Lib.hid ((G_1.out.below hb).mid hm (.inl (by omega)))
    have Z_5 := Lib.hid ((Z_1.out.below hb).mid hm (.inl (by omega)))
    have X_5 := Lib.hid ((X_1.out.below hb).mid hm (by omega))
    have C_5 := Lib.hid ((C_1.out.below hb).mid hm (by omega))
    have O_5 := Lib.hid ((O_1.out.below hb).mid hm (.inl (by omega)))
    have H_5 := Lib.hid (hlit.mid hm (.inr (by omega)))
    have V_5 := Lib.hid (V_4.out.set1 (.slice (some ⟨v4.heap.size, 0, none⟩) 1 1))
    have HB_5 := Lib.hid (hHB.trans (hm.toBelow (by omega) hHB.size))
    have hs5 : v4.heap.size + 1 ≤ ((v4.alloc (.cells #[.int .i64 ch] 3)).setCell ⟨v1.heap.size, 1, none⟩ (.slice (some ⟨v4.heap.size, 0, none⟩) 1 1)).heap.size := by have := hm.size; omega
    clear hm hlit hHB hb hal2 p0 p1 p2 pf1 hs4
    generalize hY : (v4.alloc (.cells #[.int .i64 ch] 3)).setCell ⟨v1.heap.size, 1, none⟩ (.slice (some ⟨v4.heap.size, 0, none⟩) 1 1) = Y at *
    clear hY
    go_loopw [13, 14, 36] (fun _ _ K wr => ∃ (k : Nat) (va : Option Addr) (vc : Nat), k ≤ xs.length ∧ K = .int .i64 k ∧ B3 wr v1.heap.size (.slice caa ic.length cac) (.slice (some ⟨v4.heap.size, 0, none⟩) 1 1) (.slice va k vc) ∧ OwI Y.heap.size wr.heap.size wr (.slice va k vc) (sxpy Q (cs.take k) ch (xs.take k)) ∧ Mid v1.heap.size (v1.heap.size + 1) Y wr) (fun _ _ K _ => xs.length - (intOf K).toNat)
    case atStart => exact ⟨0, none, 0, Nat.zero_le _, rfl, V_5.out, by simpa [sxpy] using owI_nil Y.heap.size Y (Nat.le_refl _), Mid.refl _ _ _⟩
    case round =>
      obtain ⟨k, va, vc, hk, rfl, hv, hrow, hmid⟩ := hrel
      have hys := hmid.size
      by_cases hkn : k < xs.length
      · have hX := X_5.out.mid hmid (by omega)
        have hC := C_5.out.mid hmid (by omega)
        have hkc : k < cs.length := by have := HCL.out; omega
        obtain ⟨bx, ox, x, rfl, hbx, hcx, hdx⟩ := ((hX.ints).1).at (k := k) hkn
        obtain ⟨bc, oc, c, rfl, ⟨hbc, hbD⟩, hcc, hdc⟩ := hC.cell (k := k) hkc
        have hxr := HXR.out x (mem_drop hdx)
        have hcr2 := HCR.out c (mem_drop hdc)
        have hst : sxpy Q (cs.take (k + 1)) ch (xs.take (k + 1)) = sxpy Q (cs.take k) ch (xs.take k) ++ [(c + ch * x) % Q] := by rw [take_snoc hdx hkn, take_snoc hdc hkc, sxpy_snoc _ _ (by simp; omega)]
        have HST := Lib.hid hst
        have HLK := Lib.hid (show (sxpy Q (cs.take k) ch (xs.take k)).length = k by rw [sxpy_length]; simp; omega)
        obtain ⟨m0, m1⟩ := prod_bd (a := ch) (z := x) hcr.1 (by omega) hxr.1 (by omega)
        have hw1 : IntKind.i64.wrap (ch * x) = ch * x := by rw [IntKind.wrap_i64]; omega
        have hw2 : IntKind.i64.wrap (c + ch * x) = c + ch * x := by rw [IntKind.wrap_i64]; omega
        have htm : (c + ch * x).tmod Q = (c + ch * x) % Q := Int.tmod_eq_emod_of_nonneg (by omega)
        have hq0 : Q ≠ 0 := by omega
        have hki : (k : Int) < (cs.length : Int) := by omega
        generalize hval : (c + ch * x) % Q = val at htm HST
        have V_6 := Lib.hid hv
        have R_6 := Lib.hid hrow
        have MM := Lib.hid hmid
        have hG := G_5.out.mid hmid (.inl (by omega))
        have G_6 := Lib.hid hG
        have CC := Lib.hid hcc
        have hv1y : v1.heap.size + 1 ≤ Y.heap.size := by omega
        obtain ⟨g0, g1, g2⟩ := hG
        obtain ⟨p0, p1, p2, pf⟩ := hv
        clear hst hdx hdc hval hX hC hrow hmid pf
        go_wp2_with fail
        refine wpK_begin (n := 16) (S := (fun w' => w'.cell? ⟨w.heap.size, 1, none⟩ = some (.int .i64 Q) ∧ w'.cell? ⟨v1.heap.size, 2, none⟩ = some (.slice va k vc) ∧ w'.cell? ⟨bc, oc + k, none⟩ = some (.int .i64 c))) (by kernel_rfl) ?_
        refine wpK_take (i := 0) (v := ?_) rfl (by kernel_rfl) (by kernel_rfl) (by kernel_rfl) (by kernel_rfl) (fun _ _ _ h => h) (Or.inl ⟨by kernel_rfl, ?_⟩) ⟨G_6.out.2.1, V_6.out.2.2.1, CC.out⟩ ?_
        rotate_left 1
        · intro w9 hSw
          (try dsimp only at hSw)
          go_simp
          (try with_reducible rfl)
        (try simp only [Act.put, List.getElem_toArray, List.getElem_cons_succ, List.getElem_cons_zero, List.setIfInBounds_toArray, List.set_cons_zero, List.set_cons_succ])
        refine wpK_take (i := 1) (v := ?_) rfl (by kernel_rfl) (by kernel_rfl) (by kernel_rfl) (by kernel_rfl) (fun _ _ _ h => h) (Or.inl ⟨by kernel_rfl, ?_⟩) ⟨G_6.out.2.1, V_6.out.2.2.1, CC.out⟩ ?_
        rotate_left 1
        · intro w9 hSw
          (try dsimp only at hSw)
          go_simp
          (try with_reducible rfl)
        (try simp only [Act.put, List.getElem_toArray, List.getElem_cons_succ, List.getElem_cons_zero, List.setIfInBounds_toArray, List.set_cons_zero, List.set_cons_succ])
        refine wpK_take (i := 2) (v := ?_) rfl (by kernel_rfl) (by kernel_rfl) (by kernel_rfl) (by kernel_rfl) (fun _ _ _ h => h) (Or.inl ⟨by kernel_rfl, ?_⟩) ⟨G_6.out.2.1, V_6.out.2.2.1, CC.out⟩ ?_
        rotate_left 1
        · intro w9 hSw
          (try dsimp only at hSw)
          go_simp
          (try with_reducible rfl)
        (try simp only [Act.put, List.getElem_toArray, List.getElem_cons_succ, List.getElem_cons_zero, List.setIfInBounds_toArray, List.set_cons_zero, List.set_cons_succ])
        refine wpK_take (i := 3) (v := ?_) rfl (by kernel_rfl) (by kernel_rfl) (by kernel_rfl) (by kernel_rfl) (fun _ _ _ h => h) (Or.inl ⟨by kernel_rfl, ?_⟩) ⟨G_6.out.2.1, V_6.out.2.2.1, CC.out⟩ ?_
        rotate_left 1
        · intro w9 hSw
          (try dsimp only at hSw)
          go_simp
          (try with_reducible rfl)
        (try simp only [Act.put, List.getElem_toArray, List.getElem_cons_succ, List.getElem_cons_zero, List.setIfInBounds_toArray, List.set_cons_zero, List.set_cons_succ])
        refine wpK_take (i := 4) (v := ?_) rfl (by kernel_rfl) (by kernel_rfl) (by kernel_rfl) (by kernel_rfl) (fun _ _ _ h => h) (Or.inl ⟨by kernel_rfl, ?_⟩) ⟨G_6.out.2.1, V_6.out.2.2.1, CC.out⟩ ?_
        rotate_left 1
        · intro w9 hSw
          (try dsimp only at hSw)
          go_simp
          (try with_reducible rfl)
        (try simp only [Act.put, List.getElem_toArray, List.getElem_cons_succ, List.getElem_cons_zero, List.setIfInBounds_toArray, List.set_cons_zero, List.set_cons_succ])
        refine wpK_take (i := 5) (v := ?_) rfl (by kernel_rfl) (by kernel_rfl) (by kernel_rfl) (by kernel_rfl) (fun _ _ _ h => h) (Or.inl ⟨by kernel_rfl, ?_⟩) ⟨G_6.out.2.1, V_6.out.2.2.1, CC.out⟩ ?_
        rotate_left 1
        · intro w9 hSw
          (try dsimp only at hSw)
          go_simp
          (try with_reducible rfl)
        (try simp only [Act.put, List.getElem_toArray, List.getElem_cons_succ, List.getElem_cons_zero, List.setIfInBounds_toArray, List.set_cons_zero, List.set_cons_succ])
        refine wpK_take (i := 6) (v := ?_) rfl (by kernel_rfl) (by kernel_rfl) (by kernel_rfl) (by kernel_rfl) (fun _ _ _ h => h) (Or.inl ⟨by kernel_rfl, ?_⟩) ⟨G_6.out.2.1, V_6.out.2.2.1, CC.out⟩ ?_
        rotate_left 1
        · intro w9 hSw
          (try dsimp only at hSw)
          go_simp
          (try with_reducible rfl)
        (try simp only [Act.put, List.getElem_toArray, List.getElem_cons_succ, List.getElem_cons_zero, List.setIfInBounds_toArray, List.set_cons_zero, List.set_cons_succ])
        refine wpK_take (i := 7) (v := ?_) rfl (by kernel_rfl) (by kernel_rfl) (by kernel_rfl) (by kernel_rfl) (fun _ _ _ h => h) (Or.inl ⟨by kernel_rfl, ?_⟩) ⟨G_6.out.2.1, V_6.out.2.2.1, CC.out⟩ ?_
        rotate_left 1
        · intro w9 hSw
          (try dsimp only at hSw)
          go_simp
          (try with_reducible rfl)
        (try simp only [Act.put, List.getElem_toArray, List.getElem_cons_succ, List.getElem_cons_zero, List.setIfInBounds_toArray, List.set_cons_zero, List.set_cons_succ])
        refine wpK_take (i := 8) (v := ?_) rfl (by kernel_rfl) (by kernel_rfl) (by kernel_rfl) (by kernel_rfl) (fun _ _ _ h => h) (Or.inl ⟨by kernel_rfl, ?_⟩) ⟨G_6.out.2.1, V_6.out.2.2.1, CC.out⟩ ?_
        rotate_left 1
        · intro w9 hSw
          (try dsimp only at hSw)
          go_simp
          (try with_reducible rfl)
        (try simp only [Act.put, List.getElem_toArray, List.getElem_cons_succ, List.getElem_cons_zero, List.setIfInBounds_toArray, List.set_cons_zero, List.set_cons_succ])
        refine wpK_take (i := 9) (v := ?_) rfl (by kernel_rfl) (by kernel_rfl) (by kernel_rfl) (by kernel_rfl) (fun _ _ _ h => h) (Or.inl ⟨by kernel_rfl, ?_⟩) ⟨G_6.out.2.1, V_6.out.2.2.1, CC.out⟩ ?_
        rotate_left 1
        · intro w9 hSw
          (try dsimp only at hSw)
          go_simp
          (try with_reducible rfl)
        (try simp only [Act.put, List.getElem_toArray, List.getElem_cons_succ, List.getElem_cons_zero, List.setIfInBounds_toArray, List.set_cons_zero, List.set_cons_succ])
        refine wpK_take (i := 10) (v := ?_) rfl (by kernel_rfl) (by kernel_rfl) (by kernel_rfl) (by kernel_rfl) (fun _ _ _ h => h) (Or.inl ⟨by kernel_rfl, ?_⟩) ⟨G_6.out.2.1, V_6.out.2.2.1, CC.out⟩ ?_
        rotate_left 1
        · intro w9 hSw
          (try dsimp only at hSw)
          go_simp
          (try with_reducible rfl)
        (try simp only [Act.put, List.getElem_toArray, List.getElem_cons_succ, List.getElem_cons_zero, List.setIfInBounds_toArray, List.set_cons_zero, List.set_cons_succ])
        refine wpK_take (i := 11) (v := ?_) rfl (by kernel_rfl) (by kernel_rfl) (by kernel_rfl) (by kernel_rfl) (fun _ _ _ h => h) (Or.inl ⟨by kernel_rfl, ?_⟩) ⟨G_6.out.2.1, V_6.out.2.2.1, CC.out⟩ ?_
        rotate_left 1
        · intro w9 hSw
          (try dsimp only at hSw)
          go_simp
          (try with_reducible rfl)
        (try simp only [Act.put, List.getElem_toArray, List.getElem_cons_succ, List.getElem_cons_zero, List.setIfInBounds_toArray, List.set_cons_zero, List.set_cons_succ])
        refine wpK_take (i := 12) (v := ?_) rfl (by kernel_rfl) (by kernel_rfl) (by kernel_rfl) (by kernel_rfl) (fun _ _ _ h => h) (Or.inl ⟨by kernel_rfl, ?_⟩) ⟨G_6.out.2.1, V_6.out.2.2.1, CC.out⟩ ?_
        rotate_left 1
        · intro w9 hSw
          (try dsimp only at hSw)
          go_simp
          (try with_reducible rfl)
        (try simp only [Act.put, List.getElem_toArray, List.getElem_cons_succ, List.getElem_cons_zero, List.setIfInBounds_toArray, List.set_cons_zero, List.set_cons_succ])
        refine wpK_one (i := 13) (by kernel_rfl) rfl ?_
        intro K' hK
        go_simp
        have hal := ba wr.drew (.cells #[.int .i64 val] 3)
        have hb : Below wr.heap.size wr (wr.drew.alloc (.cells #[.int .i64 val] 3)) := bt ((Below.refl _ wr).drew) hal
        have G_7 := Lib.hid (G_6.out.below hb)
        have V_7 := Lib.hid (V_6.out.below hb)
        have R_7 := Lib.hid (R_6.out.below hb)
        have CC7 := Lib.hid (show (wr.drew.alloc (.cells #[.int .i64 val] 3)).cell? ⟨bc, oc + k, none⟩ = some (.int .i64 c) from by rw [hb.cell (p := ⟨bc, oc + k, none⟩) hbc]; exact CC.out)
        have LI := Lib.hid (ints_spot wr.drew wr.heap.size rfl [val] 3)
        have hsz7 := hb.size
        have HW7 := Lib.hid hb
        clear hal hb
        refine hK.out _ _ (fun _ => ⟨G_7.out.2.1, V_7.out.2.2.1, CC7.out⟩) ?_
        clear hK K'
        (try simp only [Act.put, List.getElem_toArray, List.getElem_cons_succ, List.getElem_cons_zero, List.setIfInBounds_toArray, List.set_cons_zero, List.set_cons_succ])
        refine wpK_one (i := 14) (by kernel_rfl) rfl ?_
        intro K' hK
        refine step_append_ints (by rfl) (.tmp 42) (.tmp 54) 25 (by rfl) Y.heap.size 3 i0 Try.underlying25 hi hz0 hz1 hz2 _ k (sxpy Q (cs.take k) ch (xs.take k)) (by rfl) (by have h := R_7.out.1; rwa [HLK.out] at h) (some ⟨wr.heap.size, 0, none⟩) 1 1 [val] (by rfl) rfl LI.out (fun h => by cases h) (by omega) (Nat.le_trans hys hsz7) ?_
        intro v' wb howb hgrb
        obtain ⟨va', vc', rfl⟩ := own_shape howb
        have hmg : Mid Y.heap.size wr.heap.size (wr.drew.alloc (.cells #[.int .i64 val] 3)) wb := Mid.grown hgrb (fun q hq => by have h1 := R_7.out.1.lt q hq; have h2 := R_6.out.2.1 q hq; exact ⟨h1.1, h2⟩)
        have G_8 := Lib.hid (G_7.out.mid hmg (.inl (by omega)))
        have V_8 := Lib.hid (V_7.out.mid hmg (.inl (by omega)))
        have OW8 := Lib.hid howb
        have MG := Lib.hid hmg
        have CC8 := Lib.hid (show wb.cell? ⟨bc, oc + k, none⟩ = some (.int .i64 c) from by rw [World.cell?_of_block (a := ⟨bc, oc + k, none⟩) (hmg.block bc (by omega) (.inl (by omega)))]; exact CC7.out)
        clear howb hgrb hmg
        refine hK.out _ _ (fun _ => ⟨G_8.out.2.1, V_8.out.2.2.1, CC8.out⟩) ?_
        clear hK K'
        (try simp only [Act.put, List.getElem_toArray, List.getElem_cons_succ, List.getElem_cons_zero, List.setIfInBounds_toArray, List.set_cons_zero, List.set_cons_succ])
        refine wpK_take (i := 15) (v := ?_) rfl (by kernel_rfl) (by kernel_rfl) (by kernel_rfl) (by kernel_rfl) (fun _ _ _ h => h) (Or.inl ⟨by kernel_rfl, ?_⟩) ⟨G_8.out.2.1, V_8.out.2.2.1, CC8.out⟩ ?_
        rotate_left 1
        · intro w9 hSw
          (try dsimp only at hSw)
          go_simp
          (try with_reducible rfl)
        (try simp only [Act.put, List.getElem_toArray, List.getElem_cons_succ, List.getElem_cons_zero, List.setIfInBounds_toArray, List.set_cons_zero, List.set_cons_succ])
        refine wpK_one (i := 16) (by kernel_rfl) rfl ?_
        intro K' hK
        obtain ⟨u0, u1, u2, uf⟩ := V_8.out
        have uf2 := uf 2
        clear uf
        go_simp
        refine hK.out _ _ (fun h => absurd rfl h) ?_
        clear hK K'
        (try simp only [Act.put, List.getElem_toArray, List.getElem_cons_succ, List.getElem_cons_zero, List.setIfInBounds_toArray, List.set_cons_zero, List.set_cons_succ])
        refine wpK_done (by kernel_rfl) ?_ _
        go_wp2_with fail
        go_roundw
        case rel =>
          have hmS : Mid v1.heap.size (v1.heap.size + 1) wb (wb.setCell ⟨v1.heap.size, 2, none⟩ (.slice va' (k + 1) vc')) := mid_cell _ _ _ _
          have hwb := MG.out.size
          have hrow : OwI Y.heap.size wb.heap.size wb (.slice va' (k + 1) vc') (sxpy Q (cs.take (k + 1)) ch (xs.take (k + 1))) := by
            have h := OwR.mk OW8.out (show Y.heap.size ≤ wb.heap.size by omega)
            rw [← HST.out] at h
            have hl : (sxpy Q (cs.take (k + 1)) ch (xs.take (k + 1))).length = k + 1 := by rw [HST.out, List.length_append, HLK.out]; rfl
            unfold OwI; rw [hl]; exact h
          exact ⟨k + 1, va', vc', by omega, by go_num, V_8.out.set2 _, (hrow.mid hmS (.inr (by omega))).wide (Nat.le_refl _) hmS.size (Nat.le_refl _), ((MM.out.trans (Mid.ofBelow HW7.out)).over MG.out).trans hmS⟩
        case measure => simp only [intOf]; omega
      · obtain rfl : k = xs.length := by omega
        rw [List.take_of_length_le (by have := HCL.out; omega), List.take_of_length_le (Nat.le_refl _)] at hrow
        have R_6 := Lib.hid hrow
        have MM := Lib.hid hmid
        have hO := O_5.out.mid hmid (.inl (Nat.le_refl _))
        have hH := H_5.out.mid hmid (.inr (by omega))
        have hZ := Z_5.out.mid hmid (.inl (by omega))
        have hHB := HB_5.out.trans (hmid.toBelow (by omega) (by omega))
        have O_6 := Lib.hid hO
        have H_6 := Lib.hid hH
        have Z_6 := Lib.hid hZ
        have HB_6 := Lib.hid hHB
        have hlz := hZ.lt
        obtain ⟨p0, p1, p2, _⟩ := hv
        obtain ⟨y0, y1, y2, yf⟩ := hZ
        have yf0 := yf 0
        have yf1 := yf 1
        have yf2 := yf 2
        clear hrow hmid hO hH hHB yf
        go_wp2
        (try simp only [Exit.inBlock, Exit.then])
        refine bodyPost_ret (v := .agg #[.slice caa ic.length cac, .slice (some ⟨v4.heap.size, 0, none⟩) 1 1, .slice va xs.length vc]) ?_ rfl ?_
        · rw [results_cell_one rfl]; go_simp
        · have hm5 := mid3 wr (w.heap.size + 1) (.slice caa ic.length cac) (.slice (some ⟨v4.heap.size, 0, none⟩) 1 1) (.slice va xs.length vc)
          have h1 := O_6.out.mid hm5 (.inr (by omega))
          have h2 := H_6.out.mid hm5 (.inr (by omega))
          have h3 := R_6.out.mid hm5 (.inr (by omega))
          exact ⟨_, rfl, ⟨_, _, _, v1.heap.size, v4.heap.size + 1, rfl, h1.wide (by omega) (Nat.le_refl _) h1.2.2.1, h2.wide (by omega) (Nat.le_refl _) h2.2.2.1, h3.wide (by omega) hm5.size (Nat.le_refl _)⟩, HB_6.out.trans (hm5.toBelow (by omega) (by have := HB_6.out.size; omega))⟩)

theorem inP_shapeQ {P : Nat} {w : World} {v : Value} {p : PrD} (h : InP P w v p) : ∃ a1 a2 b1 b2 c1 c2, v = .agg #[.slice a1 p.c.length a2, .slice b1 p.h.length b2, .slice c1 p.r.length c2] := by
  obtain ⟨a1, c1, a2, c2, a3, c3, e, _⟩ := h.parts
  exact ⟨_, _, _, _, _, _, e⟩
theorem pl_n (P Q G : Int) (s : ByteArray) (rows : List (List Int)) (xs cs : List Int) : (plV P Q G s rows xs cs).n ≤ 24 := by
  cases h : plB P Q G s rows xs cs
  · rw [pl_off h]; simp [nilP, PrD.n]
  · obtain ⟨h1, h2, _, _⟩ := plB_true.1 h
    obtain ⟨_, hr, hl, _⟩ := imB_true.1 h1
    obtain ⟨h3, h4, _⟩ := rowsB_true.1 hr
    have e : plV P Q G s rows xs cs = spP P Q G s rows xs cs := by simp [plV, h]
    rw [e]
    simp only [spP, PrD.n, imgs_length, sxpy_length, List.length_cons, List.length_nil]
    omega
/-- An answer that is read. -/
def AnsN (w : World) (p : PrD) (ok : Bool) (e : Ending) (w' : World) : Prop := ∃ a b c, e = .returned (.tuple #[.agg #[a, b, c], .bool ok]) ∧ OwP w.heap.size w'.heap.size w' (.agg #[a, b, c]) p ∧ Below w.heap.size w w'
theorem owP_nilP (Q : Nat) (w : World) (hQ : Q ≤ w.heap.size) : OwP Q w.heap.size w (.agg #[.slice none 0 0, .slice none 0 0, .slice none 0 0]) nilP := ⟨_, _, _, _, _, rfl, owI_nil Q w hQ, owI_nil _ w (Nat.le_refl _), owI_nil _ w (Nat.le_refl _)⟩
theorem pl_sp {P Q G : Int} {s : ByteArray} {rows : List (List Int)} {xs cs : List Int} (h : plB P Q G s rows xs cs = true) : plV P Q G s rows xs cs = spP P Q G s rows xs cs := by simp [plV, h]

set_option maxRecDepth 100000 in
set_option maxHeartbeats 3200000 in
theorem sProvL_any (P Q G : Int) (s : ByteArray) (hs : s.size ≤ 1048576) {B C D : Nat} {v u x : Value} {rows : List (List Int)} {xs cs : List Int} (hl : rows.length ≤ 1048576) (hr : ∀ z ∈ rows, z.length ≤ 17592186044416) (hxl : xs.length ≤ 1048576) (hcl : cs.length ≤ 1048576) {w : World} (hz : InS B w v rows) (hx : InI C w u xs) (hc : InI D w x cs) :
    Calls Try.prog 36 #[gv P Q G, .string s, v, u, x] w (AnsN w (plV P Q G s rows xs cs) (plB P Q G s rows xs cs)) := by
  obtain ⟨ad, cap, rfl⟩ := hz.shape
  obtain ⟨ad2, cap2, rfl⟩ := hx.shape
  obtain ⟨ad3, cap3, rfl⟩ := hc.shape
  have HRL := Lib.hid hr
  have G_0 := Lib.hid ((gr_new w P Q G 32).below (ba _ (.cells #[.slice none 0 0, .slice none 0 0, .slice none 0 0] 36)))
  have hb3 := b3_new (w.alloc (.cells #[.int .i64 P, .int .i64 Q, .int .i64 G] 32)) (.slice none 0 0) (.slice none 0 0) (.slice none 0 0) 36
  rw [show (w.alloc (.cells #[.int .i64 P, .int .i64 Q, .int .i64 G] 32)).heap.size = w.heap.size + 1 by simp] at hb3
  have Z_0 := Lib.hid hb3
  have HB_0 := Lib.hid (bt (ba w (.cells #[.int .i64 P, .int .i64 Q, .int .i64 G] 32)) (ba _ (.cells #[.slice none 0 0, .slice none 0 0, .slice none 0 0] 36)))
  have M_0 := Lib.hid (hz.below HB_0.out)
  have X_0 := Lib.hid (hx.below HB_0.out)
  have C_0 := Lib.hid (hc.below HB_0.out)
  clear hr hb3 hz hx hc
  rcases rows with _ | ⟨z0, rest⟩
  · cases h0 : (goodB P Q G && decide (s.size ≤ 40))
    · have K0 := Lib.hid (show (goodB P Q G && decide (s.size ≤ 40)) = false from h0)
      have E1 := Lib.hid (show plB P Q G s [] xs cs = false from by rw [← Bool.not_eq_true]; intro h; obtain ⟨h1', h2', h3', h4'⟩ := plB_true.1 h; obtain ⟨i1, i2, i3, i4⟩ := imB_true.1 h1'; simp [i1, h4'] at h0)
      rw [E1.out, pl_off E1.out]
      clear h0
      obtain ⟨gG0, gG1, gG2⟩ := G_0.out
      obtain ⟨rZ0, rZ1, rZ2, rfZ⟩ := Z_0.out
      have rfZ0 := rfZ 0
      have rfZ1 := rfZ 1
      have rfZ2 := rfZ 2
      go_enter Try.func36, Try.ntmps36
      go_wp2_with fail
      refine (sLabel_any P Q G s hs _).mono ?_
      rw [K0.out]
      rintro e v1 ⟨rfl, hb⟩
      have HB_1 := Lib.hid (bt HB_0.out hb)
      have G_1 := Lib.hid (G_0.out.below hb)
      have Z_1 := Lib.hid (Z_0.out.below hb)
      have M_1 := Lib.hid (M_0.out.below hb)
      have X_1 := Lib.hid (X_0.out.below hb)
      have C_1 := Lib.hid (C_0.out.below hb)
      clear hb gG0 gG1 gG2 rZ0 rZ1 rZ2 rfZ rfZ0 rfZ1 rfZ2
      obtain ⟨gG0, gG1, gG2⟩ := G_1.out
      obtain ⟨rZ0, rZ1, rZ2, rfZ⟩ := Z_1.out
      have rfZ0 := rfZ 0
      have rfZ1 := rfZ 1
      have rfZ2 := rfZ 2
      go_wp2
      (try simp only [Exit.inBlock, Exit.then])
      refine bodyPost_ret (v := .tuple #[.agg #[.slice none 0 0, .slice none 0 0, .slice none 0 0], .bool false]) ?_ rfl ?_
      · rw [results_cell_tmp rfl]; go_simp
      · have hm5 := mid3 v1 (w.heap.size + 1) (.slice none 0 0) (.slice none 0 0) (.slice none 0 0)
        exact ⟨_, _, _, rfl, owP_nilP _ _ (Nat.le_trans HB_1.out.size hm5.size), HB_1.out.trans (hm5.toBelow (by omega) HB_1.out.size)⟩
    have K0 := Lib.hid (show (goodB P Q G && decide (s.size ≤ 40)) = true from h0)
    have HGd := Lib.hid (show goodB P Q G = true from ((Bool.and_eq_true _ _).mp h0).1)
    have hs40 : s.size ≤ 40 := of_decide_eq_true ((Bool.and_eq_true _ _).mp h0).2
    have E1 := Lib.hid (show plB P Q G s [] xs cs = false from by rw [← Bool.not_eq_true]; intro h; have h1 := (imB_true.1 (plB_true.1 h).1).2.1; simp [rowsB] at h1)
    rw [E1.out, pl_off E1.out]
    have K9 := Lib.hid (show rowsB P Q [] = false by simp [rowsB])
    clear h0
    obtain ⟨gG0, gG1, gG2⟩ := G_0.out
    obtain ⟨rZ0, rZ1, rZ2, rfZ⟩ := Z_0.out
    have rfZ0 := rfZ 0
    have rfZ1 := rfZ 1
    have rfZ2 := rfZ 2
    go_enter Try.func36, Try.ntmps36
    go_wp2_with fail
    refine (sLabel_any P Q G s hs _).mono ?_
    rw [K0.out]
    rintro e v1 ⟨rfl, hb⟩
    have HB_1 := Lib.hid (bt HB_0.out hb)
    have G_1 := Lib.hid (G_0.out.below hb)
    have Z_1 := Lib.hid (Z_0.out.below hb)
    have M_1 := Lib.hid (M_0.out.below hb)
    have X_1 := Lib.hid (X_0.out.below hb)
    have C_1 := Lib.hid (C_0.out.below hb)
    clear hb gG0 gG1 gG2 rZ0 rZ1 rZ2 rfZ rfZ0 rfZ1 rfZ2
    obtain ⟨gG0, gG1, gG2⟩ := G_1.out
    obtain ⟨rZ0, rZ1, rZ2, rfZ⟩ := Z_1.out
    have rfZ0 := rfZ 0
    have rfZ1 := rfZ 1
    have rfZ2 := rfZ 2
    go_wp2_with fail
    refine (sBases_any P Q G (good_mo (HGd.out)) hl HRL.out M_1.out).mono ?_
    rw [K9.out]
    rintro e v2 ⟨rfl, hb⟩
    have HB_2 := Lib.hid (bt HB_1.out hb)
    have G_2 := Lib.hid (G_1.out.below hb)
    have Z_2 := Lib.hid (Z_1.out.below hb)
    have M_2 := Lib.hid (M_1.out.below hb)
    have X_2 := Lib.hid (X_1.out.below hb)
    have C_2 := Lib.hid (C_1.out.below hb)
    clear hb gG0 gG1 gG2 rZ0 rZ1 rZ2 rfZ rfZ0 rfZ1 rfZ2
    obtain ⟨gG0, gG1, gG2⟩ := G_2.out
    obtain ⟨rZ0, rZ1, rZ2, rfZ⟩ := Z_2.out
    have rfZ0 := rfZ 0
    have rfZ1 := rfZ 1
    have rfZ2 := rfZ 2
    go_wp2
    (try simp only [Exit.inBlock, Exit.then])
    refine bodyPost_ret (v := .tuple #[.agg #[.slice none 0 0, .slice none 0 0, .slice none 0 0], .bool false]) ?_ rfl ?_
    · rw [results_cell_tmp rfl]; go_simp
    · have hm5 := mid3 v2 (w.heap.size + 1) (.slice none 0 0) (.slice none 0 0) (.slice none 0 0)
      exact ⟨_, _, _, rfl, owP_nilP _ _ (Nat.le_trans HB_2.out.size hm5.size), HB_2.out.trans (hm5.toBelow (by omega) HB_2.out.size)⟩
  · obtain ⟨zb, zo, za, zc, rfl, hc1⟩ := row_zero M_0.out
    have E_0 := Lib.hid hc1
    clear hc1
    cases h0 : (goodB P Q G && decide (s.size ≤ 40))
    · have K0 := Lib.hid (show (goodB P Q G && decide (s.size ≤ 40)) = false from h0)
      have E1 := Lib.hid (show plB P Q G s (z0 :: rest) xs cs = false from by rw [← Bool.not_eq_true]; intro h; obtain ⟨h1', h2', h3', h4'⟩ := plB_true.1 h; obtain ⟨i1, i2, i3, i4⟩ := imB_true.1 h1'; simp [i1, h4'] at h0)
      rw [E1.out, pl_off E1.out]
      clear h0
      obtain ⟨gG0, gG1, gG2⟩ := G_0.out
      obtain ⟨rZ0, rZ1, rZ2, rfZ⟩ := Z_0.out
      have rfZ0 := rfZ 0
      have rfZ1 := rfZ 1
      have rfZ2 := rfZ 2
      have cE := E_0.out
      unfold C1 at cE
      go_enter Try.func36, Try.ntmps36
      go_wp2_with fail
      refine (sLabel_any P Q G s hs _).mono ?_
      rw [K0.out]
      rintro e v1 ⟨rfl, hb⟩
      have HB_1 := Lib.hid (bt HB_0.out hb)
      have G_1 := Lib.hid (G_0.out.below hb)
      have Z_1 := Lib.hid (Z_0.out.below hb)
      have M_1 := Lib.hid (M_0.out.below hb)
      have X_1 := Lib.hid (X_0.out.below hb)
      have C_1 := Lib.hid (C_0.out.below hb)
      have E_1 := Lib.hid (E_0.out.below hb)
      clear hb gG0 gG1 gG2 rZ0 rZ1 rZ2 rfZ rfZ0 rfZ1 rfZ2 cE
      obtain ⟨gG0, gG1, gG2⟩ := G_1.out
      obtain ⟨rZ0, rZ1, rZ2, rfZ⟩ := Z_1.out
      have rfZ0 := rfZ 0
      have rfZ1 := rfZ 1
      have rfZ2 := rfZ 2
      have cE := E_1.out
      unfold C1 at cE
      go_wp2
      (try simp only [Exit.inBlock, Exit.then])
      refine bodyPost_ret (v := .tuple #[.agg #[.slice none 0 0, .slice none 0 0, .slice none 0 0], .bool false]) ?_ rfl ?_
      · rw [results_cell_tmp rfl]; go_simp
      · have hm5 := mid3 v1 (w.heap.size + 1) (.slice none 0 0) (.slice none 0 0) (.slice none 0 0)
        exact ⟨_, _, _, rfl, owP_nilP _ _ (Nat.le_trans HB_1.out.size hm5.size), HB_1.out.trans (hm5.toBelow (by omega) HB_1.out.size)⟩
    have K0 := Lib.hid (show (goodB P Q G && decide (s.size ≤ 40)) = true from h0)
    have HGd := Lib.hid (show goodB P Q G = true from ((Bool.and_eq_true _ _).mp h0).1)
    have hs40 : s.size ≤ 40 := of_decide_eq_true ((Bool.and_eq_true _ _).mp h0).2
    cases h1 : rowsB P Q (z0 :: rest)
    · have K1 := Lib.hid (show rowsB P Q (z0 :: rest) = false from h1)
      have E1 := Lib.hid (show plB P Q G s (z0 :: rest) xs cs = false from by rw [← Bool.not_eq_true]; intro h; obtain ⟨h1', h2', h3', h4'⟩ := plB_true.1 h; obtain ⟨i1, i2, i3, i4⟩ := imB_true.1 h1'; simp [i2] at h1)
      rw [E1.out, pl_off E1.out]
      clear h0 h1
      obtain ⟨gG0, gG1, gG2⟩ := G_0.out
      obtain ⟨rZ0, rZ1, rZ2, rfZ⟩ := Z_0.out
      have rfZ0 := rfZ 0
      have rfZ1 := rfZ 1
      have rfZ2 := rfZ 2
      have cE := E_0.out
      unfold C1 at cE
      go_enter Try.func36, Try.ntmps36
      go_wp2_with fail
      refine (sLabel_any P Q G s hs _).mono ?_
      rw [K0.out]
      rintro e v1 ⟨rfl, hb⟩
      have HB_1 := Lib.hid (bt HB_0.out hb)
      have G_1 := Lib.hid (G_0.out.below hb)
      have Z_1 := Lib.hid (Z_0.out.below hb)
      have M_1 := Lib.hid (M_0.out.below hb)
      have X_1 := Lib.hid (X_0.out.below hb)
      have C_1 := Lib.hid (C_0.out.below hb)
      have E_1 := Lib.hid (E_0.out.below hb)
      clear hb gG0 gG1 gG2 rZ0 rZ1 rZ2 rfZ rfZ0 rfZ1 rfZ2 cE
      obtain ⟨gG0, gG1, gG2⟩ := G_1.out
      obtain ⟨rZ0, rZ1, rZ2, rfZ⟩ := Z_1.out
      have rfZ0 := rfZ 0
      have rfZ1 := rfZ 1
      have rfZ2 := rfZ 2
      have cE := E_1.out
      unfold C1 at cE
      go_wp2_with fail
      refine (sBases_any P Q G (good_mo (HGd.out)) hl HRL.out M_1.out).mono ?_
      rw [K1.out]
      rintro e v2 ⟨rfl, hb⟩
      have HB_2 := Lib.hid (bt HB_1.out hb)
      have G_2 := Lib.hid (G_1.out.below hb)
      have Z_2 := Lib.hid (Z_1.out.below hb)
      have M_2 := Lib.hid (M_1.out.below hb)
      have X_2 := Lib.hid (X_1.out.below hb)
      have C_2 := Lib.hid (C_1.out.below hb)
      have E_2 := Lib.hid (E_1.out.below hb)
      clear hb gG0 gG1 gG2 rZ0 rZ1 rZ2 rfZ rfZ0 rfZ1 rfZ2 cE
      obtain ⟨gG0, gG1, gG2⟩ := G_2.out
      obtain ⟨rZ0, rZ1, rZ2, rfZ⟩ := Z_2.out
      have rfZ0 := rfZ 0
      have rfZ1 := rfZ 1
      have rfZ2 := rfZ 2
      have cE := E_2.out
      unfold C1 at cE
      go_wp2
      (try simp only [Exit.inBlock, Exit.then])
      refine bodyPost_ret (v := .tuple #[.agg #[.slice none 0 0, .slice none 0 0, .slice none 0 0], .bool false]) ?_ rfl ?_
      · rw [results_cell_tmp rfl]; go_simp
      · have hm5 := mid3 v2 (w.heap.size + 1) (.slice none 0 0) (.slice none 0 0) (.slice none 0 0)
        exact ⟨_, _, _, rfl, owP_nilP _ _ (Nat.le_trans HB_2.out.size hm5.size), HB_2.out.trans (hm5.toBelow (by omega) HB_2.out.size)⟩
    have K1 := Lib.hid (show rowsB P Q (z0 :: rest) = true from h1)
    obtain ⟨hr1, hr2, hr3⟩ := rowsB_true.1 h1
    rw [wid_cons] at hr2 hr3
    by_cases h2 : ¬ (xs.length = z0.length)
    · have B2 : ((xs.length : Int) != (z0.length : Int)) = true := by simp; omega
      have E1 := Lib.hid (show plB P Q G s (z0 :: rest) xs cs = false from by rw [← Bool.not_eq_true]; intro h; obtain ⟨h1', h2', h3', h4'⟩ := plB_true.1 h; obtain ⟨i1, i2, i3, i4⟩ := imB_true.1 h1'; exact h2 (by rw [i3]; rfl))
      rw [E1.out, pl_off E1.out]
      clear h0 h1 h2
      obtain ⟨gG0, gG1, gG2⟩ := G_0.out
      obtain ⟨rZ0, rZ1, rZ2, rfZ⟩ := Z_0.out
      have rfZ0 := rfZ 0
      have rfZ1 := rfZ 1
      have rfZ2 := rfZ 2
      have cE := E_0.out
      unfold C1 at cE
      go_enter Try.func36, Try.ntmps36
      go_wp2_with fail
      refine (sLabel_any P Q G s hs _).mono ?_
      rw [K0.out]
      rintro e v1 ⟨rfl, hb⟩
      have HB_1 := Lib.hid (bt HB_0.out hb)
      have G_1 := Lib.hid (G_0.out.below hb)
      have Z_1 := Lib.hid (Z_0.out.below hb)
      have M_1 := Lib.hid (M_0.out.below hb)
      have X_1 := Lib.hid (X_0.out.below hb)
      have C_1 := Lib.hid (C_0.out.below hb)
      have E_1 := Lib.hid (E_0.out.below hb)
      clear hb gG0 gG1 gG2 rZ0 rZ1 rZ2 rfZ rfZ0 rfZ1 rfZ2 cE
      obtain ⟨gG0, gG1, gG2⟩ := G_1.out
      obtain ⟨rZ0, rZ1, rZ2, rfZ⟩ := Z_1.out
      have rfZ0 := rfZ 0
      have rfZ1 := rfZ 1
      have rfZ2 := rfZ 2
      have cE := E_1.out
      unfold C1 at cE
      go_wp2_with fail
      refine (sBases_any P Q G (good_mo (HGd.out)) hl HRL.out M_1.out).mono ?_
      rw [K1.out]
      rintro e v2 ⟨rfl, hb⟩
      have HB_2 := Lib.hid (bt HB_1.out hb)
      have G_2 := Lib.hid (G_1.out.below hb)
      have Z_2 := Lib.hid (Z_1.out.below hb)
      have M_2 := Lib.hid (M_1.out.below hb)
      have X_2 := Lib.hid (X_1.out.below hb)
      have C_2 := Lib.hid (C_1.out.below hb)
      have E_2 := Lib.hid (E_1.out.below hb)
      clear hb gG0 gG1 gG2 rZ0 rZ1 rZ2 rfZ rfZ0 rfZ1 rfZ2 cE
      obtain ⟨gG0, gG1, gG2⟩ := G_2.out
      obtain ⟨rZ0, rZ1, rZ2, rfZ⟩ := Z_2.out
      have rfZ0 := rfZ 0
      have rfZ1 := rfZ 1
      have rfZ2 := rfZ 2
      have cE := E_2.out
      unfold C1 at cE
      go_wp2
      (try simp only [Exit.inBlock, Exit.then])
      refine bodyPost_ret (v := .tuple #[.agg #[.slice none 0 0, .slice none 0 0, .slice none 0 0], .bool false]) ?_ rfl ?_
      · rw [results_cell_tmp rfl]; go_simp
      · have hm5 := mid3 v2 (w.heap.size + 1) (.slice none 0 0) (.slice none 0 0) (.slice none 0 0)
        exact ⟨_, _, _, rfl, owP_nilP _ _ (Nat.le_trans HB_2.out.size hm5.size), HB_2.out.trans (hm5.toBelow (by omega) HB_2.out.size)⟩
    have h2 := Decidable.not_not.1 h2
    have B2 : ((xs.length : Int) != (z0.length : Int)) = false := by simp; omega
    by_cases h3 : ¬ (cs.length = xs.length)
    · have B3 : ((cs.length : Int) != (xs.length : Int)) = true := by simp; omega
      have E1 := Lib.hid (show plB P Q G s (z0 :: rest) xs cs = false from by rw [← Bool.not_eq_true]; intro h; obtain ⟨h1', h2', h3', h4'⟩ := plB_true.1 h; obtain ⟨i1, i2, i3, i4⟩ := imB_true.1 h1'; exact h3 h2')
      rw [E1.out, pl_off E1.out]
      clear h0 h1 h2 h3
      obtain ⟨gG0, gG1, gG2⟩ := G_0.out
      obtain ⟨rZ0, rZ1, rZ2, rfZ⟩ := Z_0.out
      have rfZ0 := rfZ 0
      have rfZ1 := rfZ 1
      have rfZ2 := rfZ 2
      have cE := E_0.out
      unfold C1 at cE
      go_enter Try.func36, Try.ntmps36
      go_wp2_with fail
      refine (sLabel_any P Q G s hs _).mono ?_
      rw [K0.out]
      rintro e v1 ⟨rfl, hb⟩
      have HB_1 := Lib.hid (bt HB_0.out hb)
      have G_1 := Lib.hid (G_0.out.below hb)
      have Z_1 := Lib.hid (Z_0.out.below hb)
      have M_1 := Lib.hid (M_0.out.below hb)
      have X_1 := Lib.hid (X_0.out.below hb)
      have C_1 := Lib.hid (C_0.out.below hb)
      have E_1 := Lib.hid (E_0.out.below hb)
      clear hb gG0 gG1 gG2 rZ0 rZ1 rZ2 rfZ rfZ0 rfZ1 rfZ2 cE
      obtain ⟨gG0, gG1, gG2⟩ := G_1.out
      obtain ⟨rZ0, rZ1, rZ2, rfZ⟩ := Z_1.out
      have rfZ0 := rfZ 0
      have rfZ1 := rfZ 1
      have rfZ2 := rfZ 2
      have cE := E_1.out
      unfold C1 at cE
      go_wp2_with fail
      refine (sBases_any P Q G (good_mo (HGd.out)) hl HRL.out M_1.out).mono ?_
      rw [K1.out]
      rintro e v2 ⟨rfl, hb⟩
      have HB_2 := Lib.hid (bt HB_1.out hb)
      have G_2 := Lib.hid (G_1.out.below hb)
      have Z_2 := Lib.hid (Z_1.out.below hb)
      have M_2 := Lib.hid (M_1.out.below hb)
      have X_2 := Lib.hid (X_1.out.below hb)
      have C_2 := Lib.hid (C_1.out.below hb)
      have E_2 := Lib.hid (E_1.out.below hb)
      clear hb gG0 gG1 gG2 rZ0 rZ1 rZ2 rfZ rfZ0 rfZ1 rfZ2 cE
      obtain ⟨gG0, gG1, gG2⟩ := G_2.out
      obtain ⟨rZ0, rZ1, rZ2, rfZ⟩ := Z_2.out
      have rfZ0 := rfZ 0
      have rfZ1 := rfZ 1
      have rfZ2 := rfZ 2
      have cE := E_2.out
      unfold C1 at cE
      go_wp2
      (try simp only [Exit.inBlock, Exit.then])
      refine bodyPost_ret (v := .tuple #[.agg #[.slice none 0 0, .slice none 0 0, .slice none 0 0], .bool false]) ?_ rfl ?_
      · rw [results_cell_tmp rfl]; go_simp
      · have hm5 := mid3 v2 (w.heap.size + 1) (.slice none 0 0) (.slice none 0 0) (.slice none 0 0)
        exact ⟨_, _, _, rfl, owP_nilP _ _ (Nat.le_trans HB_2.out.size hm5.size), HB_2.out.trans (hm5.toBelow (by omega) HB_2.out.size)⟩
    have h3 := Decidable.not_not.1 h3
    have B3 : ((cs.length : Int) != (xs.length : Int)) = false := by simp; omega
    cases h4 : allIn xs 0 (Q - 1)
    · have K4 := Lib.hid (show allIn xs 0 (Q - 1) = false from h4)
      have E1 := Lib.hid (show plB P Q G s (z0 :: rest) xs cs = false from by rw [← Bool.not_eq_true]; intro h; obtain ⟨h1', h2', h3', h4'⟩ := plB_true.1 h; obtain ⟨i1, i2, i3, i4⟩ := imB_true.1 h1'; simp [i4] at h4)
      rw [E1.out, pl_off E1.out]
      clear h0 h1 h2 h3 h4
      obtain ⟨gG0, gG1, gG2⟩ := G_0.out
      obtain ⟨rZ0, rZ1, rZ2, rfZ⟩ := Z_0.out
      have rfZ0 := rfZ 0
      have rfZ1 := rfZ 1
      have rfZ2 := rfZ 2
      have cE := E_0.out
      unfold C1 at cE
      go_enter Try.func36, Try.ntmps36
      go_wp2_with fail
      refine (sLabel_any P Q G s hs _).mono ?_
      rw [K0.out]
      rintro e v1 ⟨rfl, hb⟩
      have HB_1 := Lib.hid (bt HB_0.out hb)
      have G_1 := Lib.hid (G_0.out.below hb)
      have Z_1 := Lib.hid (Z_0.out.below hb)
      have M_1 := Lib.hid (M_0.out.below hb)
      have X_1 := Lib.hid (X_0.out.below hb)
      have C_1 := Lib.hid (C_0.out.below hb)
      have E_1 := Lib.hid (E_0.out.below hb)
      clear hb gG0 gG1 gG2 rZ0 rZ1 rZ2 rfZ rfZ0 rfZ1 rfZ2 cE
      obtain ⟨gG0, gG1, gG2⟩ := G_1.out
      obtain ⟨rZ0, rZ1, rZ2, rfZ⟩ := Z_1.out
      have rfZ0 := rfZ 0
      have rfZ1 := rfZ 1
      have rfZ2 := rfZ 2
      have cE := E_1.out
      unfold C1 at cE
      go_wp2_with fail
      refine (sBases_any P Q G (good_mo (HGd.out)) hl HRL.out M_1.out).mono ?_
      rw [K1.out]
      rintro e v2 ⟨rfl, hb⟩
      have HB_2 := Lib.hid (bt HB_1.out hb)
      have G_2 := Lib.hid (G_1.out.below hb)
      have Z_2 := Lib.hid (Z_1.out.below hb)
      have M_2 := Lib.hid (M_1.out.below hb)
      have X_2 := Lib.hid (X_1.out.below hb)
      have C_2 := Lib.hid (C_1.out.below hb)
      have E_2 := Lib.hid (E_1.out.below hb)
      clear hb gG0 gG1 gG2 rZ0 rZ1 rZ2 rfZ rfZ0 rfZ1 rfZ2 cE
      obtain ⟨gG0, gG1, gG2⟩ := G_2.out
      obtain ⟨rZ0, rZ1, rZ2, rfZ⟩ := Z_2.out
      have rfZ0 := rfZ 0
      have rfZ1 := rfZ 1
      have rfZ2 := rfZ 2
      have cE := E_2.out
      unfold C1 at cE
      go_wp2_with fail
      refine (gExps_any P Q G ⟨by have := (good_rng HGd.out).2.1; omega, (good_rng HGd.out).2.1.2⟩ _ _ _ xs rfl (by omega) _ (X_2.out.ints).1).mono ?_
      rw [K4.out]
      rintro e v3 ⟨rfl, hb⟩
      have HB_3 := Lib.hid (bt HB_2.out hb)
      have G_3 := Lib.hid (G_2.out.below hb)
      have Z_3 := Lib.hid (Z_2.out.below hb)
      have M_3 := Lib.hid (M_2.out.below hb)
      have X_3 := Lib.hid (X_2.out.below hb)
      have C_3 := Lib.hid (C_2.out.below hb)
      have E_3 := Lib.hid (E_2.out.below hb)
      clear hb gG0 gG1 gG2 rZ0 rZ1 rZ2 rfZ rfZ0 rfZ1 rfZ2 cE
      obtain ⟨gG0, gG1, gG2⟩ := G_3.out
      obtain ⟨rZ0, rZ1, rZ2, rfZ⟩ := Z_3.out
      have rfZ0 := rfZ 0
      have rfZ1 := rfZ 1
      have rfZ2 := rfZ 2
      have cE := E_3.out
      unfold C1 at cE
      go_wp2
      (try simp only [Exit.inBlock, Exit.then])
      refine bodyPost_ret (v := .tuple #[.agg #[.slice none 0 0, .slice none 0 0, .slice none 0 0], .bool false]) ?_ rfl ?_
      · rw [results_cell_tmp rfl]; go_simp
      · have hm5 := mid3 v3 (w.heap.size + 1) (.slice none 0 0) (.slice none 0 0) (.slice none 0 0)
        exact ⟨_, _, _, rfl, owP_nilP _ _ (Nat.le_trans HB_3.out.size hm5.size), HB_3.out.trans (hm5.toBelow (by omega) HB_3.out.size)⟩
    have K4 := Lib.hid (show allIn xs 0 (Q - 1) = true from h4)
    cases h5 : allIn cs 0 (Q - 1)
    · have K5 := Lib.hid (show allIn cs 0 (Q - 1) = false from h5)
      have E1 := Lib.hid (show plB P Q G s (z0 :: rest) xs cs = false from by rw [← Bool.not_eq_true]; intro h; obtain ⟨h1', h2', h3', h4'⟩ := plB_true.1 h; obtain ⟨i1, i2, i3, i4⟩ := imB_true.1 h1'; simp [h3'] at h5)
      rw [E1.out, pl_off E1.out]
      clear h0 h1 h2 h3 h4 h5
      obtain ⟨gG0, gG1, gG2⟩ := G_0.out
      obtain ⟨rZ0, rZ1, rZ2, rfZ⟩ := Z_0.out
      have rfZ0 := rfZ 0
      have rfZ1 := rfZ 1
      have rfZ2 := rfZ 2
      have cE := E_0.out
      unfold C1 at cE
      go_enter Try.func36, Try.ntmps36
      go_wp2_with fail
      refine (sLabel_any P Q G s hs _).mono ?_
      rw [K0.out]
      rintro e v1 ⟨rfl, hb⟩
      have HB_1 := Lib.hid (bt HB_0.out hb)
      have G_1 := Lib.hid (G_0.out.below hb)
      have Z_1 := Lib.hid (Z_0.out.below hb)
      have M_1 := Lib.hid (M_0.out.below hb)
      have X_1 := Lib.hid (X_0.out.below hb)
      have C_1 := Lib.hid (C_0.out.below hb)
      have E_1 := Lib.hid (E_0.out.below hb)
      clear hb gG0 gG1 gG2 rZ0 rZ1 rZ2 rfZ rfZ0 rfZ1 rfZ2 cE
      obtain ⟨gG0, gG1, gG2⟩ := G_1.out
      obtain ⟨rZ0, rZ1, rZ2, rfZ⟩ := Z_1.out
      have rfZ0 := rfZ 0
      have rfZ1 := rfZ 1
      have rfZ2 := rfZ 2
      have cE := E_1.out
      unfold C1 at cE
      go_wp2_with fail
      refine (sBases_any P Q G (good_mo (HGd.out)) hl HRL.out M_1.out).mono ?_
      rw [K1.out]
      rintro e v2 ⟨rfl, hb⟩
      have HB_2 := Lib.hid (bt HB_1.out hb)
      have G_2 := Lib.hid (G_1.out.below hb)
      have Z_2 := Lib.hid (Z_1.out.below hb)
      have M_2 := Lib.hid (M_1.out.below hb)
      have X_2 := Lib.hid (X_1.out.below hb)
      have C_2 := Lib.hid (C_1.out.below hb)
      have E_2 := Lib.hid (E_1.out.below hb)
      clear hb gG0 gG1 gG2 rZ0 rZ1 rZ2 rfZ rfZ0 rfZ1 rfZ2 cE
      obtain ⟨gG0, gG1, gG2⟩ := G_2.out
      obtain ⟨rZ0, rZ1, rZ2, rfZ⟩ := Z_2.out
      have rfZ0 := rfZ 0
      have rfZ1 := rfZ 1
      have rfZ2 := rfZ 2
      have cE := E_2.out
      unfold C1 at cE
      go_wp2_with fail
      refine (gExps_any P Q G ⟨by have := (good_rng HGd.out).2.1; omega, (good_rng HGd.out).2.1.2⟩ _ _ _ xs rfl (by omega) _ (X_2.out.ints).1).mono ?_
      rw [K4.out]
      rintro e v3 ⟨rfl, hb⟩
      have HB_3 := Lib.hid (bt HB_2.out hb)
      have G_3 := Lib.hid (G_2.out.below hb)
      have Z_3 := Lib.hid (Z_2.out.below hb)
      have M_3 := Lib.hid (M_2.out.below hb)
      have X_3 := Lib.hid (X_2.out.below hb)
      have C_3 := Lib.hid (C_2.out.below hb)
      have E_3 := Lib.hid (E_2.out.below hb)
      clear hb gG0 gG1 gG2 rZ0 rZ1 rZ2 rfZ rfZ0 rfZ1 rfZ2 cE
      obtain ⟨gG0, gG1, gG2⟩ := G_3.out
      obtain ⟨rZ0, rZ1, rZ2, rfZ⟩ := Z_3.out
      have rfZ0 := rfZ 0
      have rfZ1 := rfZ 1
      have rfZ2 := rfZ 2
      have cE := E_3.out
      unfold C1 at cE
      go_wp2_with fail
      refine (gExps_any P Q G ⟨by have := (good_rng HGd.out).2.1; omega, (good_rng HGd.out).2.1.2⟩ _ _ _ cs rfl (by omega) _ (C_3.out.ints).1).mono ?_
      rw [K5.out]
      rintro e v4 ⟨rfl, hb⟩
      have HB_4 := Lib.hid (bt HB_3.out hb)
      have G_4 := Lib.hid (G_3.out.below hb)
      have Z_4 := Lib.hid (Z_3.out.below hb)
      have M_4 := Lib.hid (M_3.out.below hb)
      have X_4 := Lib.hid (X_3.out.below hb)
      have C_4 := Lib.hid (C_3.out.below hb)
      have E_4 := Lib.hid (E_3.out.below hb)
      clear hb gG0 gG1 gG2 rZ0 rZ1 rZ2 rfZ rfZ0 rfZ1 rfZ2 cE
      obtain ⟨gG0, gG1, gG2⟩ := G_4.out
      obtain ⟨rZ0, rZ1, rZ2, rfZ⟩ := Z_4.out
      have rfZ0 := rfZ 0
      have rfZ1 := rfZ 1
      have rfZ2 := rfZ 2
      have cE := E_4.out
      unfold C1 at cE
      go_wp2
      (try simp only [Exit.inBlock, Exit.then])
      refine bodyPost_ret (v := .tuple #[.agg #[.slice none 0 0, .slice none 0 0, .slice none 0 0], .bool false]) ?_ rfl ?_
      · rw [results_cell_tmp rfl]; go_simp
      · have hm5 := mid3 v4 (w.heap.size + 1) (.slice none 0 0) (.slice none 0 0) (.slice none 0 0)
        exact ⟨_, _, _, rfl, owP_nilP _ _ (Nat.le_trans HB_4.out.size hm5.size), HB_4.out.trans (hm5.toBelow (by omega) HB_4.out.size)⟩
    have K5 := Lib.hid (show allIn cs 0 (Q - 1) = true from h5)
    have E1 := Lib.hid (plB_true.2 ⟨imB_true.2 ⟨HGd.out, h1, by rw [h2]; rfl, h4⟩, h3, h5, hs40⟩)
    rw [E1.out, pl_sp E1.out]
    have HX := Lib.hid (fun (W : World) (q1 : InS B W (.slice (some ⟨zb, zo, none⟩) (z0 :: rest).length cap) (z0 :: rest)) (q2 : InI C W (.slice ad2 xs.length cap2) xs) (q3 : InI D W (.slice ad3 cs.length cap3) cs) => sProve_any P Q G HGd.out s (by omega) hr1.2 (by omega) (fun r hr => ⟨by rw [(hr3 r hr).1, h2], (hr3 r hr).2⟩) h3 h4 h5 q1 q2 q3)
    obtain ⟨p, hp⟩ : ∃ p, spP P Q G s (z0 :: rest) xs cs = p := ⟨_, rfl⟩
    rw [hp] at HX ⊢
    clear hp h0 h1 h2 h3 h4 h5 hr3
    obtain ⟨gG0, gG1, gG2⟩ := G_0.out
    obtain ⟨rZ0, rZ1, rZ2, rfZ⟩ := Z_0.out
    have rfZ0 := rfZ 0
    have rfZ1 := rfZ 1
    have rfZ2 := rfZ 2
    have cE := E_0.out
    unfold C1 at cE
    go_enter Try.func36, Try.ntmps36
    go_wp2_with fail
    refine (sLabel_any P Q G s hs _).mono ?_
    rw [K0.out]
    rintro e v1 ⟨rfl, hb⟩
    have HB_1 := Lib.hid (bt HB_0.out hb)
    have G_1 := Lib.hid (G_0.out.below hb)
    have Z_1 := Lib.hid (Z_0.out.below hb)
    have M_1 := Lib.hid (M_0.out.below hb)
    have X_1 := Lib.hid (X_0.out.below hb)
    have C_1 := Lib.hid (C_0.out.below hb)
    have E_1 := Lib.hid (E_0.out.below hb)
    clear hb gG0 gG1 gG2 rZ0 rZ1 rZ2 rfZ rfZ0 rfZ1 rfZ2 cE
    obtain ⟨gG0, gG1, gG2⟩ := G_1.out
    obtain ⟨rZ0, rZ1, rZ2, rfZ⟩ := Z_1.out
    have rfZ0 := rfZ 0
    have rfZ1 := rfZ 1
    have rfZ2 := rfZ 2
    have cE := E_1.out
    unfold C1 at cE
    go_wp2_with fail
    refine (sBases_any P Q G (good_mo (HGd.out)) hl HRL.out M_1.out).mono ?_
    rw [K1.out]
    rintro e v2 ⟨rfl, hb⟩
    have HB_2 := Lib.hid (bt HB_1.out hb)
    have G_2 := Lib.hid (G_1.out.below hb)
    have Z_2 := Lib.hid (Z_1.out.below hb)
    have M_2 := Lib.hid (M_1.out.below hb)
    have X_2 := Lib.hid (X_1.out.below hb)
    have C_2 := Lib.hid (C_1.out.below hb)
    have E_2 := Lib.hid (E_1.out.below hb)
    clear hb gG0 gG1 gG2 rZ0 rZ1 rZ2 rfZ rfZ0 rfZ1 rfZ2 cE
    obtain ⟨gG0, gG1, gG2⟩ := G_2.out
    obtain ⟨rZ0, rZ1, rZ2, rfZ⟩ := Z_2.out
    have rfZ0 := rfZ 0
    have rfZ1 := rfZ 1
    have rfZ2 := rfZ 2
    have cE := E_2.out
    unfold C1 at cE
    go_wp2_with fail
    refine (gExps_any P Q G ⟨by have := (good_rng HGd.out).2.1; omega, (good_rng HGd.out).2.1.2⟩ _ _ _ xs rfl (by omega) _ (X_2.out.ints).1).mono ?_
    rw [K4.out]
    rintro e v3 ⟨rfl, hb⟩
    have HB_3 := Lib.hid (bt HB_2.out hb)
    have G_3 := Lib.hid (G_2.out.below hb)
    have Z_3 := Lib.hid (Z_2.out.below hb)
    have M_3 := Lib.hid (M_2.out.below hb)
    have X_3 := Lib.hid (X_2.out.below hb)
    have C_3 := Lib.hid (C_2.out.below hb)
    have E_3 := Lib.hid (E_2.out.below hb)
    clear hb gG0 gG1 gG2 rZ0 rZ1 rZ2 rfZ rfZ0 rfZ1 rfZ2 cE
    obtain ⟨gG0, gG1, gG2⟩ := G_3.out
    obtain ⟨rZ0, rZ1, rZ2, rfZ⟩ := Z_3.out
    have rfZ0 := rfZ 0
    have rfZ1 := rfZ 1
    have rfZ2 := rfZ 2
    have cE := E_3.out
    unfold C1 at cE
    go_wp2_with fail
    refine (gExps_any P Q G ⟨by have := (good_rng HGd.out).2.1; omega, (good_rng HGd.out).2.1.2⟩ _ _ _ cs rfl (by omega) _ (C_3.out.ints).1).mono ?_
    rw [K5.out]
    rintro e v4 ⟨rfl, hb⟩
    have HB_4 := Lib.hid (bt HB_3.out hb)
    have G_4 := Lib.hid (G_3.out.below hb)
    have Z_4 := Lib.hid (Z_3.out.below hb)
    have M_4 := Lib.hid (M_3.out.below hb)
    have X_4 := Lib.hid (X_3.out.below hb)
    have C_4 := Lib.hid (C_3.out.below hb)
    have E_4 := Lib.hid (E_3.out.below hb)
    clear hb gG0 gG1 gG2 rZ0 rZ1 rZ2 rfZ rfZ0 rfZ1 rfZ2 cE
    obtain ⟨gG0, gG1, gG2⟩ := G_4.out
    obtain ⟨rZ0, rZ1, rZ2, rfZ⟩ := Z_4.out
    have rfZ0 := rfZ 0
    have rfZ1 := rfZ 1
    have rfZ2 := rfZ 2
    have cE := E_4.out
    unfold C1 at cE
    go_wp2_with fail
    refine (HX.out _ M_4.out X_4.out C_4.out).mono ?_
    rintro e' v9 ⟨qv, rfl, hq, hb9⟩
    have hin := hq.toIn
    obtain ⟨a1, c1, a2, c2, a3, c3, rfl, _, _, _⟩ := hin.parts
    have HB_9 := Lib.hid (bt HB_4.out hb9)
    have Z_9 := Lib.hid (Z_4.out.below hb9)
    have lz9 := Z_4.out.lt
    have IN := Lib.hid hq
    clear hq hin hb9 rZ0 rZ1 rZ2 rfZ rfZ0 rfZ1 rfZ2
    obtain ⟨rZ0, rZ1, rZ2, rfZ⟩ := Z_9.out
    have rfZ0 := rfZ 0
    have rfZ1 := rfZ 1
    have rfZ2 := rfZ 2
    clear rfZ
    go_wp2
    (try simp only [Exit.inBlock, Exit.then])
    refine bodyPost_ret (v := .tuple #[pv3 a1 p.c.length c1 a2 p.h.length c2 a3 p.r.length c3, .bool true]) ?_ rfl ?_
    · rw [results_cell_tmp rfl]; go_simp
    · have hm5 := mid3 v9 (w.heap.size + 1) (.slice a1 p.c.length c1) (.slice a2 p.h.length c2) (.slice a3 p.r.length c3)
      have hq := IN.out.mid hm5 (.inr (by omega))
      have hsb := HB_4.out.size
      exact ⟨_, _, _, rfl, OwP.wide hq hsb hm5.size, HB_9.out.trans (hm5.toBelow (by omega) HB_9.out.size)⟩

end Go.Proofs.Ytlgdcfficemebaa

/- Sigma proofs: ProveKnowledge and ProveEqual of both. -/
namespace Go.Proofs.Ytlgdcfficemebaa
open Go.RowKit
set_option linter.unusedVariables false
set_option linter.unusedSimpArgs false

theorem know4_lit (W : World) (a x c : Int) (t1 t2 t3 t4 : TypeId) :
    InS (((W.alloc (.cells #[.int .i64 a] t1)).alloc (.cells #[.slice (some ⟨W.heap.size, 0, none⟩) 1 1] t2)).alloc (.cells #[.int .i64 x] t3)).heap.size ((((W.alloc (.cells #[.int .i64 a] t1)).alloc (.cells #[.slice (some ⟨W.heap.size, 0, none⟩) 1 1] t2)).alloc (.cells #[.int .i64 x] t3)).alloc (.cells #[.int .i64 c] t4)) (.slice (some ⟨W.heap.size + 1, 0, none⟩) 1 1) [[a]] ∧ InI (((W.alloc (.cells #[.int .i64 a] t1)).alloc (.cells #[.slice (some ⟨W.heap.size, 0, none⟩) 1 1] t2)).alloc (.cells #[.int .i64 x] t3)).heap.size ((((W.alloc (.cells #[.int .i64 a] t1)).alloc (.cells #[.slice (some ⟨W.heap.size, 0, none⟩) 1 1] t2)).alloc (.cells #[.int .i64 x] t3)).alloc (.cells #[.int .i64 c] t4)) (.slice (some ⟨W.heap.size + 2, 0, none⟩) 1 1) [x] ∧ InI ((((W.alloc (.cells #[.int .i64 a] t1)).alloc (.cells #[.slice (some ⟨W.heap.size, 0, none⟩) 1 1] t2)).alloc (.cells #[.int .i64 x] t3)).alloc (.cells #[.int .i64 c] t4)).heap.size ((((W.alloc (.cells #[.int .i64 a] t1)).alloc (.cells #[.slice (some ⟨W.heap.size, 0, none⟩) 1 1] t2)).alloc (.cells #[.int .i64 x] t3)).alloc (.cells #[.int .i64 c] t4)) (.slice (some ⟨W.heap.size + 3, 0, none⟩) 1 1) [c] := by
  have hk := know_lit W a x t1 t2 t3
  have e4 := one_new (((W.alloc (.cells #[.int .i64 a] t1)).alloc (.cells #[.slice (some ⟨W.heap.size, 0, none⟩) 1 1] t2)).alloc (.cells #[.int .i64 x] t3)) (.int .i64 c) t4
  rw [show (((W.alloc (.cells #[.int .i64 a] t1)).alloc (.cells #[.slice (some ⟨W.heap.size, 0, none⟩) 1 1] t2)).alloc (.cells #[.int .i64 x] t3)).heap.size = W.heap.size + 3 by simp] at e4
  exact ⟨hk.1.below (ba _ _), hk.2.below (ba _ _), one_in e4⟩

set_option maxRecDepth 100000 in
set_option maxHeartbeats 3200000 in
theorem provK_any (P Q G a x c : Int) (s : ByteArray) (hs : s.size ≤ 1048576) (w : World) :
    Calls Try.prog 43 #[gv P Q G, .string s, .int .i64 a, .int .i64 x, .int .i64 c] w (AnsQ w.heap.size w (plV P Q G s [[a]] [x] [c]) (plB P Q G s [[a]] [x] [c])) := by
  have G_0 := Lib.hid ((gr_new w P Q G 32).below (ba _ (.cells #[.slice none 0 0, .slice none 0 0, .slice none 0 0] 36)))
  have hb3 := b3_new (w.alloc (.cells #[.int .i64 P, .int .i64 Q, .int .i64 G] 32)) (.slice none 0 0) (.slice none 0 0) (.slice none 0 0) 36
  rw [show (w.alloc (.cells #[.int .i64 P, .int .i64 Q, .int .i64 G] 32)).heap.size = w.heap.size + 1 by simp] at hb3
  have Z_0 := Lib.hid hb3
  have HB_0 := Lib.hid (bt (ba w (.cells #[.int .i64 P, .int .i64 Q, .int .i64 G] 32)) (ba _ (.cells #[.slice none 0 0, .slice none 0 0, .slice none 0 0] 36)))
  clear hb3
  generalize hrs : ([[a]] : List (List Int)) = rs
  generalize hxs : ([x] : List Int) = xs
  generalize hcs : ([c] : List Int) = cs
  have HRS := Lib.hid hrs
  have HXS := Lib.hid hxs
  have HCS := Lib.hid hcs
  clear hrs hxs hcs
  obtain ⟨p, hp⟩ : ∃ p, plV P Q G s rs xs cs = p := ⟨_, rfl⟩
  obtain ⟨ok, hk0⟩ : ∃ k, plB P Q G s rs xs cs = k := ⟨_, rfl⟩
  have HP := Lib.hid hp
  have HO := Lib.hid hk0
  rw [hp, hk0]
  clear hp hk0
  have hl : rs.length ≤ 1048576 := by rw [← HRS.out]; simp
  have hxl : xs.length ≤ 1048576 := by rw [← HXS.out]; simp
  have hcl : cs.length ≤ 1048576 := by rw [← HCS.out]; simp
  have HRL := Lib.hid (show ∀ z ∈ rs, z.length ≤ 17592186044416 from by rw [← HRS.out]; intro z hz; rw [List.mem_singleton.1 hz]; simp)
  go_enter Try.func43, Try.ntmps43
  generalize hW : (w.alloc (.cells #[.int .i64 P, .int .i64 Q, .int .i64 G] 32)).alloc (.cells #[.slice none 0 0, .slice none 0 0, .slice none 0 0] 36) = W at *
  have HB4 := Lib.hid (bt HB_0.out (bt (bt (bt (ba W (.cells #[.int .i64 a] 3)) (ba _ (.cells #[.slice (some ⟨W.heap.size, 0, none⟩) 1 1] 25))) (ba _ (.cells #[.int .i64 x] 3))) (ba _ (.cells #[.int .i64 c] 3))))
  have Z4 := Lib.hid (Z_0.out.below (bt (bt (bt (ba W (.cells #[.int .i64 a] 3)) (ba _ (.cells #[.slice (some ⟨W.heap.size, 0, none⟩) 1 1] 25))) (ba _ (.cells #[.int .i64 x] 3))) (ba _ (.cells #[.int .i64 c] 3))))
  have hk := know4_lit W a x c 3 25 3 3
  rw [HRS.out, HXS.out, HCS.out] at hk
  have HKL := Lib.hid hk
  clear hk
  obtain ⟨g0, g1, g2⟩ := G_0.out
  obtain ⟨y0, y1, y2, _⟩ := Z4.out
  go_wp2_with fail
  refine (provL_any P Q G s hs hl HRL.out hxl hcl HKL.out.1 HKL.out.2.1 HKL.out.2.2).mono ?_
  rw [HP.out, HO.out]
  rintro e v9 ⟨qa, qb, qc, rfl, hq, hb⟩
  obtain ⟨a1, c1, a2, c2, a3, c3, hsh, _⟩ := hq.toIn.parts
  simp only [Value.agg.injEq, Array.mk.injEq, List.cons.injEq, and_true] at hsh
  obtain ⟨rfl, rfl, rfl⟩ := hsh
  have HB_9 := Lib.hid (bt HB4.out hb)
  have hz9 := Z4.out.below hb
  have lz9 := Z4.out.lt
  have lb4 := HB4.out.size
  have AQ := Lib.hid hq
  have Z_9 := Lib.hid hz9
  clear hq hb hz9 y0 y1 y2 g0 g1 g2
  obtain ⟨y0, y1, y2, yf⟩ := Z_9.out
  have yf0 := yf 0
  have yf1 := yf 1
  have yf2 := yf 2
  clear yf
  go_wp2
  (try simp only [Exit.inBlock, Exit.then])
  refine bodyPost_ret (v := .tuple #[.agg #[.slice a1 p.c.length c1, .slice a2 p.h.length c2, .slice a3 p.r.length c3], .bool ok]) ?_ rfl ?_
  · rw [results_cell_tmp rfl]; go_simp
  · have hm5 := mid3 v9 (w.heap.size + 1) (.slice a1 p.c.length c1) (.slice a2 p.h.length c2) (.slice a3 p.r.length c3)
    have h1 := OwQ.mid AQ.out hm5 (.inr (by omega))
    exact ⟨_, _, _, rfl, OwQ.wide h1 (by omega) hm5.size, HB_9.out.trans (hm5.toBelow (by omega) HB_9.out.size)⟩

set_option maxRecDepth 100000 in
set_option maxHeartbeats 3200000 in
theorem sProvK_any (P Q G a x c : Int) (s : ByteArray) (hs : s.size ≤ 1048576) (w : World) :
    Calls Try.prog 42 #[gv P Q G, .string s, .int .i64 a, .int .i64 x, .int .i64 c] w (AnsN w (plV P Q G s [[a]] [x] [c]) (plB P Q G s [[a]] [x] [c])) := by
  have G_0 := Lib.hid ((gr_new w P Q G 32).below (ba _ (.cells #[.slice none 0 0, .slice none 0 0, .slice none 0 0] 36)))
  have hb3 := b3_new (w.alloc (.cells #[.int .i64 P, .int .i64 Q, .int .i64 G] 32)) (.slice none 0 0) (.slice none 0 0) (.slice none 0 0) 36
  rw [show (w.alloc (.cells #[.int .i64 P, .int .i64 Q, .int .i64 G] 32)).heap.size = w.heap.size + 1 by simp] at hb3
  have Z_0 := Lib.hid hb3
  have HB_0 := Lib.hid (bt (ba w (.cells #[.int .i64 P, .int .i64 Q, .int .i64 G] 32)) (ba _ (.cells #[.slice none 0 0, .slice none 0 0, .slice none 0 0] 36)))
  clear hb3
  generalize hrs : ([[a]] : List (List Int)) = rs
  generalize hxs : ([x] : List Int) = xs
  generalize hcs : ([c] : List Int) = cs
  have HRS := Lib.hid hrs
  have HXS := Lib.hid hxs
  have HCS := Lib.hid hcs
  clear hrs hxs hcs
  obtain ⟨p, hp⟩ : ∃ p, plV P Q G s rs xs cs = p := ⟨_, rfl⟩
  obtain ⟨ok, hk0⟩ : ∃ k, plB P Q G s rs xs cs = k := ⟨_, rfl⟩
  have HP := Lib.hid hp
  have HO := Lib.hid hk0
  rw [hp, hk0]
  clear hp hk0
  have hl : rs.length ≤ 1048576 := by rw [← HRS.out]; simp
  have hxl : xs.length ≤ 1048576 := by rw [← HXS.out]; simp
  have hcl : cs.length ≤ 1048576 := by rw [← HCS.out]; simp
  have HRL := Lib.hid (show ∀ z ∈ rs, z.length ≤ 17592186044416 from by rw [← HRS.out]; intro z hz; rw [List.mem_singleton.1 hz]; simp)
  go_enter Try.func42, Try.ntmps42
  generalize hW : (w.alloc (.cells #[.int .i64 P, .int .i64 Q, .int .i64 G] 32)).alloc (.cells #[.slice none 0 0, .slice none 0 0, .slice none 0 0] 36) = W at *
  have HB4 := Lib.hid (bt HB_0.out (bt (bt (bt (ba W (.cells #[.int .i64 a] 3)) (ba _ (.cells #[.slice (some ⟨W.heap.size, 0, none⟩) 1 1] 25))) (ba _ (.cells #[.int .i64 x] 3))) (ba _ (.cells #[.int .i64 c] 3))))
  have Z4 := Lib.hid (Z_0.out.below (bt (bt (bt (ba W (.cells #[.int .i64 a] 3)) (ba _ (.cells #[.slice (some ⟨W.heap.size, 0, none⟩) 1 1] 25))) (ba _ (.cells #[.int .i64 x] 3))) (ba _ (.cells #[.int .i64 c] 3))))
  have hk := know4_lit W a x c 3 25 3 3
  rw [HRS.out, HXS.out, HCS.out] at hk
  have HKL := Lib.hid hk
  clear hk
  obtain ⟨g0, g1, g2⟩ := G_0.out
  obtain ⟨y0, y1, y2, _⟩ := Z4.out
  go_wp2_with fail
  refine (sProvL_any P Q G s hs hl HRL.out hxl hcl HKL.out.1 HKL.out.2.1 HKL.out.2.2).mono ?_
  rw [HP.out, HO.out]
  rintro e v9 ⟨qa, qb, qc, rfl, hq, hb⟩
  obtain ⟨a1, c1, a2, c2, a3, c3, hsh, _⟩ := hq.toIn.parts
  simp only [Value.agg.injEq, Array.mk.injEq, List.cons.injEq, and_true] at hsh
  obtain ⟨rfl, rfl, rfl⟩ := hsh
  have HB_9 := Lib.hid (bt HB4.out hb)
  have hz9 := Z4.out.below hb
  have lz9 := Z4.out.lt
  have lb4 := HB4.out.size
  have AQ := Lib.hid hq
  have Z_9 := Lib.hid hz9
  clear hq hb hz9 y0 y1 y2 g0 g1 g2
  obtain ⟨y0, y1, y2, yf⟩ := Z_9.out
  have yf0 := yf 0
  have yf1 := yf 1
  have yf2 := yf 2
  clear yf
  go_wp2
  (try simp only [Exit.inBlock, Exit.then])
  refine bodyPost_ret (v := .tuple #[.agg #[.slice a1 p.c.length c1, .slice a2 p.h.length c2, .slice a3 p.r.length c3], .bool ok]) ?_ rfl ?_
  · rw [results_cell_tmp rfl]; go_simp
  · have hm5 := mid3 v9 (w.heap.size + 1) (.slice a1 p.c.length c1) (.slice a2 p.h.length c2) (.slice a3 p.r.length c3)
    have h1 := OwP.mid AQ.out hm5 (.inr (by omega))
    exact ⟨_, _, _, rfl, OwP.wide h1 (by omega) hm5.size, HB_9.out.trans (hm5.toBelow (by omega) HB_9.out.size)⟩

end Go.Proofs.Ytlgdcfficemebaa

/- Sigma proofs: ProveEqual of both. -/
namespace Go.Proofs.Ytlgdcfficemebaa
open Go.RowKit
set_option linter.unusedVariables false
set_option linter.unusedSimpArgs false


/-! ### ProveEqual -/
def peB (P Q G : Int) (s : ByteArray) (a b c d x cn : Int) : Bool := teV P Q G a b c d x && plB P Q G s [[a], [c]] [x] [cn]
def peV (P Q G : Int) (s : ByteArray) (a b c d x cn : Int) : PrD := if peB P Q G s a b c d x cn then spP P Q G s [[a], [c]] [x] [cn] else nilP
theorem pe_off {P Q G : Int} {s : ByteArray} {a b c d x cn : Int} (h : peB P Q G s a b c d x cn = false) : peV P Q G s a b c d x cn = nilP := by simp [peV, h]
theorem pe_pl {P Q G : Int} {s : ByteArray} {a b c d x cn : Int} (h : teV P Q G a b c d x = true) : peB P Q G s a b c d x cn = plB P Q G s [[a], [c]] [x] [cn] ∧ peV P Q G s a b c d x cn = plV P Q G s [[a], [c]] [x] [cn] := by
  have e : peB P Q G s a b c d x cn = plB P Q G s [[a], [c]] [x] [cn] := by unfold peB; rw [h, Bool.true_and]
  refine ⟨e, ?_⟩
  unfold peV plV
  rw [e]
theorem pe_n (P Q G : Int) (s : ByteArray) (a b c d x cn : Int) : (peV P Q G s a b c d x cn).n ≤ 24 := by
  cases h : peB P Q G s a b c d x cn
  · rw [pe_off h]; simp [nilP, PrD.n]
  · have ht : teV P Q G a b c d x = true := by unfold peB at h; exact ((Bool.and_eq_true _ _).mp h).1
    rw [(pe_pl ht).2]; exact pl_n ..
theorem te_true {P Q G a b c d x : Int} : teV P Q G a b c d x = true ↔ goodB P Q G = true ∧ allEl P Q [a, b, c, d] = true ∧ exB Q x = true ∧ isT P a b c d x = true := by simp [teV, teB]; exact ⟨fun ⟨⟨h1, h2, h3⟩, h4⟩ => ⟨h1, h2, h3, h4⟩, fun ⟨h1, h2, h3, h4⟩ => ⟨⟨h1, h2, h3⟩, h4⟩⟩

theorem v4_mid {w w' : World} {b A B : Nat} {x y z t : Int} (h : V4 w b x y z t) (hm : Mid A B w w') (hb : b < A) : V4 w' b x y z t := by
  have hl := h.lt
  have he := hm.block b hl (.inl hb)
  obtain ⟨c0, c1, c2, c3⟩ := h
  refine ⟨?_, ?_, ?_, ?_⟩
  · rw [World.cell?_of_block (a := ⟨b, 0, none⟩) he]; exact c0
  · rw [World.cell?_of_block (a := ⟨b, 1, none⟩) he]; exact c1
  · rw [World.cell?_of_block (a := ⟨b, 2, none⟩) he]; exact c2
  · rw [World.cell?_of_block (a := ⟨b, 3, none⟩) he]; exact c3

set_option maxRecDepth 100000 in
set_option maxHeartbeats 6400000 in
theorem provE_any (P Q G a b c d x cn : Int) (s : ByteArray) (hs : s.size ≤ 1048576) (w : World) :
    Calls Try.prog 45 #[gv P Q G, .string s, ev4 a b c d, .int .i64 x, .int .i64 cn] w (AnsQ w.heap.size w (peV P Q G s a b c d x cn) (peB P Q G s a b c d x cn)) := by
  have G_0 := Lib.hid (((gr_new w P Q G 32).below (ba _ (.cells #[.int .i64 a, .int .i64 b, .int .i64 c, .int .i64 d] 47))).below (ba _ (.cells #[.slice none 0 0, .slice none 0 0, .slice none 0 0] 36)))
  have hv := v4_new (w.alloc (.cells #[.int .i64 P, .int .i64 Q, .int .i64 G] 32)) a b c d 47
  rw [show (w.alloc (.cells #[.int .i64 P, .int .i64 Q, .int .i64 G] 32)).heap.size = w.heap.size + 1 by simp] at hv
  have V_0 := Lib.hid (V4.below hv (ba _ (.cells #[.slice none 0 0, .slice none 0 0, .slice none 0 0] 36)))
  have hb3 := b3_new ((w.alloc (.cells #[.int .i64 P, .int .i64 Q, .int .i64 G] 32)).alloc (.cells #[.int .i64 a, .int .i64 b, .int .i64 c, .int .i64 d] 47)) (.slice none 0 0) (.slice none 0 0) (.slice none 0 0) 36
  rw [show ((w.alloc (.cells #[.int .i64 P, .int .i64 Q, .int .i64 G] 32)).alloc (.cells #[.int .i64 a, .int .i64 b, .int .i64 c, .int .i64 d] 47)).heap.size = w.heap.size + 2 by simp] at hb3
  have Z_0 := Lib.hid hb3
  have HB_0 := Lib.hid (bt (bt (ba w (.cells #[.int .i64 P, .int .i64 Q, .int .i64 G] 32)) (ba _ (.cells #[.int .i64 a, .int .i64 b, .int .i64 c, .int .i64 d] 47))) (ba _ (.cells #[.slice none 0 0, .slice none 0 0, .slice none 0 0] 36)))
  clear hv hb3
  obtain ⟨g0, g1, g2⟩ := G_0.out
  obtain ⟨e0, e1, e2, e3⟩ := V_0.out
  obtain ⟨y0, y1, y2, yf⟩ := Z_0.out
  have yf0 := yf 0
  have yf1 := yf 1
  have yf2 := yf 2
  obtain ⟨tb, htb⟩ : ∃ k, teB P Q G a b c d x = k := ⟨_, rfl⟩
  have HTB := Lib.hid htb
  clear htb yf
  cases ht : teV P Q G a b c d x
  · have E1 := Lib.hid (show peB P Q G s a b c d x cn = false by simp [peB, ht])
    rw [E1.out, pe_off E1.out]
    have HT := Lib.hid ht
    clear ht
    go_enter Try.func45, Try.ntmps45
    go_wp2_with fail
    refine (isTrueEqual_any P Q G a b c d x _).mono ?_
    rw [HT.out, HTB.out]
    rintro e v1 ⟨rfl, hb⟩
    have HB_1 := Lib.hid (bt HB_0.out hb)
    have Z_1 := Lib.hid (Z_0.out.below hb)
    clear hb g0 g1 g2 e0 e1 e2 e3 y0 y1 y2 yf0 yf1 yf2
    obtain ⟨y0, y1, y2, yf⟩ := Z_1.out
    have yf0 := yf 0
    have yf1 := yf 1
    have yf2 := yf 2
    clear yf
    go_wp2
    (try simp only [Exit.inBlock, Exit.then])
    refine bodyPost_ret (v := .tuple #[.agg #[.slice none 0 0, .slice none 0 0, .slice none 0 0], .bool false]) ?_ rfl ?_
    · rw [results_cell_tmp rfl]; go_simp
    · have hm5 := mid3 v1 (w.heap.size + 2) (.slice none 0 0) (.slice none 0 0) (.slice none 0 0)
      exact ⟨_, _, _, rfl, owQ_nil _ _ (Nat.le_trans HB_1.out.size hm5.size), HB_1.out.trans (hm5.toBelow (by omega) HB_1.out.size)⟩
  rw [(pe_pl ht).1, (pe_pl ht).2]
  have HT := Lib.hid ht
  clear ht
  generalize hrs : ([[a], [c]] : List (List Int)) = rs
  generalize hxs : ([x] : List Int) = xs
  generalize hcs : ([cn] : List Int) = cs
  have HRS := Lib.hid hrs
  have HXS := Lib.hid hxs
  have HCS := Lib.hid hcs
  clear hrs hxs hcs
  obtain ⟨p, hp⟩ : ∃ p, plV P Q G s rs xs cs = p := ⟨_, rfl⟩
  obtain ⟨ok, hk0⟩ : ∃ k, plB P Q G s rs xs cs = k := ⟨_, rfl⟩
  have HP := Lib.hid hp
  have HO := Lib.hid hk0
  rw [hp, hk0]
  clear hp hk0
  have hl : rs.length ≤ 1048576 := by rw [← HRS.out]; simp
  have hxl : xs.length ≤ 1048576 := by rw [← HXS.out]; simp
  have hcl : cs.length ≤ 1048576 := by rw [← HCS.out]; simp
  have HRL := Lib.hid (show ∀ z ∈ rs, z.length ≤ 17592186044416 from by rw [← HRS.out]; intro z hz; simp at hz; rcases hz with rfl | rfl <;> simp)
  have hfld : ∀ (x y : Value) (W : World), (Instr.field 92 (.agg #[x, y]) 0).run Try.prog W = .ok x W := fun _ _ _ => by kernel_rfl
  go_enter Try.func45, Try.ntmps45
  go_wp2_with fail
  refine (isTrueEqual_any P Q G a b c d x _).mono ?_
  rw [HT.out, HTB.out]
  rintro e v1 ⟨rfl, hb⟩
  have HB_1 := Lib.hid (bt HB_0.out hb)
  have G_1 := Lib.hid (G_0.out.below hb)
  have V_1 := Lib.hid (V_0.out.below hb)
  have Z_1 := Lib.hid (Z_0.out.below hb)
  clear hb g0 g1 g2 e0 e1 e2 e3 y0 y1 y2 yf0 yf1 yf2
  obtain ⟨g0, g1, g2⟩ := G_1.out
  obtain ⟨e0, e1, e2, e3⟩ := V_1.out
  go_wp2_with fail
  have hbd : Below v1.heap.size v1 v1.drew := (Below.refl _ v1).drew
  have HB_s := Lib.hid (bt HB_1.out hbd)
  have G_s := Lib.hid (G_1.out.below hbd)
  have V_s := Lib.hid (V_1.out.below hbd)
  have Z_s := Lib.hid (Z_1.out.below hbd)
  clear hbd
  refine wp_region_held_drew (S := (fun w' => (w'.cell? ⟨w.heap.size, 0, none⟩ = some (.int .i64 P) ∧ w'.cell? ⟨w.heap.size, 1, none⟩ = some (.int .i64 Q) ∧ w'.cell? ⟨w.heap.size, 2, none⟩ = some (.int .i64 G)) ∧ w'.cell? ⟨w.heap.size + 1, 0, none⟩ = some (.int .i64 a) ∧ w'.cell? ⟨w.heap.size + 1, 1, none⟩ = some (.int .i64 b) ∧ w'.cell? ⟨w.heap.size + 1, 2, none⟩ = some (.int .i64 c) ∧ w'.cell? ⟨w.heap.size + 1, 3, none⟩ = some (.int .i64 d))) (by kernel_rfl) (show _ from ⟨⟨G_1.out.1, G_1.out.2.1, G_1.out.2.2⟩, V_1.out.1, V_1.out.2.1, V_1.out.2.2.1, V_1.out.2.2.2⟩) (fun hHeld => ?_)
  generalize hW0 : v1.drew = Ws at *
  clear hW0
  refine wpAnyH_take (i := 0) (v := ?_) rfl (by kernel_rfl) (by kernel_rfl) (by kernel_rfl) (fun _ _ _ h => h) (Or.inl ⟨by kernel_rfl, ?_⟩) (by assumption) ?_
  rotate_left 1
  · intro w9 hSw
    try dsimp only at hSw
    go_simp
    try with_reducible rfl
  try simp only [Act.put, List.getElem_toArray, List.getElem_cons_succ, List.getElem_cons_zero, List.setIfInBounds_toArray, List.set_cons_zero, List.set_cons_succ]
  refine wpAnyH_take (i := 1) (v := ?_) rfl (by kernel_rfl) (by kernel_rfl) (by kernel_rfl) (fun _ _ _ h => h) (Or.inl ⟨by kernel_rfl, ?_⟩) (by assumption) ?_
  rotate_left 1
  · intro w9 hSw
    try dsimp only at hSw
    go_simp
    try with_reducible rfl
  try simp only [Act.put, List.getElem_toArray, List.getElem_cons_succ, List.getElem_cons_zero, List.setIfInBounds_toArray, List.set_cons_zero, List.set_cons_succ]
  refine wpAnyH_take (i := 2) (v := ?_) rfl (by kernel_rfl) (by kernel_rfl) (by kernel_rfl) (fun _ _ _ h => h) (Or.inl ⟨by kernel_rfl, ?_⟩) (by assumption) ?_
  rotate_left 1
  · intro w9 hSw
    try dsimp only at hSw
    go_simp
    try with_reducible rfl
  try simp only [Act.put, List.getElem_toArray, List.getElem_cons_succ, List.getElem_cons_zero, List.setIfInBounds_toArray, List.set_cons_zero, List.set_cons_succ]
  refine wpAnyH_take (i := 5) (v := ?_) rfl (by kernel_rfl) (by kernel_rfl) (by kernel_rfl) (fun _ _ _ h => h) (Or.inl ⟨by kernel_rfl, ?_⟩) (by assumption) ?_
  rotate_left 1
  · intro w9 hSw
    try dsimp only at hSw
    go_simp
    try with_reducible rfl
  try simp only [Act.put, List.getElem_toArray, List.getElem_cons_succ, List.getElem_cons_zero, List.setIfInBounds_toArray, List.set_cons_zero, List.set_cons_succ]
  refine wpAnyH_take (i := 7) (v := ?_) rfl (by kernel_rfl) (by kernel_rfl) (by kernel_rfl) (fun _ _ _ h => h) (Or.inl ⟨by kernel_rfl, ?_⟩) (by assumption) ?_
  rotate_left 1
  · intro w9 hSw
    try dsimp only at hSw
    go_simp
    try with_reducible rfl
  try simp only [Act.put, List.getElem_toArray, List.getElem_cons_succ, List.getElem_cons_zero, List.setIfInBounds_toArray, List.set_cons_zero, List.set_cons_succ]
  refine wpAnyH_ready (rs := [3, 6, 8]) (by kernel_rfl) (by simp) ?_
  refine AllReadyH.cons rfl (fun K hK => ?_) (AllReadyH.cons rfl (fun K hK => ?_) (AllReadyH.cons rfl (fun K hK => ?_) (AllReadyH.nil)))
  · go_simp
    go_at_call 69
    refine (rows_any a b c d _).mono ?_
    rintro e3 Ws3 ⟨r9, s9, rfl, hr4, hb⟩
    have HB_s3 := Lib.hid (bt HB_s.out hb)
    have G_s3 := Lib.hid (G_s.out.below hb)
    have V_s3 := Lib.hid (V_s.out.below hb)
    have Z_s3 := Lib.hid (Z_s.out.below hb)
    have RL_s3 := Lib.hid (hr4.ins).1
    clear hb hr4
    go_wp2_with fail
    refine hK.out _ _ (show _ from ⟨⟨G_s3.out.1, G_s3.out.2.1, G_s3.out.2.2⟩, V_s3.out.1, V_s3.out.2.1, V_s3.out.2.2.1, V_s3.out.2.2.2⟩) (fun hHeld => ?_)
    clear hK K
    try simp only [Act.put, List.getElem_toArray, List.getElem_cons_succ, List.getElem_cons_zero, List.setIfInBounds_toArray, List.set_cons_zero, List.set_cons_succ]
    refine wpAnyH_take (i := 4) (v := ?_) rfl (by kernel_rfl) (by kernel_rfl) (by kernel_rfl) (fun _ _ _ h => h) (Or.inl ⟨by kernel_rfl, ?_⟩) (by assumption) ?_
    rotate_left 1
    · intro w9 hSw
      try dsimp only at hSw
      go_simp
      try with_reducible rfl
    try simp only [Act.put, List.getElem_toArray, List.getElem_cons_succ, List.getElem_cons_zero, List.setIfInBounds_toArray, List.set_cons_zero, List.set_cons_succ]
    refine wpAnyH_ready (rs := [6, 8]) (by kernel_rfl) (by simp) ?_
    refine AllReadyH.cons rfl (fun K hK => ?_) (AllReadyH.cons rfl (fun K hK => ?_) (AllReadyH.nil))
    · go_simp
      have hb := ba Ws3 (.cells #[.int .i64 x] 3)
      have HB_s36 := Lib.hid (bt HB_s3.out hb)
      have G_s36 := Lib.hid (G_s3.out.below hb)
      have V_s36 := Lib.hid (V_s3.out.below hb)
      have Z_s36 := Lib.hid (Z_s3.out.below hb)
      have RL_s36 := Lib.hid (RL_s3.out.below hb)
      have XL_s36 := Lib.hid (one_in (one_new Ws3 (.int .i64 x) 3))
      clear hb
      refine hK.out _ _ (show _ from ⟨⟨G_s36.out.1, G_s36.out.2.1, G_s36.out.2.2⟩, V_s36.out.1, V_s36.out.2.1, V_s36.out.2.2.1, V_s36.out.2.2.2⟩) (fun hHeld => ?_)
      clear hK K
      try simp only [Act.put, List.getElem_toArray, List.getElem_cons_succ, List.getElem_cons_zero, List.setIfInBounds_toArray, List.set_cons_zero, List.set_cons_succ]
      generalize hW9 : Ws3.alloc (.cells #[.int .i64 x] 3) = Ws36 at *
      clear hW9
      refine wpAnyH_ready (rs := [8]) (by kernel_rfl) (by simp) ?_
      refine AllReadyH.cons rfl (fun K hK => ?_) (AllReadyH.nil)
      · go_simp
        have hb := ba Ws36 (.cells #[.int .i64 cn] 3)
        have HB_s368 := Lib.hid (bt HB_s36.out hb)
        have G_s368 := Lib.hid (G_s36.out.below hb)
        have V_s368 := Lib.hid (V_s36.out.below hb)
        have Z_s368 := Lib.hid (Z_s36.out.below hb)
        have RL_s368 := Lib.hid (RL_s36.out.below hb)
        have XL_s368 := Lib.hid (XL_s36.out.below hb)
        have CL_s368 := Lib.hid (one_in (one_new Ws36 (.int .i64 cn) 3))
        clear hb
        refine hK.out _ _ (show _ from ⟨⟨G_s368.out.1, G_s368.out.2.1, G_s368.out.2.2⟩, V_s368.out.1, V_s368.out.2.1, V_s368.out.2.2.1, V_s368.out.2.2.2⟩) (fun hHeld => ?_)
        clear hK K
        try simp only [Act.put, List.getElem_toArray, List.getElem_cons_succ, List.getElem_cons_zero, List.setIfInBounds_toArray, List.set_cons_zero, List.set_cons_succ]
        generalize hW9 : Ws36.alloc (.cells #[.int .i64 cn] 3) = Ws368 at *
        clear hW9
        refine wpAnyH_ready (rs := [9]) (by kernel_rfl) (by simp) ?_
        refine AllReadyH.cons rfl (fun K hK => ?_) AllReadyH.nil
        go_simp
        go_at_call 37
        refine (provL_any P Q G s hs hl HRL.out hxl hcl (by have h := RL_s368.out; rw [HRS.out] at h; exact h) (by have h := XL_s368.out; rw [HXS.out] at h; exact h) (by have h := CL_s368.out; rw [HCS.out] at h; exact h)).mono ?_
        rw [HP.out, HO.out]
        rintro e9 v9 ⟨qa, qb, qc, rfl, hq, hb⟩
        obtain ⟨a1, c1, a2, c2, a3, c3, rfl, rfl, rfl⟩ := hq.shape
        have HB_z := Lib.hid (bt HB_s368.out hb)
        have G_z := Lib.hid (G_s368.out.below hb)
        have V_z := Lib.hid (V_s368.out.below hb)
        have Z_z := Lib.hid (Z_s368.out.below hb)
        have lz9 := Z_s368.out.lt
        have lb9 := HB_s368.out.size
        have AQ := Lib.hid hq
        clear hq hb
        go_wp2_with fail
        refine hK.out _ _ (show _ from ⟨⟨G_z.out.1, G_z.out.2.1, G_z.out.2.2⟩, V_z.out.1, V_z.out.2.1, V_z.out.2.2.1, V_z.out.2.2.2⟩) (fun hHeld => ?_)
        clear hK K
        try simp only [Act.put, List.getElem_toArray, List.getElem_cons_succ, List.getElem_cons_zero, List.setIfInBounds_toArray, List.set_cons_zero, List.set_cons_succ]
        refine wpAnyH_take (i := 10) (v := ?_) rfl (by kernel_rfl) (by kernel_rfl) (by kernel_rfl) (fun _ _ _ h => h) (Or.inl ⟨by kernel_rfl, ?_⟩) (by assumption) ?_
        rotate_left 1
        · intro w9 hSw
          try dsimp only at hSw
          go_simp
          try with_reducible rfl
        try simp only [Act.put, List.getElem_toArray, List.getElem_cons_succ, List.getElem_cons_zero, List.setIfInBounds_toArray, List.set_cons_zero, List.set_cons_succ]
        refine wpAnyH_take (i := 11) (v := ?_) rfl (by kernel_rfl) (by kernel_rfl) (by kernel_rfl) (fun _ _ _ h => h) (Or.inl ⟨by kernel_rfl, ?_⟩) (by assumption) ?_
        rotate_left 1
        · intro w9 hSw
          try dsimp only at hSw
          go_simp
          try with_reducible rfl
        try simp only [Act.put, List.getElem_toArray, List.getElem_cons_succ, List.getElem_cons_zero, List.setIfInBounds_toArray, List.set_cons_zero, List.set_cons_succ]
        have hm5 := mid3 v9 (w.heap.size + 2) (.slice a1 p.c.length c1) (.slice a2 p.h.length c2) (.slice a3 p.r.length c3)
        have G_y := Lib.hid (G_z.out.mid hm5 (.inl (by omega)))
        have V_y := Lib.hid (v4_mid V_z.out hm5 (by omega))
        have AY := Lib.hid (AQ.out.mid hm5 (.inr (by omega)))
        have HB_y := Lib.hid (HB_z.out.trans (hm5.toBelow (by omega) HB_z.out.size))
        have hs5 := hm5.size
        clear hm5
        refine wpAnyH_ready (rs := [12]) (by kernel_rfl) (by simp) ?_
        refine AllReadyH.cons rfl (fun K hK => ?_) AllReadyH.nil
        obtain ⟨y0, y1, y2, yf⟩ := Z_z.out
        have yf0 := yf 0
        have yf1 := yf 1
        have yf2 := yf 2
        clear yf
        go_simp
        refine hK.out _ _ (show _ from ⟨⟨G_y.out.1, G_y.out.2.1, G_y.out.2.2⟩, V_y.out.1, V_y.out.2.1, V_y.out.2.2.1, V_y.out.2.2.2⟩) (fun hHeld => ?_)
        clear hK K
        try simp only [Act.put, List.getElem_toArray, List.getElem_cons_succ, List.getElem_cons_zero, List.setIfInBounds_toArray, List.set_cons_zero, List.set_cons_succ]
        refine wpAnyH_take (i := 13) (v := ?_) rfl (by kernel_rfl) (by kernel_rfl) (by kernel_rfl) (fun _ _ _ h => h) (Or.inl ⟨by kernel_rfl, ?_⟩) (by assumption) ?_
        rotate_left 1
        · intro w9 hSw
          try dsimp only at hSw
          go_simp
          try with_reducible rfl
        try simp only [Act.put, List.getElem_toArray, List.getElem_cons_succ, List.getElem_cons_zero, List.setIfInBounds_toArray, List.set_cons_zero, List.set_cons_succ]
        refine wpAnyH_done (by kernel_rfl) ?_ _
        go_wp2
        (try simp only [Exit.inBlock, Exit.then])
        refine bodyPost_ret (v := .tuple #[.agg #[.slice a1 p.c.length c1, .slice a2 p.h.length c2, .slice a3 p.r.length c3], .bool ok]) ?_ rfl ?_
        · rw [results_cell_tmp rfl]; go_simp
        · exact ⟨_, _, _, rfl, AY.out.wide (by omega) hs5 (Nat.le_refl _), HB_y.out⟩
    · go_simp
      have hb := ba Ws3 (.cells #[.int .i64 cn] 3)
      have HB_s38 := Lib.hid (bt HB_s3.out hb)
      have G_s38 := Lib.hid (G_s3.out.below hb)
      have V_s38 := Lib.hid (V_s3.out.below hb)
      have Z_s38 := Lib.hid (Z_s3.out.below hb)
      have RL_s38 := Lib.hid (RL_s3.out.below hb)
      have CL_s38 := Lib.hid (one_in (one_new Ws3 (.int .i64 cn) 3))
      clear hb
      refine hK.out _ _ (show _ from ⟨⟨G_s38.out.1, G_s38.out.2.1, G_s38.out.2.2⟩, V_s38.out.1, V_s38.out.2.1, V_s38.out.2.2.1, V_s38.out.2.2.2⟩) (fun hHeld => ?_)
      clear hK K
      try simp only [Act.put, List.getElem_toArray, List.getElem_cons_succ, List.getElem_cons_zero, List.setIfInBounds_toArray, List.set_cons_zero, List.set_cons_succ]
      generalize hW9 : Ws3.alloc (.cells #[.int .i64 cn] 3) = Ws38 at *
      clear hW9
      refine wpAnyH_ready (rs := [6]) (by kernel_rfl) (by simp) ?_
      refine AllReadyH.cons rfl (fun K hK => ?_) (AllReadyH.nil)
      · go_simp
        have hb := ba Ws38 (.cells #[.int .i64 x] 3)
        have HB_s386 := Lib.hid (bt HB_s38.out hb)
        have G_s386 := Lib.hid (G_s38.out.below hb)
        have V_s386 := Lib.hid (V_s38.out.below hb)
        have Z_s386 := Lib.hid (Z_s38.out.below hb)
        have RL_s386 := Lib.hid (RL_s38.out.below hb)
        have CL_s386 := Lib.hid (CL_s38.out.below hb)
        have XL_s386 := Lib.hid (one_in (one_new Ws38 (.int .i64 x) 3))
        clear hb
        refine hK.out _ _ (show _ from ⟨⟨G_s386.out.1, G_s386.out.2.1, G_s386.out.2.2⟩, V_s386.out.1, V_s386.out.2.1, V_s386.out.2.2.1, V_s386.out.2.2.2⟩) (fun hHeld => ?_)
        clear hK K
        try simp only [Act.put, List.getElem_toArray, List.getElem_cons_succ, List.getElem_cons_zero, List.setIfInBounds_toArray, List.set_cons_zero, List.set_cons_succ]
        generalize hW9 : Ws38.alloc (.cells #[.int .i64 x] 3) = Ws386 at *
        clear hW9
        refine wpAnyH_ready (rs := [9]) (by kernel_rfl) (by simp) ?_
        refine AllReadyH.cons rfl (fun K hK => ?_) AllReadyH.nil
        go_simp
        go_at_call 37
        refine (provL_any P Q G s hs hl HRL.out hxl hcl (by have h := RL_s386.out; rw [HRS.out] at h; exact h) (by have h := XL_s386.out; rw [HXS.out] at h; exact h) (by have h := CL_s386.out; rw [HCS.out] at h; exact h)).mono ?_
        rw [HP.out, HO.out]
        rintro e9 v9 ⟨qa, qb, qc, rfl, hq, hb⟩
        obtain ⟨a1, c1, a2, c2, a3, c3, rfl, rfl, rfl⟩ := hq.shape
        have HB_z := Lib.hid (bt HB_s386.out hb)
        have G_z := Lib.hid (G_s386.out.below hb)
        have V_z := Lib.hid (V_s386.out.below hb)
        have Z_z := Lib.hid (Z_s386.out.below hb)
        have lz9 := Z_s386.out.lt
        have lb9 := HB_s386.out.size
        have AQ := Lib.hid hq
        clear hq hb
        go_wp2_with fail
        refine hK.out _ _ (show _ from ⟨⟨G_z.out.1, G_z.out.2.1, G_z.out.2.2⟩, V_z.out.1, V_z.out.2.1, V_z.out.2.2.1, V_z.out.2.2.2⟩) (fun hHeld => ?_)
        clear hK K
        try simp only [Act.put, List.getElem_toArray, List.getElem_cons_succ, List.getElem_cons_zero, List.setIfInBounds_toArray, List.set_cons_zero, List.set_cons_succ]
        refine wpAnyH_take (i := 10) (v := ?_) rfl (by kernel_rfl) (by kernel_rfl) (by kernel_rfl) (fun _ _ _ h => h) (Or.inl ⟨by kernel_rfl, ?_⟩) (by assumption) ?_
        rotate_left 1
        · intro w9 hSw
          try dsimp only at hSw
          go_simp
          try with_reducible rfl
        try simp only [Act.put, List.getElem_toArray, List.getElem_cons_succ, List.getElem_cons_zero, List.setIfInBounds_toArray, List.set_cons_zero, List.set_cons_succ]
        refine wpAnyH_take (i := 11) (v := ?_) rfl (by kernel_rfl) (by kernel_rfl) (by kernel_rfl) (fun _ _ _ h => h) (Or.inl ⟨by kernel_rfl, ?_⟩) (by assumption) ?_
        rotate_left 1
        · intro w9 hSw
          try dsimp only at hSw
          go_simp
          try with_reducible rfl
        try simp only [Act.put, List.getElem_toArray, List.getElem_cons_succ, List.getElem_cons_zero, List.setIfInBounds_toArray, List.set_cons_zero, List.set_cons_succ]
        have hm5 := mid3 v9 (w.heap.size + 2) (.slice a1 p.c.length c1) (.slice a2 p.h.length c2) (.slice a3 p.r.length c3)
        have G_y := Lib.hid (G_z.out.mid hm5 (.inl (by omega)))
        have V_y := Lib.hid (v4_mid V_z.out hm5 (by omega))
        have AY := Lib.hid (AQ.out.mid hm5 (.inr (by omega)))
        have HB_y := Lib.hid (HB_z.out.trans (hm5.toBelow (by omega) HB_z.out.size))
        have hs5 := hm5.size
        clear hm5
        refine wpAnyH_ready (rs := [12]) (by kernel_rfl) (by simp) ?_
        refine AllReadyH.cons rfl (fun K hK => ?_) AllReadyH.nil
        obtain ⟨y0, y1, y2, yf⟩ := Z_z.out
        have yf0 := yf 0
        have yf1 := yf 1
        have yf2 := yf 2
        clear yf
        go_simp
        refine hK.out _ _ (show _ from ⟨⟨G_y.out.1, G_y.out.2.1, G_y.out.2.2⟩, V_y.out.1, V_y.out.2.1, V_y.out.2.2.1, V_y.out.2.2.2⟩) (fun hHeld => ?_)
        clear hK K
        try simp only [Act.put, List.getElem_toArray, List.getElem_cons_succ, List.getElem_cons_zero, List.setIfInBounds_toArray, List.set_cons_zero, List.set_cons_succ]
        refine wpAnyH_take (i := 13) (v := ?_) rfl (by kernel_rfl) (by kernel_rfl) (by kernel_rfl) (fun _ _ _ h => h) (Or.inl ⟨by kernel_rfl, ?_⟩) (by assumption) ?_
        rotate_left 1
        · intro w9 hSw
          try dsimp only at hSw
          go_simp
          try with_reducible rfl
        try simp only [Act.put, List.getElem_toArray, List.getElem_cons_succ, List.getElem_cons_zero, List.setIfInBounds_toArray, List.set_cons_zero, List.set_cons_succ]
        refine wpAnyH_done (by kernel_rfl) ?_ _
        go_wp2
        (try simp only [Exit.inBlock, Exit.then])
        refine bodyPost_ret (v := .tuple #[.agg #[.slice a1 p.c.length c1, .slice a2 p.h.length c2, .slice a3 p.r.length c3], .bool ok]) ?_ rfl ?_
        · rw [results_cell_tmp rfl]; go_simp
        · exact ⟨_, _, _, rfl, AY.out.wide (by omega) hs5 (Nat.le_refl _), HB_y.out⟩
  · go_simp
    have hb := ba Ws (.cells #[.int .i64 x] 3)
    have HB_s6 := Lib.hid (bt HB_s.out hb)
    have G_s6 := Lib.hid (G_s.out.below hb)
    have V_s6 := Lib.hid (V_s.out.below hb)
    have Z_s6 := Lib.hid (Z_s.out.below hb)
    have XL_s6 := Lib.hid (one_in (one_new Ws (.int .i64 x) 3))
    clear hb
    refine hK.out _ _ (show _ from ⟨⟨G_s6.out.1, G_s6.out.2.1, G_s6.out.2.2⟩, V_s6.out.1, V_s6.out.2.1, V_s6.out.2.2.1, V_s6.out.2.2.2⟩) (fun hHeld => ?_)
    clear hK K
    try simp only [Act.put, List.getElem_toArray, List.getElem_cons_succ, List.getElem_cons_zero, List.setIfInBounds_toArray, List.set_cons_zero, List.set_cons_succ]
    generalize hW9 : Ws.alloc (.cells #[.int .i64 x] 3) = Ws6 at *
    clear hW9
    refine wpAnyH_ready (rs := [3, 8]) (by kernel_rfl) (by simp) ?_
    refine AllReadyH.cons rfl (fun K hK => ?_) (AllReadyH.cons rfl (fun K hK => ?_) (AllReadyH.nil))
    · go_simp
      go_at_call 69
      refine (rows_any a b c d _).mono ?_
      rintro e3 Ws63 ⟨r9, s9, rfl, hr4, hb⟩
      have HB_s63 := Lib.hid (bt HB_s6.out hb)
      have G_s63 := Lib.hid (G_s6.out.below hb)
      have V_s63 := Lib.hid (V_s6.out.below hb)
      have Z_s63 := Lib.hid (Z_s6.out.below hb)
      have XL_s63 := Lib.hid (XL_s6.out.below hb)
      have RL_s63 := Lib.hid (hr4.ins).1
      clear hb hr4
      go_wp2_with fail
      refine hK.out _ _ (show _ from ⟨⟨G_s63.out.1, G_s63.out.2.1, G_s63.out.2.2⟩, V_s63.out.1, V_s63.out.2.1, V_s63.out.2.2.1, V_s63.out.2.2.2⟩) (fun hHeld => ?_)
      clear hK K
      try simp only [Act.put, List.getElem_toArray, List.getElem_cons_succ, List.getElem_cons_zero, List.setIfInBounds_toArray, List.set_cons_zero, List.set_cons_succ]
      refine wpAnyH_take (i := 4) (v := ?_) rfl (by kernel_rfl) (by kernel_rfl) (by kernel_rfl) (fun _ _ _ h => h) (Or.inl ⟨by kernel_rfl, ?_⟩) (by assumption) ?_
      rotate_left 1
      · intro w9 hSw
        try dsimp only at hSw
        go_simp
        try with_reducible rfl
      try simp only [Act.put, List.getElem_toArray, List.getElem_cons_succ, List.getElem_cons_zero, List.setIfInBounds_toArray, List.set_cons_zero, List.set_cons_succ]
      refine wpAnyH_ready (rs := [8]) (by kernel_rfl) (by simp) ?_
      refine AllReadyH.cons rfl (fun K hK => ?_) (AllReadyH.nil)
      · go_simp
        have hb := ba Ws63 (.cells #[.int .i64 cn] 3)
        have HB_s638 := Lib.hid (bt HB_s63.out hb)
        have G_s638 := Lib.hid (G_s63.out.below hb)
        have V_s638 := Lib.hid (V_s63.out.below hb)
        have Z_s638 := Lib.hid (Z_s63.out.below hb)
        have XL_s638 := Lib.hid (XL_s63.out.below hb)
        have RL_s638 := Lib.hid (RL_s63.out.below hb)
        have CL_s638 := Lib.hid (one_in (one_new Ws63 (.int .i64 cn) 3))
        clear hb
        refine hK.out _ _ (show _ from ⟨⟨G_s638.out.1, G_s638.out.2.1, G_s638.out.2.2⟩, V_s638.out.1, V_s638.out.2.1, V_s638.out.2.2.1, V_s638.out.2.2.2⟩) (fun hHeld => ?_)
        clear hK K
        try simp only [Act.put, List.getElem_toArray, List.getElem_cons_succ, List.getElem_cons_zero, List.setIfInBounds_toArray, List.set_cons_zero, List.set_cons_succ]
        generalize hW9 : Ws63.alloc (.cells #[.int .i64 cn] 3) = Ws638 at *
        clear hW9
        refine wpAnyH_ready (rs := [9]) (by kernel_rfl) (by simp) ?_
        refine AllReadyH.cons rfl (fun K hK => ?_) AllReadyH.nil
        go_simp
        go_at_call 37
        refine (provL_any P Q G s hs hl HRL.out hxl hcl (by have h := RL_s638.out; rw [HRS.out] at h; exact h) (by have h := XL_s638.out; rw [HXS.out] at h; exact h) (by have h := CL_s638.out; rw [HCS.out] at h; exact h)).mono ?_
        rw [HP.out, HO.out]
        rintro e9 v9 ⟨qa, qb, qc, rfl, hq, hb⟩
        obtain ⟨a1, c1, a2, c2, a3, c3, rfl, rfl, rfl⟩ := hq.shape
        have HB_z := Lib.hid (bt HB_s638.out hb)
        have G_z := Lib.hid (G_s638.out.below hb)
        have V_z := Lib.hid (V_s638.out.below hb)
        have Z_z := Lib.hid (Z_s638.out.below hb)
        have lz9 := Z_s638.out.lt
        have lb9 := HB_s638.out.size
        have AQ := Lib.hid hq
        clear hq hb
        go_wp2_with fail
        refine hK.out _ _ (show _ from ⟨⟨G_z.out.1, G_z.out.2.1, G_z.out.2.2⟩, V_z.out.1, V_z.out.2.1, V_z.out.2.2.1, V_z.out.2.2.2⟩) (fun hHeld => ?_)
        clear hK K
        try simp only [Act.put, List.getElem_toArray, List.getElem_cons_succ, List.getElem_cons_zero, List.setIfInBounds_toArray, List.set_cons_zero, List.set_cons_succ]
        refine wpAnyH_take (i := 10) (v := ?_) rfl (by kernel_rfl) (by kernel_rfl) (by kernel_rfl) (fun _ _ _ h => h) (Or.inl ⟨by kernel_rfl, ?_⟩) (by assumption) ?_
        rotate_left 1
        · intro w9 hSw
          try dsimp only at hSw
          go_simp
          try with_reducible rfl
        try simp only [Act.put, List.getElem_toArray, List.getElem_cons_succ, List.getElem_cons_zero, List.setIfInBounds_toArray, List.set_cons_zero, List.set_cons_succ]
        refine wpAnyH_take (i := 11) (v := ?_) rfl (by kernel_rfl) (by kernel_rfl) (by kernel_rfl) (fun _ _ _ h => h) (Or.inl ⟨by kernel_rfl, ?_⟩) (by assumption) ?_
        rotate_left 1
        · intro w9 hSw
          try dsimp only at hSw
          go_simp
          try with_reducible rfl
        try simp only [Act.put, List.getElem_toArray, List.getElem_cons_succ, List.getElem_cons_zero, List.setIfInBounds_toArray, List.set_cons_zero, List.set_cons_succ]
        have hm5 := mid3 v9 (w.heap.size + 2) (.slice a1 p.c.length c1) (.slice a2 p.h.length c2) (.slice a3 p.r.length c3)
        have G_y := Lib.hid (G_z.out.mid hm5 (.inl (by omega)))
        have V_y := Lib.hid (v4_mid V_z.out hm5 (by omega))
        have AY := Lib.hid (AQ.out.mid hm5 (.inr (by omega)))
        have HB_y := Lib.hid (HB_z.out.trans (hm5.toBelow (by omega) HB_z.out.size))
        have hs5 := hm5.size
        clear hm5
        refine wpAnyH_ready (rs := [12]) (by kernel_rfl) (by simp) ?_
        refine AllReadyH.cons rfl (fun K hK => ?_) AllReadyH.nil
        obtain ⟨y0, y1, y2, yf⟩ := Z_z.out
        have yf0 := yf 0
        have yf1 := yf 1
        have yf2 := yf 2
        clear yf
        go_simp
        refine hK.out _ _ (show _ from ⟨⟨G_y.out.1, G_y.out.2.1, G_y.out.2.2⟩, V_y.out.1, V_y.out.2.1, V_y.out.2.2.1, V_y.out.2.2.2⟩) (fun hHeld => ?_)
        clear hK K
        try simp only [Act.put, List.getElem_toArray, List.getElem_cons_succ, List.getElem_cons_zero, List.setIfInBounds_toArray, List.set_cons_zero, List.set_cons_succ]
        refine wpAnyH_take (i := 13) (v := ?_) rfl (by kernel_rfl) (by kernel_rfl) (by kernel_rfl) (fun _ _ _ h => h) (Or.inl ⟨by kernel_rfl, ?_⟩) (by assumption) ?_
        rotate_left 1
        · intro w9 hSw
          try dsimp only at hSw
          go_simp
          try with_reducible rfl
        try simp only [Act.put, List.getElem_toArray, List.getElem_cons_succ, List.getElem_cons_zero, List.setIfInBounds_toArray, List.set_cons_zero, List.set_cons_succ]
        refine wpAnyH_done (by kernel_rfl) ?_ _
        go_wp2
        (try simp only [Exit.inBlock, Exit.then])
        refine bodyPost_ret (v := .tuple #[.agg #[.slice a1 p.c.length c1, .slice a2 p.h.length c2, .slice a3 p.r.length c3], .bool ok]) ?_ rfl ?_
        · rw [results_cell_tmp rfl]; go_simp
        · exact ⟨_, _, _, rfl, AY.out.wide (by omega) hs5 (Nat.le_refl _), HB_y.out⟩
    · go_simp
      have hb := ba Ws6 (.cells #[.int .i64 cn] 3)
      have HB_s68 := Lib.hid (bt HB_s6.out hb)
      have G_s68 := Lib.hid (G_s6.out.below hb)
      have V_s68 := Lib.hid (V_s6.out.below hb)
      have Z_s68 := Lib.hid (Z_s6.out.below hb)
      have XL_s68 := Lib.hid (XL_s6.out.below hb)
      have CL_s68 := Lib.hid (one_in (one_new Ws6 (.int .i64 cn) 3))
      clear hb
      refine hK.out _ _ (show _ from ⟨⟨G_s68.out.1, G_s68.out.2.1, G_s68.out.2.2⟩, V_s68.out.1, V_s68.out.2.1, V_s68.out.2.2.1, V_s68.out.2.2.2⟩) (fun hHeld => ?_)
      clear hK K
      try simp only [Act.put, List.getElem_toArray, List.getElem_cons_succ, List.getElem_cons_zero, List.setIfInBounds_toArray, List.set_cons_zero, List.set_cons_succ]
      generalize hW9 : Ws6.alloc (.cells #[.int .i64 cn] 3) = Ws68 at *
      clear hW9
      refine wpAnyH_ready (rs := [3]) (by kernel_rfl) (by simp) ?_
      refine AllReadyH.cons rfl (fun K hK => ?_) (AllReadyH.nil)
      · go_simp
        go_at_call 69
        refine (rows_any a b c d _).mono ?_
        rintro e3 Ws683 ⟨r9, s9, rfl, hr4, hb⟩
        have HB_s683 := Lib.hid (bt HB_s68.out hb)
        have G_s683 := Lib.hid (G_s68.out.below hb)
        have V_s683 := Lib.hid (V_s68.out.below hb)
        have Z_s683 := Lib.hid (Z_s68.out.below hb)
        have XL_s683 := Lib.hid (XL_s68.out.below hb)
        have CL_s683 := Lib.hid (CL_s68.out.below hb)
        have RL_s683 := Lib.hid (hr4.ins).1
        clear hb hr4
        go_wp2_with fail
        refine hK.out _ _ (show _ from ⟨⟨G_s683.out.1, G_s683.out.2.1, G_s683.out.2.2⟩, V_s683.out.1, V_s683.out.2.1, V_s683.out.2.2.1, V_s683.out.2.2.2⟩) (fun hHeld => ?_)
        clear hK K
        try simp only [Act.put, List.getElem_toArray, List.getElem_cons_succ, List.getElem_cons_zero, List.setIfInBounds_toArray, List.set_cons_zero, List.set_cons_succ]
        refine wpAnyH_take (i := 4) (v := ?_) rfl (by kernel_rfl) (by kernel_rfl) (by kernel_rfl) (fun _ _ _ h => h) (Or.inl ⟨by kernel_rfl, ?_⟩) (by assumption) ?_
        rotate_left 1
        · intro w9 hSw
          try dsimp only at hSw
          go_simp
          try with_reducible rfl
        try simp only [Act.put, List.getElem_toArray, List.getElem_cons_succ, List.getElem_cons_zero, List.setIfInBounds_toArray, List.set_cons_zero, List.set_cons_succ]
        refine wpAnyH_ready (rs := [9]) (by kernel_rfl) (by simp) ?_
        refine AllReadyH.cons rfl (fun K hK => ?_) AllReadyH.nil
        go_simp
        go_at_call 37
        refine (provL_any P Q G s hs hl HRL.out hxl hcl (by have h := RL_s683.out; rw [HRS.out] at h; exact h) (by have h := XL_s683.out; rw [HXS.out] at h; exact h) (by have h := CL_s683.out; rw [HCS.out] at h; exact h)).mono ?_
        rw [HP.out, HO.out]
        rintro e9 v9 ⟨qa, qb, qc, rfl, hq, hb⟩
        obtain ⟨a1, c1, a2, c2, a3, c3, rfl, rfl, rfl⟩ := hq.shape
        have HB_z := Lib.hid (bt HB_s683.out hb)
        have G_z := Lib.hid (G_s683.out.below hb)
        have V_z := Lib.hid (V_s683.out.below hb)
        have Z_z := Lib.hid (Z_s683.out.below hb)
        have lz9 := Z_s683.out.lt
        have lb9 := HB_s683.out.size
        have AQ := Lib.hid hq
        clear hq hb
        go_wp2_with fail
        refine hK.out _ _ (show _ from ⟨⟨G_z.out.1, G_z.out.2.1, G_z.out.2.2⟩, V_z.out.1, V_z.out.2.1, V_z.out.2.2.1, V_z.out.2.2.2⟩) (fun hHeld => ?_)
        clear hK K
        try simp only [Act.put, List.getElem_toArray, List.getElem_cons_succ, List.getElem_cons_zero, List.setIfInBounds_toArray, List.set_cons_zero, List.set_cons_succ]
        refine wpAnyH_take (i := 10) (v := ?_) rfl (by kernel_rfl) (by kernel_rfl) (by kernel_rfl) (fun _ _ _ h => h) (Or.inl ⟨by kernel_rfl, ?_⟩) (by assumption) ?_
        rotate_left 1
        · intro w9 hSw
          try dsimp only at hSw
          go_simp
          try with_reducible rfl
        try simp only [Act.put, List.getElem_toArray, List.getElem_cons_succ, List.getElem_cons_zero, List.setIfInBounds_toArray, List.set_cons_zero, List.set_cons_succ]
        refine wpAnyH_take (i := 11) (v := ?_) rfl (by kernel_rfl) (by kernel_rfl) (by kernel_rfl) (fun _ _ _ h => h) (Or.inl ⟨by kernel_rfl, ?_⟩) (by assumption) ?_
        rotate_left 1
        · intro w9 hSw
          try dsimp only at hSw
          go_simp
          try with_reducible rfl
        try simp only [Act.put, List.getElem_toArray, List.getElem_cons_succ, List.getElem_cons_zero, List.setIfInBounds_toArray, List.set_cons_zero, List.set_cons_succ]
        have hm5 := mid3 v9 (w.heap.size + 2) (.slice a1 p.c.length c1) (.slice a2 p.h.length c2) (.slice a3 p.r.length c3)
        have G_y := Lib.hid (G_z.out.mid hm5 (.inl (by omega)))
        have V_y := Lib.hid (v4_mid V_z.out hm5 (by omega))
        have AY := Lib.hid (AQ.out.mid hm5 (.inr (by omega)))
        have HB_y := Lib.hid (HB_z.out.trans (hm5.toBelow (by omega) HB_z.out.size))
        have hs5 := hm5.size
        clear hm5
        refine wpAnyH_ready (rs := [12]) (by kernel_rfl) (by simp) ?_
        refine AllReadyH.cons rfl (fun K hK => ?_) AllReadyH.nil
        obtain ⟨y0, y1, y2, yf⟩ := Z_z.out
        have yf0 := yf 0
        have yf1 := yf 1
        have yf2 := yf 2
        clear yf
        go_simp
        refine hK.out _ _ (show _ from ⟨⟨G_y.out.1, G_y.out.2.1, G_y.out.2.2⟩, V_y.out.1, V_y.out.2.1, V_y.out.2.2.1, V_y.out.2.2.2⟩) (fun hHeld => ?_)
        clear hK K
        try simp only [Act.put, List.getElem_toArray, List.getElem_cons_succ, List.getElem_cons_zero, List.setIfInBounds_toArray, List.set_cons_zero, List.set_cons_succ]
        refine wpAnyH_take (i := 13) (v := ?_) rfl (by kernel_rfl) (by kernel_rfl) (by kernel_rfl) (fun _ _ _ h => h) (Or.inl ⟨by kernel_rfl, ?_⟩) (by assumption) ?_
        rotate_left 1
        · intro w9 hSw
          try dsimp only at hSw
          go_simp
          try with_reducible rfl
        try simp only [Act.put, List.getElem_toArray, List.getElem_cons_succ, List.getElem_cons_zero, List.setIfInBounds_toArray, List.set_cons_zero, List.set_cons_succ]
        refine wpAnyH_done (by kernel_rfl) ?_ _
        go_wp2
        (try simp only [Exit.inBlock, Exit.then])
        refine bodyPost_ret (v := .tuple #[.agg #[.slice a1 p.c.length c1, .slice a2 p.h.length c2, .slice a3 p.r.length c3], .bool ok]) ?_ rfl ?_
        · rw [results_cell_tmp rfl]; go_simp
        · exact ⟨_, _, _, rfl, AY.out.wide (by omega) hs5 (Nat.le_refl _), HB_y.out⟩
  · go_simp
    have hb := ba Ws (.cells #[.int .i64 cn] 3)
    have HB_s8 := Lib.hid (bt HB_s.out hb)
    have G_s8 := Lib.hid (G_s.out.below hb)
    have V_s8 := Lib.hid (V_s.out.below hb)
    have Z_s8 := Lib.hid (Z_s.out.below hb)
    have CL_s8 := Lib.hid (one_in (one_new Ws (.int .i64 cn) 3))
    clear hb
    refine hK.out _ _ (show _ from ⟨⟨G_s8.out.1, G_s8.out.2.1, G_s8.out.2.2⟩, V_s8.out.1, V_s8.out.2.1, V_s8.out.2.2.1, V_s8.out.2.2.2⟩) (fun hHeld => ?_)
    clear hK K
    try simp only [Act.put, List.getElem_toArray, List.getElem_cons_succ, List.getElem_cons_zero, List.setIfInBounds_toArray, List.set_cons_zero, List.set_cons_succ]
    generalize hW9 : Ws.alloc (.cells #[.int .i64 cn] 3) = Ws8 at *
    clear hW9
    refine wpAnyH_ready (rs := [3, 6]) (by kernel_rfl) (by simp) ?_
    refine AllReadyH.cons rfl (fun K hK => ?_) (AllReadyH.cons rfl (fun K hK => ?_) (AllReadyH.nil))
    · go_simp
      go_at_call 69
      refine (rows_any a b c d _).mono ?_
      rintro e3 Ws83 ⟨r9, s9, rfl, hr4, hb⟩
      have HB_s83 := Lib.hid (bt HB_s8.out hb)
      have G_s83 := Lib.hid (G_s8.out.below hb)
      have V_s83 := Lib.hid (V_s8.out.below hb)
      have Z_s83 := Lib.hid (Z_s8.out.below hb)
      have CL_s83 := Lib.hid (CL_s8.out.below hb)
      have RL_s83 := Lib.hid (hr4.ins).1
      clear hb hr4
      go_wp2_with fail
      refine hK.out _ _ (show _ from ⟨⟨G_s83.out.1, G_s83.out.2.1, G_s83.out.2.2⟩, V_s83.out.1, V_s83.out.2.1, V_s83.out.2.2.1, V_s83.out.2.2.2⟩) (fun hHeld => ?_)
      clear hK K
      try simp only [Act.put, List.getElem_toArray, List.getElem_cons_succ, List.getElem_cons_zero, List.setIfInBounds_toArray, List.set_cons_zero, List.set_cons_succ]
      refine wpAnyH_take (i := 4) (v := ?_) rfl (by kernel_rfl) (by kernel_rfl) (by kernel_rfl) (fun _ _ _ h => h) (Or.inl ⟨by kernel_rfl, ?_⟩) (by assumption) ?_
      rotate_left 1
      · intro w9 hSw
        try dsimp only at hSw
        go_simp
        try with_reducible rfl
      try simp only [Act.put, List.getElem_toArray, List.getElem_cons_succ, List.getElem_cons_zero, List.setIfInBounds_toArray, List.set_cons_zero, List.set_cons_succ]
      refine wpAnyH_ready (rs := [6]) (by kernel_rfl) (by simp) ?_
      refine AllReadyH.cons rfl (fun K hK => ?_) (AllReadyH.nil)
      · go_simp
        have hb := ba Ws83 (.cells #[.int .i64 x] 3)
        have HB_s836 := Lib.hid (bt HB_s83.out hb)
        have G_s836 := Lib.hid (G_s83.out.below hb)
        have V_s836 := Lib.hid (V_s83.out.below hb)
        have Z_s836 := Lib.hid (Z_s83.out.below hb)
        have CL_s836 := Lib.hid (CL_s83.out.below hb)
        have RL_s836 := Lib.hid (RL_s83.out.below hb)
        have XL_s836 := Lib.hid (one_in (one_new Ws83 (.int .i64 x) 3))
        clear hb
        refine hK.out _ _ (show _ from ⟨⟨G_s836.out.1, G_s836.out.2.1, G_s836.out.2.2⟩, V_s836.out.1, V_s836.out.2.1, V_s836.out.2.2.1, V_s836.out.2.2.2⟩) (fun hHeld => ?_)
        clear hK K
        try simp only [Act.put, List.getElem_toArray, List.getElem_cons_succ, List.getElem_cons_zero, List.setIfInBounds_toArray, List.set_cons_zero, List.set_cons_succ]
        generalize hW9 : Ws83.alloc (.cells #[.int .i64 x] 3) = Ws836 at *
        clear hW9
        refine wpAnyH_ready (rs := [9]) (by kernel_rfl) (by simp) ?_
        refine AllReadyH.cons rfl (fun K hK => ?_) AllReadyH.nil
        go_simp
        go_at_call 37
        refine (provL_any P Q G s hs hl HRL.out hxl hcl (by have h := RL_s836.out; rw [HRS.out] at h; exact h) (by have h := XL_s836.out; rw [HXS.out] at h; exact h) (by have h := CL_s836.out; rw [HCS.out] at h; exact h)).mono ?_
        rw [HP.out, HO.out]
        rintro e9 v9 ⟨qa, qb, qc, rfl, hq, hb⟩
        obtain ⟨a1, c1, a2, c2, a3, c3, rfl, rfl, rfl⟩ := hq.shape
        have HB_z := Lib.hid (bt HB_s836.out hb)
        have G_z := Lib.hid (G_s836.out.below hb)
        have V_z := Lib.hid (V_s836.out.below hb)
        have Z_z := Lib.hid (Z_s836.out.below hb)
        have lz9 := Z_s836.out.lt
        have lb9 := HB_s836.out.size
        have AQ := Lib.hid hq
        clear hq hb
        go_wp2_with fail
        refine hK.out _ _ (show _ from ⟨⟨G_z.out.1, G_z.out.2.1, G_z.out.2.2⟩, V_z.out.1, V_z.out.2.1, V_z.out.2.2.1, V_z.out.2.2.2⟩) (fun hHeld => ?_)
        clear hK K
        try simp only [Act.put, List.getElem_toArray, List.getElem_cons_succ, List.getElem_cons_zero, List.setIfInBounds_toArray, List.set_cons_zero, List.set_cons_succ]
        refine wpAnyH_take (i := 10) (v := ?_) rfl (by kernel_rfl) (by kernel_rfl) (by kernel_rfl) (fun _ _ _ h => h) (Or.inl ⟨by kernel_rfl, ?_⟩) (by assumption) ?_
        rotate_left 1
        · intro w9 hSw
          try dsimp only at hSw
          go_simp
          try with_reducible rfl
        try simp only [Act.put, List.getElem_toArray, List.getElem_cons_succ, List.getElem_cons_zero, List.setIfInBounds_toArray, List.set_cons_zero, List.set_cons_succ]
        refine wpAnyH_take (i := 11) (v := ?_) rfl (by kernel_rfl) (by kernel_rfl) (by kernel_rfl) (fun _ _ _ h => h) (Or.inl ⟨by kernel_rfl, ?_⟩) (by assumption) ?_
        rotate_left 1
        · intro w9 hSw
          try dsimp only at hSw
          go_simp
          try with_reducible rfl
        try simp only [Act.put, List.getElem_toArray, List.getElem_cons_succ, List.getElem_cons_zero, List.setIfInBounds_toArray, List.set_cons_zero, List.set_cons_succ]
        have hm5 := mid3 v9 (w.heap.size + 2) (.slice a1 p.c.length c1) (.slice a2 p.h.length c2) (.slice a3 p.r.length c3)
        have G_y := Lib.hid (G_z.out.mid hm5 (.inl (by omega)))
        have V_y := Lib.hid (v4_mid V_z.out hm5 (by omega))
        have AY := Lib.hid (AQ.out.mid hm5 (.inr (by omega)))
        have HB_y := Lib.hid (HB_z.out.trans (hm5.toBelow (by omega) HB_z.out.size))
        have hs5 := hm5.size
        clear hm5
        refine wpAnyH_ready (rs := [12]) (by kernel_rfl) (by simp) ?_
        refine AllReadyH.cons rfl (fun K hK => ?_) AllReadyH.nil
        obtain ⟨y0, y1, y2, yf⟩ := Z_z.out
        have yf0 := yf 0
        have yf1 := yf 1
        have yf2 := yf 2
        clear yf
        go_simp
        refine hK.out _ _ (show _ from ⟨⟨G_y.out.1, G_y.out.2.1, G_y.out.2.2⟩, V_y.out.1, V_y.out.2.1, V_y.out.2.2.1, V_y.out.2.2.2⟩) (fun hHeld => ?_)
        clear hK K
        try simp only [Act.put, List.getElem_toArray, List.getElem_cons_succ, List.getElem_cons_zero, List.setIfInBounds_toArray, List.set_cons_zero, List.set_cons_succ]
        refine wpAnyH_take (i := 13) (v := ?_) rfl (by kernel_rfl) (by kernel_rfl) (by kernel_rfl) (fun _ _ _ h => h) (Or.inl ⟨by kernel_rfl, ?_⟩) (by assumption) ?_
        rotate_left 1
        · intro w9 hSw
          try dsimp only at hSw
          go_simp
          try with_reducible rfl
        try simp only [Act.put, List.getElem_toArray, List.getElem_cons_succ, List.getElem_cons_zero, List.setIfInBounds_toArray, List.set_cons_zero, List.set_cons_succ]
        refine wpAnyH_done (by kernel_rfl) ?_ _
        go_wp2
        (try simp only [Exit.inBlock, Exit.then])
        refine bodyPost_ret (v := .tuple #[.agg #[.slice a1 p.c.length c1, .slice a2 p.h.length c2, .slice a3 p.r.length c3], .bool ok]) ?_ rfl ?_
        · rw [results_cell_tmp rfl]; go_simp
        · exact ⟨_, _, _, rfl, AY.out.wide (by omega) hs5 (Nat.le_refl _), HB_y.out⟩
    · go_simp
      have hb := ba Ws8 (.cells #[.int .i64 x] 3)
      have HB_s86 := Lib.hid (bt HB_s8.out hb)
      have G_s86 := Lib.hid (G_s8.out.below hb)
      have V_s86 := Lib.hid (V_s8.out.below hb)
      have Z_s86 := Lib.hid (Z_s8.out.below hb)
      have CL_s86 := Lib.hid (CL_s8.out.below hb)
      have XL_s86 := Lib.hid (one_in (one_new Ws8 (.int .i64 x) 3))
      clear hb
      refine hK.out _ _ (show _ from ⟨⟨G_s86.out.1, G_s86.out.2.1, G_s86.out.2.2⟩, V_s86.out.1, V_s86.out.2.1, V_s86.out.2.2.1, V_s86.out.2.2.2⟩) (fun hHeld => ?_)
      clear hK K
      try simp only [Act.put, List.getElem_toArray, List.getElem_cons_succ, List.getElem_cons_zero, List.setIfInBounds_toArray, List.set_cons_zero, List.set_cons_succ]
      generalize hW9 : Ws8.alloc (.cells #[.int .i64 x] 3) = Ws86 at *
      clear hW9
      refine wpAnyH_ready (rs := [3]) (by kernel_rfl) (by simp) ?_
      refine AllReadyH.cons rfl (fun K hK => ?_) (AllReadyH.nil)
      · go_simp
        go_at_call 69
        refine (rows_any a b c d _).mono ?_
        rintro e3 Ws863 ⟨r9, s9, rfl, hr4, hb⟩
        have HB_s863 := Lib.hid (bt HB_s86.out hb)
        have G_s863 := Lib.hid (G_s86.out.below hb)
        have V_s863 := Lib.hid (V_s86.out.below hb)
        have Z_s863 := Lib.hid (Z_s86.out.below hb)
        have CL_s863 := Lib.hid (CL_s86.out.below hb)
        have XL_s863 := Lib.hid (XL_s86.out.below hb)
        have RL_s863 := Lib.hid (hr4.ins).1
        clear hb hr4
        go_wp2_with fail
        refine hK.out _ _ (show _ from ⟨⟨G_s863.out.1, G_s863.out.2.1, G_s863.out.2.2⟩, V_s863.out.1, V_s863.out.2.1, V_s863.out.2.2.1, V_s863.out.2.2.2⟩) (fun hHeld => ?_)
        clear hK K
        try simp only [Act.put, List.getElem_toArray, List.getElem_cons_succ, List.getElem_cons_zero, List.setIfInBounds_toArray, List.set_cons_zero, List.set_cons_succ]
        refine wpAnyH_take (i := 4) (v := ?_) rfl (by kernel_rfl) (by kernel_rfl) (by kernel_rfl) (fun _ _ _ h => h) (Or.inl ⟨by kernel_rfl, ?_⟩) (by assumption) ?_
        rotate_left 1
        · intro w9 hSw
          try dsimp only at hSw
          go_simp
          try with_reducible rfl
        try simp only [Act.put, List.getElem_toArray, List.getElem_cons_succ, List.getElem_cons_zero, List.setIfInBounds_toArray, List.set_cons_zero, List.set_cons_succ]
        refine wpAnyH_ready (rs := [9]) (by kernel_rfl) (by simp) ?_
        refine AllReadyH.cons rfl (fun K hK => ?_) AllReadyH.nil
        go_simp
        go_at_call 37
        refine (provL_any P Q G s hs hl HRL.out hxl hcl (by have h := RL_s863.out; rw [HRS.out] at h; exact h) (by have h := XL_s863.out; rw [HXS.out] at h; exact h) (by have h := CL_s863.out; rw [HCS.out] at h; exact h)).mono ?_
        rw [HP.out, HO.out]
        rintro e9 v9 ⟨qa, qb, qc, rfl, hq, hb⟩
        obtain ⟨a1, c1, a2, c2, a3, c3, rfl, rfl, rfl⟩ := hq.shape
        have HB_z := Lib.hid (bt HB_s863.out hb)
        have G_z := Lib.hid (G_s863.out.below hb)
        have V_z := Lib.hid (V_s863.out.below hb)
        have Z_z := Lib.hid (Z_s863.out.below hb)
        have lz9 := Z_s863.out.lt
        have lb9 := HB_s863.out.size
        have AQ := Lib.hid hq
        clear hq hb
        go_wp2_with fail
        refine hK.out _ _ (show _ from ⟨⟨G_z.out.1, G_z.out.2.1, G_z.out.2.2⟩, V_z.out.1, V_z.out.2.1, V_z.out.2.2.1, V_z.out.2.2.2⟩) (fun hHeld => ?_)
        clear hK K
        try simp only [Act.put, List.getElem_toArray, List.getElem_cons_succ, List.getElem_cons_zero, List.setIfInBounds_toArray, List.set_cons_zero, List.set_cons_succ]
        refine wpAnyH_take (i := 10) (v := ?_) rfl (by kernel_rfl) (by kernel_rfl) (by kernel_rfl) (fun _ _ _ h => h) (Or.inl ⟨by kernel_rfl, ?_⟩) (by assumption) ?_
        rotate_left 1
        · intro w9 hSw
          try dsimp only at hSw
          go_simp
          try with_reducible rfl
        try simp only [Act.put, List.getElem_toArray, List.getElem_cons_succ, List.getElem_cons_zero, List.setIfInBounds_toArray, List.set_cons_zero, List.set_cons_succ]
        refine wpAnyH_take (i := 11) (v := ?_) rfl (by kernel_rfl) (by kernel_rfl) (by kernel_rfl) (fun _ _ _ h => h) (Or.inl ⟨by kernel_rfl, ?_⟩) (by assumption) ?_
        rotate_left 1
        · intro w9 hSw
          try dsimp only at hSw
          go_simp
          try with_reducible rfl
        try simp only [Act.put, List.getElem_toArray, List.getElem_cons_succ, List.getElem_cons_zero, List.setIfInBounds_toArray, List.set_cons_zero, List.set_cons_succ]
        have hm5 := mid3 v9 (w.heap.size + 2) (.slice a1 p.c.length c1) (.slice a2 p.h.length c2) (.slice a3 p.r.length c3)
        have G_y := Lib.hid (G_z.out.mid hm5 (.inl (by omega)))
        have V_y := Lib.hid (v4_mid V_z.out hm5 (by omega))
        have AY := Lib.hid (AQ.out.mid hm5 (.inr (by omega)))
        have HB_y := Lib.hid (HB_z.out.trans (hm5.toBelow (by omega) HB_z.out.size))
        have hs5 := hm5.size
        clear hm5
        refine wpAnyH_ready (rs := [12]) (by kernel_rfl) (by simp) ?_
        refine AllReadyH.cons rfl (fun K hK => ?_) AllReadyH.nil
        obtain ⟨y0, y1, y2, yf⟩ := Z_z.out
        have yf0 := yf 0
        have yf1 := yf 1
        have yf2 := yf 2
        clear yf
        go_simp
        refine hK.out _ _ (show _ from ⟨⟨G_y.out.1, G_y.out.2.1, G_y.out.2.2⟩, V_y.out.1, V_y.out.2.1, V_y.out.2.2.1, V_y.out.2.2.2⟩) (fun hHeld => ?_)
        clear hK K
        try simp only [Act.put, List.getElem_toArray, List.getElem_cons_succ, List.getElem_cons_zero, List.setIfInBounds_toArray, List.set_cons_zero, List.set_cons_succ]
        refine wpAnyH_take (i := 13) (v := ?_) rfl (by kernel_rfl) (by kernel_rfl) (by kernel_rfl) (fun _ _ _ h => h) (Or.inl ⟨by kernel_rfl, ?_⟩) (by assumption) ?_
        rotate_left 1
        · intro w9 hSw
          try dsimp only at hSw
          go_simp
          try with_reducible rfl
        try simp only [Act.put, List.getElem_toArray, List.getElem_cons_succ, List.getElem_cons_zero, List.setIfInBounds_toArray, List.set_cons_zero, List.set_cons_succ]
        refine wpAnyH_done (by kernel_rfl) ?_ _
        go_wp2
        (try simp only [Exit.inBlock, Exit.then])
        refine bodyPost_ret (v := .tuple #[.agg #[.slice a1 p.c.length c1, .slice a2 p.h.length c2, .slice a3 p.r.length c3], .bool ok]) ?_ rfl ?_
        · rw [results_cell_tmp rfl]; go_simp
        · exact ⟨_, _, _, rfl, AY.out.wide (by omega) hs5 (Nat.le_refl _), HB_y.out⟩

theorem two_rows {w : World} {p q r : Nat} {a c : Int} (h1 : V2 w r (.slice (some ⟨p, 0, none⟩) 1 1) (.slice (some ⟨q, 0, none⟩) 1 1)) (h2 : C1 w p 0 (.int .i64 a)) (h3 : C1 w q 0 (.int .i64 c)) : InS w.heap.size w (.slice (some ⟨r, 0, none⟩) 2 2) [[a], [c]] :=
  ⟨Nat.le_refl _, _, _, rfl, (fun h => by cases h), .inr ⟨r, 0, rfl, World.block_lt_of_cell? w _ h1.1, World.block_lt_of_cell? w _ h1.1, fun i z hz => by
    match i, hz with
    | 0, hz => simp at hz; subst hz; exact ⟨_, h1.1, one_in h2⟩
    | 1, hz => simp at hz; subst hz; exact ⟨_, h1.2, one_in h3⟩
    | i + 2, hz => simp at hz⟩⟩
theorem lit5 (W : World) (a c x cn : Int) (t t2 : TypeId) :
    InS (((W.alloc (.cells #[.int .i64 a] t)).alloc (.cells #[.int .i64 c] t)).alloc (.cells #[.slice (some ⟨W.heap.size, 0, none⟩) 1 1, .slice (some ⟨W.heap.size + 1, 0, none⟩) 1 1] t2)).heap.size (((((W.alloc (.cells #[.int .i64 a] t)).alloc (.cells #[.int .i64 c] t)).alloc (.cells #[.slice (some ⟨W.heap.size, 0, none⟩) 1 1, .slice (some ⟨W.heap.size + 1, 0, none⟩) 1 1] t2)).alloc (.cells #[.int .i64 x] t)).alloc (.cells #[.int .i64 cn] t)) (.slice (some ⟨W.heap.size + 2, 0, none⟩) 2 2) [[a], [c]] ∧ InI ((((W.alloc (.cells #[.int .i64 a] t)).alloc (.cells #[.int .i64 c] t)).alloc (.cells #[.slice (some ⟨W.heap.size, 0, none⟩) 1 1, .slice (some ⟨W.heap.size + 1, 0, none⟩) 1 1] t2)).alloc (.cells #[.int .i64 x] t)).heap.size (((((W.alloc (.cells #[.int .i64 a] t)).alloc (.cells #[.int .i64 c] t)).alloc (.cells #[.slice (some ⟨W.heap.size, 0, none⟩) 1 1, .slice (some ⟨W.heap.size + 1, 0, none⟩) 1 1] t2)).alloc (.cells #[.int .i64 x] t)).alloc (.cells #[.int .i64 cn] t)) (.slice (some ⟨W.heap.size + 3, 0, none⟩) 1 1) [x] ∧ InI (((((W.alloc (.cells #[.int .i64 a] t)).alloc (.cells #[.int .i64 c] t)).alloc (.cells #[.slice (some ⟨W.heap.size, 0, none⟩) 1 1, .slice (some ⟨W.heap.size + 1, 0, none⟩) 1 1] t2)).alloc (.cells #[.int .i64 x] t)).alloc (.cells #[.int .i64 cn] t)).heap.size (((((W.alloc (.cells #[.int .i64 a] t)).alloc (.cells #[.int .i64 c] t)).alloc (.cells #[.slice (some ⟨W.heap.size, 0, none⟩) 1 1, .slice (some ⟨W.heap.size + 1, 0, none⟩) 1 1] t2)).alloc (.cells #[.int .i64 x] t)).alloc (.cells #[.int .i64 cn] t)) (.slice (some ⟨W.heap.size + 4, 0, none⟩) 1 1) [cn] ∧ Below W.heap.size W (((((W.alloc (.cells #[.int .i64 a] t)).alloc (.cells #[.int .i64 c] t)).alloc (.cells #[.slice (some ⟨W.heap.size, 0, none⟩) 1 1, .slice (some ⟨W.heap.size + 1, 0, none⟩) 1 1] t2)).alloc (.cells #[.int .i64 x] t)).alloc (.cells #[.int .i64 cn] t)) := by
  have e1 := one_new W (.int .i64 a) t
  have e2 := one_new (W.alloc (.cells #[.int .i64 a] t)) (.int .i64 c) t
  have e3 := v2_new ((W.alloc (.cells #[.int .i64 a] t)).alloc (.cells #[.int .i64 c] t)) (.slice (some ⟨W.heap.size, 0, none⟩) 1 1) (.slice (some ⟨W.heap.size + 1, 0, none⟩) 1 1) t2
  have e4 := one_new (((W.alloc (.cells #[.int .i64 a] t)).alloc (.cells #[.int .i64 c] t)).alloc (.cells #[.slice (some ⟨W.heap.size, 0, none⟩) 1 1, .slice (some ⟨W.heap.size + 1, 0, none⟩) 1 1] t2)) (.int .i64 x) t
  have e5 := one_new ((((W.alloc (.cells #[.int .i64 a] t)).alloc (.cells #[.int .i64 c] t)).alloc (.cells #[.slice (some ⟨W.heap.size, 0, none⟩) 1 1, .slice (some ⟨W.heap.size + 1, 0, none⟩) 1 1] t2)).alloc (.cells #[.int .i64 x] t)) (.int .i64 cn) t
  rw [show (W.alloc (.cells #[.int .i64 a] t)).heap.size = W.heap.size + 1 by simp] at e2
  rw [show ((W.alloc (.cells #[.int .i64 a] t)).alloc (.cells #[.int .i64 c] t)).heap.size = W.heap.size + 2 by simp] at e3
  rw [show (((W.alloc (.cells #[.int .i64 a] t)).alloc (.cells #[.int .i64 c] t)).alloc (.cells #[.slice (some ⟨W.heap.size, 0, none⟩) 1 1, .slice (some ⟨W.heap.size + 1, 0, none⟩) 1 1] t2)).heap.size = W.heap.size + 3 by simp] at e4
  rw [show ((((W.alloc (.cells #[.int .i64 a] t)).alloc (.cells #[.int .i64 c] t)).alloc (.cells #[.slice (some ⟨W.heap.size, 0, none⟩) 1 1, .slice (some ⟨W.heap.size + 1, 0, none⟩) 1 1] t2)).alloc (.cells #[.int .i64 x] t)).heap.size = W.heap.size + 4 by simp] at e5
  exact ⟨(two_rows e3 (e1.below (bt (ba _ _) (ba _ _))) (e2.below (ba _ _))).below (bt (ba _ _) (ba _ _)), (one_in e4).below (ba _ _), one_in e5, bt (bt (bt (bt (ba _ _) (ba _ _)) (ba _ _)) (ba _ _)) (ba _ _)⟩

set_option maxRecDepth 100000 in
set_option maxHeartbeats 3200000 in
theorem sProvE_any (P Q G a b c d x cn : Int) (s : ByteArray) (hs : s.size ≤ 1048576) (w : World) :
    Calls Try.prog 44 #[gv P Q G, .string s, ev4 a b c d, .int .i64 x, .int .i64 cn] w (AnsN w (peV P Q G s a b c d x cn) (peB P Q G s a b c d x cn)) := by
  have G_0 := Lib.hid (((gr_new w P Q G 32).below (ba _ (.cells #[.int .i64 a, .int .i64 b, .int .i64 c, .int .i64 d] 47))).below (ba _ (.cells #[.slice none 0 0, .slice none 0 0, .slice none 0 0] 36)))
  have hv := v4_new (w.alloc (.cells #[.int .i64 P, .int .i64 Q, .int .i64 G] 32)) a b c d 47
  rw [show (w.alloc (.cells #[.int .i64 P, .int .i64 Q, .int .i64 G] 32)).heap.size = w.heap.size + 1 by simp] at hv
  have V_0 := Lib.hid (V4.below hv (ba _ (.cells #[.slice none 0 0, .slice none 0 0, .slice none 0 0] 36)))
  have hb3 := b3_new ((w.alloc (.cells #[.int .i64 P, .int .i64 Q, .int .i64 G] 32)).alloc (.cells #[.int .i64 a, .int .i64 b, .int .i64 c, .int .i64 d] 47)) (.slice none 0 0) (.slice none 0 0) (.slice none 0 0) 36
  rw [show ((w.alloc (.cells #[.int .i64 P, .int .i64 Q, .int .i64 G] 32)).alloc (.cells #[.int .i64 a, .int .i64 b, .int .i64 c, .int .i64 d] 47)).heap.size = w.heap.size + 2 by simp] at hb3
  have Z_0 := Lib.hid hb3
  have HB_0 := Lib.hid (bt (bt (ba w (.cells #[.int .i64 P, .int .i64 Q, .int .i64 G] 32)) (ba _ (.cells #[.int .i64 a, .int .i64 b, .int .i64 c, .int .i64 d] 47))) (ba _ (.cells #[.slice none 0 0, .slice none 0 0, .slice none 0 0] 36)))
  clear hv hb3
  cases ht : teV P Q G a b c d x
  · have E1 := Lib.hid (show peB P Q G s a b c d x cn = false by simp [peB, ht])
    rw [E1.out, pe_off E1.out]
    have HT := Lib.hid ht
    clear ht
    cases htb : teB P Q G a b c d x
    · have HTB := Lib.hid htb
      clear htb
      obtain ⟨g0, g1, g2⟩ := G_0.out
      obtain ⟨e0, e1, e2, e3⟩ := V_0.out
      obtain ⟨y0, y1, y2, yf⟩ := Z_0.out
      have yf0 := yf 0
      have yf1 := yf 1
      have yf2 := yf 2
      clear yf
      go_enter Try.func44, Try.ntmps44
      go_wp2_with fail
      refine (sIsTrueEqual_any P Q G a b c d x _).mono ?_
      rw [HT.out, HTB.out]
      rintro e v1 ⟨rfl, hb⟩
      have HB_1 := Lib.hid (bt HB_0.out hb)
      have G_1 := Lib.hid (G_0.out.below hb)
      have V_1 := Lib.hid (V_0.out.below hb)
      have Z_1 := Lib.hid (Z_0.out.below hb)
      clear hb g0 g1 g2 e0 e1 e2 e3 y0 y1 y2 yf0 yf1 yf2
      obtain ⟨g0, g1, g2⟩ := G_1.out
      obtain ⟨e0, e1, e2, e3⟩ := V_1.out
      obtain ⟨y0, y1, y2, yf⟩ := Z_1.out
      have yf0 := yf 0
      have yf1 := yf 1
      have yf2 := yf 2
      clear yf
      go_wp2
      (try simp only [Exit.inBlock, Exit.then])
      refine bodyPost_ret (v := .tuple #[.agg #[.slice none 0 0, .slice none 0 0, .slice none 0 0], .bool false]) ?_ rfl ?_
      · rw [results_cell_tmp rfl]; go_simp
      · have hm5 := mid3 v1 (w.heap.size + 2) (.slice none 0 0) (.slice none 0 0) (.slice none 0 0)
        exact ⟨_, _, _, rfl, owP_nilP _ _ (Nat.le_trans HB_1.out.size hm5.size), HB_1.out.trans (hm5.toBelow (by omega) HB_1.out.size)⟩
    · have HTB := Lib.hid htb
      clear htb
      obtain ⟨g0, g1, g2⟩ := G_0.out
      obtain ⟨e0, e1, e2, e3⟩ := V_0.out
      obtain ⟨y0, y1, y2, yf⟩ := Z_0.out
      have yf0 := yf 0
      have yf1 := yf 1
      have yf2 := yf 2
      clear yf
      go_enter Try.func44, Try.ntmps44
      go_wp2_with fail
      refine (sIsTrueEqual_any P Q G a b c d x _).mono ?_
      rw [HT.out, HTB.out]
      rintro e v1 ⟨rfl, hb⟩
      have HB_1 := Lib.hid (bt HB_0.out hb)
      have G_1 := Lib.hid (G_0.out.below hb)
      have V_1 := Lib.hid (V_0.out.below hb)
      have Z_1 := Lib.hid (Z_0.out.below hb)
      clear hb g0 g1 g2 e0 e1 e2 e3 y0 y1 y2 yf0 yf1 yf2
      obtain ⟨g0, g1, g2⟩ := G_1.out
      obtain ⟨e0, e1, e2, e3⟩ := V_1.out
      obtain ⟨y0, y1, y2, yf⟩ := Z_1.out
      have yf0 := yf 0
      have yf1 := yf 1
      have yf2 := yf 2
      clear yf
      go_wp2
      (try simp only [Exit.inBlock, Exit.then])
      refine bodyPost_ret (v := .tuple #[.agg #[.slice none 0 0, .slice none 0 0, .slice none 0 0], .bool false]) ?_ rfl ?_
      · rw [results_cell_tmp rfl]; go_simp
      · have hm5 := mid3 v1 (w.heap.size + 2) (.slice none 0 0) (.slice none 0 0) (.slice none 0 0)
        exact ⟨_, _, _, rfl, owP_nilP _ _ (Nat.le_trans HB_1.out.size hm5.size), HB_1.out.trans (hm5.toBelow (by omega) HB_1.out.size)⟩
  have htb : teB P Q G a b c d x = true := by unfold teV at ht; exact ((Bool.and_eq_true _ _).mp ht).1
  have HT := Lib.hid ht
  have HTB := Lib.hid htb
  obtain ⟨hg, hel, hex, _⟩ := te_true.1 ht
  have hQ := (good_rng hg).2.1
  have HQ := Lib.hid (show 0 ≤ Q ∧ Q ≤ 2000000000 from ⟨by omega, hQ.2⟩)
  rw [(pe_pl ht).1, (pe_pl ht).2]
  clear ht htb
  by_cases h40 : 40 < s.size
  · rw [plB_size h40, pl_off (plB_size h40)]
    have hsi : (40 : Int) < (s.size : Int) := by omega
    clear h40 hel hex hg
    obtain ⟨g0, g1, g2⟩ := G_0.out
    obtain ⟨e0, e1, e2, e3⟩ := V_0.out
    obtain ⟨y0, y1, y2, yf⟩ := Z_0.out
    have yf0 := yf 0
    have yf1 := yf 1
    have yf2 := yf 2
    clear yf
    go_enter Try.func44, Try.ntmps44
    go_wp2_with fail
    refine (sIsTrueEqual_any P Q G a b c d x _).mono ?_
    rw [HT.out, HTB.out]
    rintro e v1 ⟨rfl, hb⟩
    have HB_1 := Lib.hid (bt HB_0.out hb)
    have G_1 := Lib.hid (G_0.out.below hb)
    have V_1 := Lib.hid (V_0.out.below hb)
    have Z_1 := Lib.hid (Z_0.out.below hb)
    clear hb g0 g1 g2 e0 e1 e2 e3 y0 y1 y2 yf0 yf1 yf2
    obtain ⟨g0, g1, g2⟩ := G_1.out
    obtain ⟨e0, e1, e2, e3⟩ := V_1.out
    obtain ⟨y0, y1, y2, yf⟩ := Z_1.out
    have yf0 := yf 0
    have yf1 := yf 1
    have yf2 := yf 2
    clear yf
    go_wp2
    (try simp only [Exit.inBlock, Exit.then])
    refine bodyPost_ret (v := .tuple #[.agg #[.slice none 0 0, .slice none 0 0, .slice none 0 0], .bool false]) ?_ rfl ?_
    · rw [results_cell_tmp rfl]; go_simp
    · have hm5 := mid3 v1 (w.heap.size + 2) (.slice none 0 0) (.slice none 0 0) (.slice none 0 0)
      exact ⟨_, _, _, rfl, owP_nilP _ _ (Nat.le_trans HB_1.out.size hm5.size), HB_1.out.trans (hm5.toBelow (by omega) HB_1.out.size)⟩
  have h40 : s.size ≤ 40 := by omega
  have hsi : (s.size : Int) ≤ 40 := by omega
  cases hcn : allIn [cn] 0 (Q - 1)
  · have E1 := Lib.hid (show plB P Q G s [[a], [c]] [x] [cn] = false by simp [plB, hcn])
    rw [E1.out, pl_off E1.out]
    have HCN := Lib.hid hcn
    clear hcn hel hex hg
    obtain ⟨g0, g1, g2⟩ := G_0.out
    obtain ⟨e0, e1, e2, e3⟩ := V_0.out
    obtain ⟨y0, y1, y2, yf⟩ := Z_0.out
    have yf0 := yf 0
    have yf1 := yf 1
    have yf2 := yf 2
    clear yf
    go_enter Try.func44, Try.ntmps44
    go_wp2_with fail
    refine (sIsTrueEqual_any P Q G a b c d x _).mono ?_
    rw [HT.out, HTB.out]
    rintro e v1 ⟨rfl, hb⟩
    have HB_1 := Lib.hid (bt HB_0.out hb)
    have G_1 := Lib.hid (G_0.out.below hb)
    have V_1 := Lib.hid (V_0.out.below hb)
    have Z_1 := Lib.hid (Z_0.out.below hb)
    clear hb g0 g1 g2 e0 e1 e2 e3 y0 y1 y2 yf0 yf1 yf2
    obtain ⟨g0, g1, g2⟩ := G_1.out
    obtain ⟨e0, e1, e2, e3⟩ := V_1.out
    obtain ⟨y0, y1, y2, yf⟩ := Z_1.out
    have yf0 := yf 0
    have yf1 := yf 1
    have yf2 := yf 2
    clear yf
    go_wp2_with fail
    refine (gExps_any P Q G HQ.out _ 1 1 [cn] rfl (by decide) _ (ints_lit v1 [cn] 3)).mono ?_
    rw [HCN.out]
    rintro e v2 ⟨rfl, hb0⟩
    have hb := bt (ba v1 _) hb0
    clear hb0
    have HB_2 := Lib.hid (bt HB_1.out hb)
    have G_2 := Lib.hid (G_1.out.below hb)
    have V_2 := Lib.hid (V_1.out.below hb)
    have Z_2 := Lib.hid (Z_1.out.below hb)
    clear hb g0 g1 g2 e0 e1 e2 e3 y0 y1 y2 yf0 yf1 yf2
    obtain ⟨g0, g1, g2⟩ := G_2.out
    obtain ⟨e0, e1, e2, e3⟩ := V_2.out
    obtain ⟨y0, y1, y2, yf⟩ := Z_2.out
    have yf0 := yf 0
    have yf1 := yf 1
    have yf2 := yf 2
    clear yf
    go_wp2
    (try simp only [Exit.inBlock, Exit.then])
    refine bodyPost_ret (v := .tuple #[.agg #[.slice none 0 0, .slice none 0 0, .slice none 0 0], .bool false]) ?_ rfl ?_
    · rw [results_cell_tmp rfl]; go_simp
    · have hm5 := mid3 v2 (w.heap.size + 2) (.slice none 0 0) (.slice none 0 0) (.slice none 0 0)
      exact ⟨_, _, _, rfl, owP_nilP _ _ (Nat.le_trans HB_2.out.size hm5.size), HB_2.out.trans (hm5.toBelow (by omega) HB_2.out.size)⟩
  have HCN := Lib.hid hcn
  obtain ⟨ha1, hb1, hc1, hd1⟩ : elB P Q a = true ∧ elB P Q b = true ∧ elB P Q c = true ∧ elB P Q d = true := by simpa [allEl] using hel
  have hxi : allIn [x] 0 (Q - 1) = true := (exB_one Q x).trans hex
  have hrb : rowsB P Q [[a], [c]] = true := by simp [rowsB, rowB, wid, allEl, ha1, hc1]
  have hpl : plB P Q G s [[a], [c]] [x] [cn] = true := plB_true.2 ⟨imB_true.2 ⟨hg, hrb, rfl, hxi⟩, rfl, hcn, h40⟩
  rw [hpl, pl_sp hpl]
  have HX := Lib.hid (fun (W : World) (B C D : Nat) (v u t : Value) (q1 : InS B W v [[a], [c]]) (q2 : InI C W u [x]) (q3 : InI D W t [cn]) => sProve_any (rows := [[a], [c]]) (xs := [x]) (cs := [cn]) P Q G hg s (by omega) (by simp) (by simp) (fun r hr => by simp at hr; rcases hr with rfl | rfl <;> simp [allEl, ha1, hc1]) rfl hxi hcn q1 q2 q3)
  obtain ⟨p, hp⟩ : ∃ p, spP P Q G s [[a], [c]] [x] [cn] = p := ⟨_, rfl⟩
  rw [hp] at HX ⊢
  clear hp hpl hrb hxi hcn hel hex ha1 hb1 hc1 hd1 hg
  obtain ⟨g0, g1, g2⟩ := G_0.out
  obtain ⟨e0, e1, e2, e3⟩ := V_0.out
  obtain ⟨y0, y1, y2, yf⟩ := Z_0.out
  have yf0 := yf 0
  have yf1 := yf 1
  have yf2 := yf 2
  clear yf
  go_enter Try.func44, Try.ntmps44
  go_wp2_with fail
  refine (sIsTrueEqual_any P Q G a b c d x _).mono ?_
  rw [HT.out, HTB.out]
  rintro e v1 ⟨rfl, hb⟩
  have HB_1 := Lib.hid (bt HB_0.out hb)
  have G_1 := Lib.hid (G_0.out.below hb)
  have V_1 := Lib.hid (V_0.out.below hb)
  have Z_1 := Lib.hid (Z_0.out.below hb)
  clear hb g0 g1 g2 e0 e1 e2 e3 y0 y1 y2 yf0 yf1 yf2
  obtain ⟨g0, g1, g2⟩ := G_1.out
  obtain ⟨e0, e1, e2, e3⟩ := V_1.out
  obtain ⟨y0, y1, y2, yf⟩ := Z_1.out
  have yf0 := yf 0
  have yf1 := yf 1
  have yf2 := yf 2
  clear yf
  go_wp2_with fail
  refine (gExps_any P Q G HQ.out _ 1 1 [cn] rfl (by decide) _ (ints_lit v1 [cn] 3)).mono ?_
  rw [HCN.out]
  rintro e v2 ⟨rfl, hb0⟩
  have hb := bt (ba v1 _) hb0
  clear hb0
  have HB_2 := Lib.hid (bt HB_1.out hb)
  have G_2 := Lib.hid (G_1.out.below hb)
  have V_2 := Lib.hid (V_1.out.below hb)
  have Z_2 := Lib.hid (Z_1.out.below hb)
  clear hb g0 g1 g2 e0 e1 e2 e3 y0 y1 y2 yf0 yf1 yf2
  obtain ⟨g0, g1, g2⟩ := G_2.out
  obtain ⟨e0, e1, e2, e3⟩ := V_2.out
  obtain ⟨y0, y1, y2, yf⟩ := Z_2.out
  have yf0 := yf 0
  have yf1 := yf 1
  have yf2 := yf 2
  clear yf
  obtain ⟨l1, l2, l3, l4⟩ := lit5 v2 a c x cn 3 25
  have HL1 := Lib.hid l1
  have HL2 := Lib.hid l2
  have HL3 := Lib.hid l3
  have Z5 := Lib.hid (Z_2.out.below l4)
  have HB5 := Lib.hid (bt HB_2.out l4)
  clear l1 l2 l3 l4
  obtain ⟨_, _, f2, _⟩ := V_2.out.below (ba v2 (.cells #[.int .i64 a] 3))
  go_wp2_with fail
  refine (HX.out _ _ _ _ _ _ _ HL1.out HL2.out HL3.out).mono ?_
  rintro e' v9 ⟨qv, rfl, hq, hb9⟩
  have hin := hq.toIn
  obtain ⟨a1, c1, a2, c2, a3, c3, rfl, _, _, _⟩ := hin.parts
  have HB_9 := Lib.hid (bt HB5.out hb9)
  have Z_9 := Lib.hid (Z5.out.below hb9)
  have lz9 := Z5.out.lt
  have lb9 := HB5.out.size
  have IN := Lib.hid hq
  clear hq hin hb9 f2 g0 g1 g2 e0 e1 e2 e3 y0 y1 y2 yf0 yf1 yf2
  obtain ⟨y0, y1, y2, yf⟩ := Z_9.out
  have yf0 := yf 0
  have yf1 := yf 1
  have yf2 := yf 2
  clear yf
  go_wp2
  (try simp only [Exit.inBlock, Exit.then])
  refine bodyPost_ret (v := .tuple #[pv3 a1 p.c.length c1 a2 p.h.length c2 a3 p.r.length c3, .bool true]) ?_ rfl ?_
  · rw [results_cell_tmp rfl]; go_simp
  · have hm5 := mid3 v9 (w.heap.size + 2) (.slice a1 p.c.length c1) (.slice a2 p.h.length c2) (.slice a3 p.r.length c3)
    have hq := IN.out.mid hm5 (.inr (by omega))
    exact ⟨_, _, _, rfl, OwP.wide hq (by omega) hm5.size, HB_9.out.trans (hm5.toBelow (by omega) HB_9.out.size)⟩

end Go.Proofs.Ytlgdcfficemebaa

