/- A region that draws its order, walked once: each of its operations is shown to bring its fact, and facts outlast what the others do. -/
import Derived.Deep.RegionHeld3
import Derived.OrdersHeld
import Derived.Lib.Hide
namespace Go.Proofs.YtchlnkdlnfjijaaGreat
set_option linter.unusedVariables false
set_option linter.unusedSimpArgs false

section
variable {P : Program} {md : Region.Mode} {ops : Array Oper} {Q : Exit → Act → World → Prop} {S : World → Prop}

/-- The values of a region's operations, one turned. -/
def upd (v : Nat → Value) (i : Nat) (u : Value) : Nat → Value := fun j => if j = i then u else v j
/-- The facts of the operations of a list. -/
def Facts (V : Nat → Value → World → Prop) (v : Nat → Value) (w : World) : List Nat → Prop
  | [] => True
  | j :: js => V j (v j) w ∧ Facts V v w js
theorem Facts.of {V : Nat → Value → World → Prop} {v : Nat → Value} {w : World} : ∀ {js : List Nat}, (∀ j ∈ js, V j (v j) w) → Facts V v w js
  | [], _ => trivial
  | j :: js, h => ⟨h j (by simp), Facts.of fun k hk => h k (by simp [hk])⟩
/-- On which of the operations that have not come up at the start operation o waits. -/
def waits (md : Region.Mode) (l0 : Array Bool) (o : Oper) : List Nat := (o.after.toList.filter fun e => Region.binds md e && !l0.getD e.on true).map (·.on)
/-- Every operation waits for earlier ones alone. -/
def earlierB (md : Region.Mode) (ops : Array Oper) : Bool := (List.range ops.size).all fun i => match ops[i]? with
  | some o => o.after.all fun e => !Region.binds md e || decide (e.on < i)
  | none => true
/-- The operations that have not come up at the start. -/
def leftOf (ops : Array Oper) (l0 : Array Bool) : List Nat := (List.range ops.size).filter fun i => !l0.getD i true
/-- What is asked of each operation. -/
def Steps (P : Program) (md : Region.Mode) (ops : Array Oper) (l0 : Array Bool) (A : (Nat → Value) → Act) (V : Nat → Value → World → Prop) (B : World → Prop) (R : World → World → Prop) (rs : List Nat) : Prop :=
  ∀ i ∈ rs, ∀ o, ops[i]? = some o → ∀ v w, B w → Facts V v w (waits md l0 o) → ∀ (Q' : Exit → Act → World → Prop) (K' : Act → World → Prop), Shut (∀ u w', V i u w' → R w w' → K' ((A v).put o.dst u) w') →
    if Region.wanted o (yielded ops (A v).tmps) = true then Oper.wp P o (A v) w K' Q' else K' ((A v).put o.dst undef) w
theorem Steps.nil {l0 : Array Bool} {A : (Nat → Value) → Act} {V : Nat → Value → World → Prop} {B : World → Prop} {R : World → World → Prop} : Steps P md ops l0 A V B R [] := fun _ h => by cases h
/-- A goal that no tactic looks into. -/
structure Boxed (p : Prop) : Prop where
  out : p
theorem Steps.cons {l0 : Array Bool} {A : (Nat → Value) → Act} {V : Nat → Value → World → Prop} {B : World → Prop} {R : World → World → Prop} {i : Nat} {oi : Oper} {js : List Nat} {rs : List Nat} (hi : ops[i]? = some oi) (hj : waits md l0 oi = js) (hg : oi.guard = none)
    (h : ∀ v w, B w → Facts V v w js → ∀ (Q' : Exit → Act → World → Prop) (K' : Act → World → Prop), Shut (∀ u w', V i u w' → R w w' → K' ((A v).put oi.dst u) w') → Boxed (Oper.wp P oi (A v) w K' Q'))
    (hs : Steps P md ops l0 A V B R rs) : Steps P md ops l0 A V B R (i :: rs) := fun j hj' o ho => by
  rcases List.mem_cons.1 hj' with rfl | hj'
  · rw [hi] at ho
    obtain rfl := Option.some.inj ho
    intro v w hB hF Q' K' hK
    rw [hj] at hF
    have hw : Region.wanted oi (yielded ops (A v).tmps) = true := by unfold Region.wanted; rw [hg]
    rw [if_pos hw]
    exact (h v w hB hF Q' K' hK).out
  · exact hs j hj' o ho

theorem wpAnyH_grow {A : (Nat → Value) → Act} {V : Nat → Value → World → Prop} {B : World → Prop} {R : World → World → Prop} {l0 : Array Bool} {rs : List Nat}
    (hrs : leftOf ops l0 = rs) (hac : earlierB md ops = true)
    (hA : ∀ i ∈ rs, ∀ o, ops[i]? = some o → ∀ v u, (A v).put o.dst u = A (upd v i u))
    (hBR : ∀ w w', B w → R w w' → B w') (hVR : ∀ i ∈ rs, ∀ u w w', B w → V i u w → R w w' → V i u w')
    (hBS : ∀ w, B w → S w) (hst : Steps P md ops l0 A V B R rs) (hend : ∀ v w, B w → Facts V v w rs → Q .normal (A v) w) :
    ∀ (fuel : Nat) (l : Array Bool) (v : Nat → Value) (w : World), l.size = l0.size → (∀ j, l0.getD j true = true → l.getD j true = true) → (∀ j ∈ rs, l.getD j true = true → V j (v j) w) → B w →
      ((List.range ops.size).filter fun i => !l.getD i true).length ≤ fuel → wpAnyH P md ops Q S fuel l (A v) w := by
  have hmem : ∀ i, i ∈ rs ↔ i < ops.size ∧ l0.getD i true = false := by
    intro i
    rw [← hrs]
    unfold leftOf
    rw [List.mem_filter, List.mem_range]
    simp
  -- where nothing is ready, all has come up
  have hall : ∀ (l : Array Bool) (v : Nat → Value) (w : World), l.size = l0.size → (∀ j, l0.getD j true = true → l.getD j true = true) → (∀ j ∈ rs, l.getD j true = true → V j (v j) w) → B w → Region.ready md ops l = [] → Q .normal (A v) w := by
    intro l v w hsz hl hv hB hr
    refine hend v w hB (Facts.of fun j hj => ?_)
    have key : ∀ n j, j ≤ n → j < ops.size → l.getD j true = true := by
      intro n
      induction n with
      | zero =>
        intro j hj hjn
        obtain rfl : j = 0 := by omega
        by_cases h : l.getD 0 true = true
        · exact h
        · have hf : l.getD 0 true = false := by simpa using h
          have hin : 0 ∈ Region.ready md ops l := mem_ready.2 ⟨hf, ops[0], by simp [hjn], fun e he hb => by
            have h1 := (List.all_eq_true.1 hac) 0 (List.mem_range.2 hjn)
            simp only [Array.getElem?_eq_getElem hjn] at h1
            have h2 := (Array.all_eq_true_iff_forall_mem.1 h1) e he
            rw [hb] at h2
            simp at h2⟩
          rw [hr] at hin
          cases hin
      | succ n ih =>
        intro j hj hjn
        by_cases hlt : j ≤ n
        · exact ih j hlt hjn
        · by_cases h : l.getD j true = true
          · exact h
          · have hf : l.getD j true = false := by simpa using h
            have hin : j ∈ Region.ready md ops l := mem_ready.2 ⟨hf, ops[j], by simp [hjn], fun e he hb => by
              have h1 := (List.all_eq_true.1 hac) j (List.mem_range.2 hjn)
              simp only [Array.getElem?_eq_getElem hjn] at h1
              have h2 := (Array.all_eq_true_iff_forall_mem.1 h1) e he
              rw [hb] at h2
              simp only [Bool.not_true, Bool.false_or, decide_eq_true_eq] at h2
              have h3 := ih e.on (by omega) (by omega)
              by_cases hes : e.on < l.size
              · simp only [Array.getD_eq_getD_getElem?, Array.getElem?_eq_getElem hes, Option.getD_some] at h3 ⊢
                exact h3
              · exfalso
                have hjs : l.getD j true = true := by
                  simp only [Array.getD_eq_getD_getElem?]
                  rw [Array.getElem?_eq_none (by omega)]; rfl
                exact h hjs⟩
            rw [hr] at hin
            cases hin
    exact hv j hj (key j j (Nat.le_refl _) ((hmem j).1 hj).1)
  intro fuel
  induction fuel with
  | zero =>
    intro l v w hsz hl hv hB hf
    have hr : Region.ready md ops l = [] := by
      refine List.eq_nil_iff_forall_not_mem.2 fun i hi => ?_
      obtain ⟨h0, o, ho, _⟩ := mem_ready.1 hi
      have hn := List.eq_nil_of_length_eq_zero (Nat.le_zero.1 hf)
      have : i ∈ (List.range ops.size).filter fun i => !l.getD i true := List.mem_filter.2 ⟨List.mem_range.2 (Array.getElem?_eq_some_iff.1 ho).1, by rw [h0]; rfl⟩
      rw [hn] at this
      cases this
    exact ⟨hr, hall l v w hsz hl hv hB hr⟩
  | succ fuel ih =>
    intro l v w hsz hl hv hB hf
    refine ⟨hall l v w hsz hl hv hB, fun i hi => ?_⟩
    obtain ⟨h0, o, ho, hdep⟩ := mem_ready.1 hi
    have hilt : i < ops.size := (Array.getElem?_eq_some_iff.1 ho).1
    have hir : i ∈ rs := (hmem i).2 ⟨hilt, by
      cases hq : l0.getD i true
      · rfl
      · rw [hl i hq] at h0; cases h0⟩
    have hF : Facts V v w (waits md l0 o) := Facts.of fun j hj => by
      obtain ⟨e, he, rfl⟩ := List.mem_map.1 hj
      obtain ⟨he1, he2⟩ := List.mem_filter.1 he
      simp only [Bool.and_eq_true] at he2
      have h1 := hdep e (Array.mem_toList_iff.1 he1) he2.1
      have h2 : l.getD e.on true = true := by
        simp only [Array.getD_eq_getD_getElem?] at h1 ⊢
        cases hq : l[e.on]? with
        | none => simp [hq] at h1
        | some b => simpa [hq] using h1
      refine hv e.on ((hmem _).2 ⟨?_, by simpa using he2.2⟩) h2
      have h3 := (List.all_eq_true.1 hac) i (List.mem_range.2 hilt)
      simp only [ho] at h3
      have h4 := (Array.all_eq_true_iff_forall_mem.1 h3) e (Array.mem_toList_iff.1 he1)
      rw [he2.1] at h4
      simp only [Bool.not_true, Bool.false_or, decide_eq_true_eq] at h4
      omega
    have hnext : ∀ u w', V i u w' → R w w' → S w' ∧ wpAnyH P md ops Q S fuel (l.setIfInBounds i true) ((A v).put o.dst u) w' := by
      intro u w' hu hr
      have hB' := hBR w w' hB hr
      have hil : i < l.size := by
        rcases Nat.lt_or_ge i l.size with h | h
        · exact h
        · simp only [Array.getD_eq_getD_getElem?] at h0
          rw [Array.getElem?_eq_none h] at h0
          cases h0
      refine ⟨hBS w' hB', ?_⟩
      rw [hA i hir o ho v u]
      refine ih _ _ _ (by rw [Array.size_setIfInBounds]; exact hsz) (fun j hj => ?_) (fun j hj hlj => ?_) hB' ?_
      · by_cases hji : i = j
        · subst hji
          simp [hil]
        · rw [getD_set_ne true hji]; exact hl j hj
      · by_cases hji : i = j
        · subst hji
          simpa [upd] using hu
        · rw [getD_set_ne true hji] at hlj
          simpa [upd, Ne.symm hji] using hVR j hj (v j) w w' hB (hv j hj hlj) hr
      · have hlt : ((List.range ops.size).filter fun k => !(l.setIfInBounds i true).getD k true).length < ((List.range ops.size).filter fun k => !l.getD k true).length := by
          have hsub : ((List.range ops.size).filter fun k => !(l.setIfInBounds i true).getD k true) = (((List.range ops.size).filter fun k => !l.getD k true).filter fun k => decide (k ≠ i)) := by
            rw [List.filter_filter]
            refine List.filter_congr fun k _ => ?_
            by_cases hki : i = k
            · subst hki
              simp [hil]
            · rw [getD_set_ne true hki]
              simp [Ne.symm hki]
          rw [hsub]
          refine List.length_filter_lt_length_iff_exists.2 ⟨i, List.mem_filter.2 ⟨List.mem_range.2 hilt, by rw [h0]; rfl⟩, by simp⟩
        omega
    refine wpOp_step ho fun K' hK => ?_
    exact hst i hir o ho v w hB hF Q K' (fun u w' hu hr => hK _ _ (hnext u w' hu hr))

/-! ### The frame that all of them have turned -/
def putAll : List (Nat × Option Tmp) → Act → (Nat → Value) → Act
  | [], a, _ => a
  | p :: ds, a, v => putAll ds (a.put p.2 (v p.1)) v
def dstsB : List (Nat × Option Tmp) → Bool
  | [] => true
  | p :: ds => (ds.all fun q => decide (q.1 ≠ p.1) && (p.2.isNone || decide (q.2 ≠ p.2))) && dstsB ds
theorem put_twice (a : Act) (d : Option Tmp) (x y : Value) : (a.put d x).put d y = a.put d y := by
  cases d <;> simp [Act.put]
theorem put_self (a : Act) (d : Tmp) : a.put (some d) (a.tmps.getD d undef) = a := by
  obtain ⟨tm, r⟩ := a
  simp only [Act.put, Act.mk.injEq, and_true]
  apply Array.ext
  · simp
  · intro i h1 h2
    by_cases hd : d = i
    · subst hd
      simp [Array.getElem_setIfInBounds, h2]
    · rw [Array.getElem_setIfInBounds_ne (by simpa using h1) hd]
theorem putAll_self : ∀ (ds : List (Nat × Option Tmp)) (a : Act) (v : Nat → Value), (∀ p ∈ ds, ∀ d, p.2 = some d → v p.1 = a.tmps.getD d undef) → putAll ds a v = a
  | [], _, _, _ => rfl
  | (i, none) :: ds, a, v, h => putAll_self ds a v fun p hp => h p (by simp [hp])
  | (i, some d) :: ds, a, v, h => by
    have h1 := h (i, some d) (by simp) d rfl
    show putAll ds (a.put (some d) (v i)) v = a
    have h1' : v i = a.tmps.getD d undef := h1
    rw [h1', put_self]
    exact putAll_self ds a v fun p hp => h p (by simp [hp])
theorem putAll_congr : ∀ (ds : List (Nat × Option Tmp)) (a : Act) (v v' : Nat → Value), (∀ p ∈ ds, v p.1 = v' p.1) → putAll ds a v = putAll ds a v'
  | [], _, _, _, _ => rfl
  | p :: ds, a, v, v', h => by
    show putAll ds (a.put p.2 (v p.1)) v = putAll ds (a.put p.2 (v' p.1)) v'
    rw [h p (by simp)]
    exact putAll_congr ds _ v v' fun q hq => h q (by simp [hq])
theorem putAll_put : ∀ (ds : List (Nat × Option Tmp)) (a : Act) (v : Nat → Value) (d : Option Tmp) (u : Value), (∀ p ∈ ds, d = none ∨ p.2 ≠ d) → (putAll ds a v).put d u = putAll ds (a.put d u) v
  | [], _, _, _, _, _ => rfl
  | p :: ds, a, v, d, u, h => by
    show (putAll ds (a.put p.2 (v p.1)) v).put d u = putAll ds ((a.put d u).put p.2 (v p.1)) v
    rw [putAll_put ds _ v d u fun q hq => h q (by simp [hq])]
    congr 1
    refine Act.put_comm a _ _ fun t ht => ?_
    rcases h p (by simp) with h1 | h1
    · rw [h1]; simp
    · rw [← ht]; exact fun e => h1 e.symm
theorem putAll_upd : ∀ (ds : List (Nat × Option Tmp)) (a : Act) (v : Nat → Value) (i : Nat) (d : Option Tmp) (u : Value), dstsB ds = true → (i, d) ∈ ds → (putAll ds a v).put d u = putAll ds a (upd v i u)
  | [], _, _, _, _, _, _, h => by cases h
  | p :: ds, a, v, i, d, u, hd, h => by
    simp only [dstsB, Bool.and_eq_true, List.all_eq_true, decide_eq_true_eq, Bool.or_eq_true, Option.isNone_iff_eq_none] at hd
    rcases List.mem_cons.1 h with rfl | h
    · show (putAll ds (a.put d (v i)) v).put d u = putAll ds (a.put d (upd v i u i)) (upd v i u)
      rw [putAll_put ds _ v d u fun q hq => by
        rcases (hd.1 q hq).2 with h1 | h1
        · exact .inl h1
        · exact .inr h1]
      rw [put_twice]
      have e : upd v i u i = u := by simp [upd]
      rw [e]
      exact putAll_congr ds _ _ _ fun q hq => by simp [upd, (hd.1 q hq).1]
    · show (putAll ds (a.put p.2 (v p.1)) v).put d u = putAll ds (a.put p.2 (upd v i u p.1)) (upd v i u)
      have hne : p.1 ≠ i := fun e => (hd.1 (i, d) h).1 e.symm
      rw [show upd v i u p.1 = v p.1 by simp [upd, hne]]
      exact putAll_upd ds _ v i d u hd.2 h
theorem putAll_start : ∀ (ds : List (Nat × Option Tmp)) (a : Act), dstsB ds = true → ∃ v : Nat → Value, ∀ p ∈ ds, ∀ d, p.2 = some d → v p.1 = a.tmps.getD d undef
  | [], _, _ => ⟨fun _ => undef, fun _ h => by cases h⟩
  | p :: ds, a, hd => by
    simp only [dstsB, Bool.and_eq_true, List.all_eq_true, decide_eq_true_eq, Bool.or_eq_true, Option.isNone_iff_eq_none] at hd
    obtain ⟨v, hv⟩ := putAll_start ds a hd.2
    refine ⟨upd v p.1 (match p.2 with | some d => a.tmps.getD d undef | none => undef), fun q hq d hqd => ?_⟩
    rcases List.mem_cons.1 hq with rfl | hq
    · simp [upd, hqd]
    · rw [show upd v p.1 _ q.1 = v q.1 by simp [upd, (hd.1 q hq).1]]
      exact hv q hq d hqd
/-- **A region in any order.** -/
theorem wpAnyH_any {V : Nat → Value → World → Prop} {B : World → Prop} {R : World → World → Prop} {l0 : Array Bool} {rs : List Nat} {ds : List (Nat × Option Tmp)} {a : Act} {w : World} {fuel : Nat}
    (hrs : leftOf ops l0 = rs) (hds : (rs.map fun i => (i, (ops[i]?).bind (·.dst))) = ds) (hd : dstsB ds = true) (hac : earlierB md ops = true) (hf : rs.length ≤ fuel)
    (hBR : ∀ w w', B w → R w w' → B w') (hVR : ∀ i ∈ rs, ∀ u w w', B w → V i u w → R w w' → V i u w') (hBS : ∀ w, B w → S w) (hB : B w)
    (hst : Steps P md ops l0 (putAll ds a) V B R rs) (hend : ∀ v w, B w → Facts V v w rs → Q .normal (putAll ds a v) w) : wpAnyH P md ops Q S fuel l0 a w := by
  obtain ⟨v, hv⟩ := putAll_start ds a hd
  have ha := putAll_self ds a v hv
  have key := wpAnyH_grow (P := P) (Q := Q) (S := S) (A := putAll ds a) (V := V) (B := B) (R := R) hrs hac (fun i hi o ho v u => putAll_upd ds a v i o.dst u hd (by
    rw [← hds]
    exact List.mem_map.2 ⟨i, hi, by rw [ho]; rfl⟩)) hBR hVR hBS hst hend fuel l0 v w rfl (fun _ h => h) (fun j hj hl => by
      rw [← hrs] at hj
      have := (List.mem_filter.1 hj).2
      rw [hl] at this
      cases this) hB (by rw [← hrs] at hf; exact hf)
  rw [ha] at key
  exact key
/-- Facts outlast the others' doings, one by one. -/
def Last (V : Nat → Value → World → Prop) (B : World → Prop) (R : World → World → Prop) (rs : List Nat) : Prop := ∀ i ∈ rs, ∀ u w w', B w → V i u w → R w w' → V i u w'
theorem Last.nil {V : Nat → Value → World → Prop} {B : World → Prop} {R : World → World → Prop} : Last V B R [] := fun _ h => by cases h
theorem Last.cons {V : Nat → Value → World → Prop} {B : World → Prop} {R : World → World → Prop} {i : Nat} {rs : List Nat} (h : ∀ u w w', B w → V i u w → R w w' → V i u w') (hs : Last V B R rs) : Last V B R (i :: rs) := fun j hj => by
  rcases List.mem_cons.1 hj with rfl | hj
  · exact h
  · exact hs j hj

/-! ### Till all of some have come up: the others wait for them -/
/-- Does operation r wait for i, by way of operations of rs? -/
def ancB (md : Region.Mode) (ops : Array Oper) (rs : List Nat) (i : Nat) : Nat → Nat → Bool
  | 0, _ => false
  | f + 1, r => match ops[r]? with
    | some o => o.after.any fun e => Region.binds md e && (decide (e.on = i) || (rs.contains e.on && ancB md ops rs i f e.on))
    | none => false
/-- All others wait for all of rs; what rs waits for has come up or is of rs. -/
def partB (md : Region.Mode) (ops : Array Oper) (l0 : Array Bool) (rs : List Nat) : Bool :=
  ((List.range ops.size).all fun r => l0.getD r true || rs.contains r || rs.all fun i => ancB md ops rs i ops.size r) &&
  (rs.all fun i => !l0.getD i true && match ops[i]? with
    | some o => o.after.all fun e => !Region.binds md e || (decide (e.on < i) && (l0.getD e.on false || rs.contains e.on))
    | none => false)
theorem anc_listed {rs : List Nat} {l l0 : Array Bool} (hcl : ∀ j ∈ rs, l.getD j true = true → ∀ o, ops[j]? = some o → ∀ e ∈ o.after, Region.binds md e = true → l.getD e.on false = true) (i : Nat) :
    ∀ (f r : Nat), (∀ o, ops[r]? = some o → ∀ e ∈ o.after, Region.binds md e = true → l.getD e.on false = true) → ancB md ops rs i f r = true → l.getD i false = true
  | 0, _, _, h => by cases h
  | f + 1, r, hd, h => by
    unfold ancB at h
    split at h
    · rename_i o ho
      obtain ⟨k, hk, hke⟩ := Array.any_eq_true.1 h
      have hmem : o.after[k] ∈ o.after := Array.getElem_mem hk
      simp only [Bool.and_eq_true, Bool.or_eq_true, decide_eq_true_eq] at hke
      obtain ⟨hb, he⟩ := hke
      have hl := hd o ho _ hmem hb
      rcases he with he | ⟨h1, h2⟩
      · rw [← he]; exact hl
      · have hjr : o.after[k].on ∈ rs := by simpa using h1
        refine anc_listed (l0 := l0) hcl i f _ (hcl _ hjr ?_) h2
        simp only [Array.getD_eq_getD_getElem?] at hl ⊢
        cases hq : l[o.after[k].on]? with
        | none => simp [hq] at hl
        | some b => simpa [hq] using hl
    · cases h
theorem listed_getD {l : Array Bool} {j : Nat} (h : l.getD j false = true) : l.getD j true = true := by
  simp only [Array.getD_eq_getD_getElem?] at h ⊢
  cases hq : l[j]? with
  | none => simp [hq] at h
  | some b => simpa [hq] using h
/-- All of rs have come up. -/
def listAll (l0 : Array Bool) (rs : List Nat) : Array Bool := rs.foldl (fun l i => l.setIfInBounds i true) l0
theorem listAll_size (rs : List Nat) : ∀ l0 : Array Bool, (listAll l0 rs).size = l0.size := by
  induction rs with
  | nil => intro l0; rfl
  | cons i rs ih => intro l0; show (listAll (l0.setIfInBounds i true) rs).size = _; rw [ih]; simp
theorem listAll_get (rs : List Nat) : ∀ (l0 : Array Bool) (j : Nat), j < l0.size → (listAll l0 rs).getD j true = if j ∈ rs then true else l0.getD j true := by
  induction rs with
  | nil => intro l0 j hj; simp [listAll]
  | cons i rs ih =>
    intro l0 j hj
    show (listAll (l0.setIfInBounds i true) rs).getD j true = _
    rw [ih _ j (by simpa using hj)]
    by_cases h1 : j ∈ rs
    · simp [h1]
    · by_cases h2 : i = j
      · subst h2; simp [hj]
      · rw [if_neg h1, getD_set_ne true h2, if_neg (by simp [h1, Ne.symm h2])]
theorem listAll_eq {l l0 : Array Bool} {rs : List Nat} (hsz : l.size = l0.size) (h1 : ∀ j ∈ rs, l.getD j true = true) (h2 : ∀ j, j ∉ rs → l.getD j true = l0.getD j true) : l = listAll l0 rs := by
  apply Array.ext
  · rw [listAll_size, hsz]
  · intro j hj hj'
    have e := listAll_get rs l0 j (by omega)
    have a1 : l.getD j true = l[j] := by simp [hj]
    have a2 : (listAll l0 rs).getD j true = (listAll l0 rs)[j] := by simp [hj']
    rw [← a1, ← a2, e]
    by_cases h : j ∈ rs
    · rw [if_pos h, h1 j h]
    · rw [if_neg h, h2 j h]

/-- **Some operations of a region, in any order; what follows waits for all of them.** -/
theorem wpAnyH_part {V : Nat → Value → World → Prop} {B : World → Prop} {R : World → World → Prop} {l0 : Array Bool} {rs : List Nat} {ds : List (Nat × Option Tmp)} {a : Act} {w : World} (k : Nat) {fuel : Nat}
    (hp : partB md ops l0 rs = true) (hsz : l0.size = ops.size) (hds : (rs.map fun i => (i, (ops[i]?).bind (·.dst))) = ds) (hd : dstsB ds = true) (hf : fuel = k + rs.length)
    (hBR : ∀ w w', B w → R w w' → B w') (hVR : Last V B R rs) (hBS : ∀ w, B w → S w) (hB : B w)
    (hst : Steps P md ops l0 (putAll ds a) V B R rs) (hend : ∀ v w, B w → Facts V v w rs → Boxed (wpAnyH P md ops Q S k (listAll l0 rs) (putAll ds a v) w)) : wpAnyH P md ops Q S fuel l0 a w := by
  have hnd : ∀ ds : List (Nat × Option Tmp), dstsB ds = true → (ds.map (·.1)).Nodup := by
    intro ds
    induction ds with
    | nil => intro _; exact List.nodup_nil
    | cons p ds ih =>
      intro h
      simp only [dstsB, Bool.and_eq_true, List.all_eq_true, decide_eq_true_eq] at h
      rw [List.map_cons, List.nodup_cons]
      refine ⟨fun hm => ?_, ih h.2⟩
      obtain ⟨q, hq, he⟩ := List.mem_map.1 hm
      exact (h.1 q hq).1 he
  have hnr : rs.Nodup := by
    have := hnd ds hd
    rw [← hds, List.map_map] at this
    simpa [Function.comp_def] using this
  simp only [partB, Bool.and_eq_true, List.all_eq_true, List.mem_range, Bool.or_eq_true] at hp
  obtain ⟨hp1, hp2⟩ := hp
  have hin : ∀ i ∈ rs, l0.getD i true = false ∧ ∃ o, ops[i]? = some o ∧ ∀ e ∈ o.after, Region.binds md e = true → e.on < i ∧ (l0.getD e.on false = true ∨ e.on ∈ rs) := by
    intro i hi
    obtain ⟨h1, h2⟩ := hp2 i hi
    refine ⟨by simpa using h1, ?_⟩
    cases ho : ops[i]? with
    | none => simp [ho] at h2
    | some o =>
      simp only [ho] at h2
      refine ⟨o, rfl, fun e he hb => ?_⟩
      have h3 := (Array.all_eq_true_iff_forall_mem.1 h2) e he
      rw [hb] at h3
      simpa using h3
  -- the walk
  have main : ∀ (m fuel : Nat) (l : Array Bool) (v : Nat → Value) (w : World), (rs.filter fun i => !l.getD i true).length = m → fuel = k + m → l.size = l0.size → (∀ j, j ∉ rs → l.getD j true = l0.getD j true) → (∀ j ∈ rs, l.getD j true = true → V j (v j) w) →
      (∀ j ∈ rs, l.getD j true = true → ∀ o, ops[j]? = some o → ∀ e ∈ o.after, Region.binds md e = true → l.getD e.on false = true) → B w → wpAnyH P md ops Q S fuel l (putAll ds a v) w := by
    intro m
    induction m with
    | zero =>
      intro fuel l v w hm hfu hl1 hl2 hv hcl hB
      have hall : ∀ j ∈ rs, l.getD j true = true := fun j hj => by
        cases hq : l.getD j true
        · have : j ∈ rs.filter fun i => !l.getD i true := List.mem_filter.2 ⟨hj, by rw [hq]; rfl⟩
          rw [List.eq_nil_of_length_eq_zero hm] at this
          cases this
        · rfl
      rw [hfu, Nat.add_zero, listAll_eq hl1 hall hl2]
      exact (hend v w hB (Facts.of fun j hj => hv j hj (hall j hj))).out
    | succ m ih =>
      intro fuel l v w hm hfu hl1 hl2 hv hcl hB
      subst hfu
      -- not all have come up, so only those of rs can come up now
      have hnot : ¬ ∀ j ∈ rs, l.getD j true = true := fun hall => by
        have : (rs.filter fun i => !l.getD i true) = [] := List.filter_eq_nil_iff.2 fun j hj => by rw [hall j hj]; simp
        rw [this] at hm
        cases hm
      have hup : ∀ e, l0.getD e false = true → l.getD e false = true := fun e he => by
        by_cases her : e ∈ rs
        · have := (hin e her).1
          rw [listed_getD he] at this
          cases this
        · have h1 := hl2 e her
          have hes : e < l0.size := by
            rcases Nat.lt_or_ge e l0.size with h | h
            · exact h
            · simp [Array.getElem?_eq_none h] at he
          have h2 : l0.getD e true = true := listed_getD he
          rw [h2] at h1
          simpa [show e < l.size by omega] using h1
      have honly : ∀ i ∈ Region.ready md ops l, i ∈ rs := fun i hi => by
        by_cases hir : i ∈ rs
        · exact hir
        · exfalso
          obtain ⟨h0, o, ho, hdep⟩ := mem_ready.1 hi
          have hilt : i < ops.size := (Array.getElem?_eq_some_iff.1 ho).1
          rw [hl2 i hir] at h0
          rcases hp1 i hilt with (h1 | h1) | h1
          · rw [h0] at h1; cases h1
          · exact hir (by simpa using h1)
          · refine hnot fun j hj => listed_getD (anc_listed (l0 := l0) hcl j ops.size i (fun o' ho' e he hb => ?_) (h1 j hj))
            rw [ho] at ho'
            obtain rfl := Option.some.inj ho'
            exact hdep e he hb
      have hsome : Region.ready md ops l ≠ [] := fun hr => by
        -- the least of rs that has not come up is ready
        have key : ∀ n, ∀ j ∈ rs, j ≤ n → l.getD j true = true := by
          intro n
          induction n with
          | zero =>
            intro j hj hjn
            cases hq : l.getD j true
            · obtain ⟨_, o, ho, hde⟩ := hin j hj
              have : j ∈ Region.ready md ops l := mem_ready.2 ⟨hq, o, ho, fun e he hb => by have := (hde e he hb).1; omega⟩
              rw [hr] at this
              cases this
            · rfl
          | succ n ihn =>
            intro j hj hjn
            cases hq : l.getD j true
            · obtain ⟨_, o, ho, hde⟩ := hin j hj
              have : j ∈ Region.ready md ops l := mem_ready.2 ⟨hq, o, ho, fun e he hb => by
                obtain ⟨h1, h2⟩ := hde e he hb
                rcases h2 with h2 | h2
                · exact hup _ h2
                · have h3 := ihn e.on h2 (by omega)
                  have hes : e.on < l.size := by
                    obtain ⟨_, o', ho', _⟩ := hin e.on h2
                    have := (Array.getElem?_eq_some_iff.1 ho').1
                    omega
                  simpa [hes] using h3⟩
              rw [hr] at this
              cases this
            · rfl
        exact hnot fun j hj => key j j hj (Nat.le_refl _)
      refine ⟨fun h => absurd h hsome, fun i hi => ?_⟩
      have hir := honly i hi
      obtain ⟨h0, o, ho, hdep⟩ := mem_ready.1 hi
      have hil : i < l.size := by
        have := (Array.getElem?_eq_some_iff.1 ho).1
        omega
      have hF : Facts V v w (waits md l0 o) := Facts.of fun j hj => by
        obtain ⟨e, he, rfl⟩ := List.mem_map.1 hj
        obtain ⟨he1, he2⟩ := List.mem_filter.1 he
        simp only [Bool.and_eq_true] at he2
        have h1 := hdep e (Array.mem_toList_iff.1 he1) he2.1
        have h3 : e.on ∈ rs := by
          obtain ⟨_, o', ho', hde⟩ := hin i hir
          rw [ho] at ho'
          obtain rfl := Option.some.inj ho'
          rcases (hde e (Array.mem_toList_iff.1 he1) he2.1).2 with h | h
          · have := listed_getD h
            rw [this] at he2
            simp at he2
          · exact h
        exact hv e.on h3 (listed_getD h1)
      have hnext : ∀ u w', V i u w' → R w w' → S w' ∧ wpAnyH P md ops Q S (k + m) (l.setIfInBounds i true) ((putAll ds a v).put o.dst u) w' := by
        intro u w' hu hr
        have hB' := hBR w w' hB hr
        refine ⟨hBS w' hB', ?_⟩
        rw [putAll_upd ds a v i o.dst u hd (by rw [← hds]; exact List.mem_map.2 ⟨i, hir, by rw [ho]; rfl⟩)]
        refine ih _ _ _ _ ?_ rfl (by rw [Array.size_setIfInBounds]; exact hl1) (fun j hj => ?_) (fun j hj hlj => ?_) (fun j hj hlj o' ho' e he hb => ?_) hB'
        · have hsub : (rs.filter fun k => !(l.setIfInBounds i true).getD k true) = (rs.filter fun k => !l.getD k true).erase i := by
            rw [List.Nodup.erase_eq_filter (hnr.sublist List.filter_sublist)]
            rw [List.filter_filter]
            refine List.filter_congr fun k _ => ?_
            by_cases hki : i = k
            · subst hki
              simp [hil]
            · rw [getD_set_ne true hki]
              simp [Ne.symm hki]
          rw [hsub, List.length_erase_of_mem (List.mem_filter.2 ⟨hir, by rw [h0]; rfl⟩), hm]
          rfl
        · rw [getD_set_ne true (fun e : i = j => hj (by rw [← e]; exact hir))]; exact hl2 j hj
        · by_cases hji : i = j
          · subst hji
            simpa [upd] using hu
          · rw [getD_set_ne true hji] at hlj
            simpa [upd, Ne.symm hji] using hVR j hj (v j) w w' hB (hv j hj hlj) hr
        · by_cases hji : i = j
          · subst hji
            rw [ho] at ho'
            obtain rfl := Option.some.inj ho'
            exact getD_set_true (hdep e he hb)
          · rw [getD_set_ne true hji] at hlj
            exact getD_set_true (hcl j hj hlj o' ho' e he hb)
      refine wpOp_step ho fun K' hK => ?_
      exact hst i hir o ho v w hB hF Q K' (fun u w' hu hr => hK _ _ (hnext u w' hu hr))
  obtain ⟨v, hv⟩ := putAll_start ds a hd
  have ha := putAll_self ds a v hv
  have h0 : (rs.filter fun i => !l0.getD i true).length = rs.length := by
    rw [List.filter_eq_self.2 fun i hi => by rw [(hin i hi).1]; rfl]
  have := main rs.length fuel l0 v w h0 hf rfl (fun _ _ => rfl) (fun j hj hl => by rw [(hin j hj).1] at hl; cases hl) (fun j hj hl => by rw [(hin j hj).1] at hl; cases hl) hB
  rw [ha] at this
  exact this
end

end Go.Proofs.YtchlnkdlnfjijaaGreat

