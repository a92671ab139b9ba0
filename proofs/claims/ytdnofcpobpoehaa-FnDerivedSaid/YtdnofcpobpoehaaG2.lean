/- Contracts of layer 2 over lists: elements, exponents, products. -/
import Derived.Test.YtdnofcpobpoehaaG1
import Derived.Test.YtdnofcpobpoehaaInvAll
import Derived.Test.YtdnofcpobpoehaaSum
namespace Go.Proofs.Ytdnofcpobpoehaa
open Go.RowKit

def allEl (P Q : Int) (zs : List Int) : Bool := zs.all fun z => elB P Q z

set_option maxHeartbeats 800000 in
theorem gIs_any (P Q G : Int) (hm : Mo P Q) (ad : Option Addr) (n cap : Nat) (zs : List Int) (hn : zs.length = n) (hl : n ≤ 1152921504606846976) (w : World) (hz : IsInts w ad zs) :
    Calls Try.prog 73 #[gv P Q G, .slice ad n cap] w fun e w' => e = .returned (.bool (allEl P Q zs)) ∧ Below w.heap.size w w' := by
  unfold allEl
  obtain ⟨⟨hp0, hp1⟩, hq0, hq1⟩ := hm
  go_enter Try.func73, Try.ntmps73
  go_wp2
  go_loopw [6, 9] (fun _ K wr => ∃ k : Nat, k ≤ n ∧ K = .int .i64 k ∧ (zs.all fun z => elB P Q z) = ((zs.drop k).all fun z => elB P Q z) ∧ Below w.heap.size w wr ∧ GR wr w.heap.size P Q G) (fun _ K _ => n - (intOf K).toNat)
  case atStart => exact ⟨0, Nat.zero_le _, rfl, rfl, ba _ _, gr_new _ _ _ _ _⟩
  case round =>
    obtain ⟨k, hk, rfl, he, hbel, hgr⟩ := hrel
    by_cases hkn : k < n
    · obtain ⟨b, off, z, rfl, hb, hc, hd⟩ := (hz.below hbel (Nat.le_refl _)).at (k := k) (by omega)
      have HS := Lib.hid (all_step hd he)
      have HB := Lib.hid hbel
      obtain ⟨c0, c1, c2⟩ := hgr
      have HG := Lib.hid (show GR wr w.heap.size P Q G from ⟨c0, c1, c2⟩)
      clear he hd hbel
      cases hi : inB z 1 (P - 1)
      · have HI := Lib.hid hi
        have HF := Lib.hid (show elB P Q z = false from elB_out (by have := inB_false.1 hi; omega))
        clear hi
        go_wp2_with fail
        refine (l1In_any _ _ _ _).mono ?_; rintro e w' ⟨rfl, rfl⟩; rw [HI.out]
        go_wp2
        go_ret
        exact ⟨by rw [HS.out.2 HF.out]; rfl, HB.out⟩
      · obtain ⟨z0, z1⟩ := inB_true.1 hi
        have HI := Lib.hid hi
        clear hi
        by_cases hp : Num.pow z Q P = 1
        · have HF := Lib.hid (show elB P Q z = true from elB_true.2 ⟨⟨z0, by omega⟩, hp⟩)
          have hpi : (Num.pow z Q P != 1) = false := by simp [hp]
          clear hp
          go_wp2_with fail
          refine (l1In_any _ _ _ _).mono ?_; rintro e w' ⟨rfl, rfl⟩; rw [HI.out]
          go_wp2_with fail
          refine (nPower_any _ _ _ (by omega) (by omega) (by omega) (by omega) (by omega) (by omega) _).mono ?_; rintro e w' ⟨rfl, rfl⟩
          go_wp2
          go_roundw
          case rel => exact ⟨k + 1, by omega, by go_num, HS.out.1 HF.out, HB.out, HG.out⟩
          case measure => simp only [intOf]; omega
        · have HF := Lib.hid (show elB P Q z = false by rw [← Bool.not_eq_true, elB_true]; exact fun h => hp h.2)
          have hpi : (Num.pow z Q P != 1) = true := by simp [hp]
          clear hp
          go_wp2_with fail
          refine (l1In_any _ _ _ _).mono ?_; rintro e w' ⟨rfl, rfl⟩; rw [HI.out]
          go_wp2_with fail
          refine (nPower_any _ _ _ (by omega) (by omega) (by omega) (by omega) (by omega) (by omega) _).mono ?_; rintro e w' ⟨rfl, rfl⟩
          go_wp2
          go_ret
          exact ⟨by rw [HS.out.2 HF.out]; rfl, HB.out⟩
    · have HE := Lib.hid he
      have HB := Lib.hid hbel
      clear he hbel
      go_wp2
      go_ret
      refine ⟨?_, HB.out⟩
      rw [HE.out, List.drop_of_length_le (by omega)]; rfl

/-- A list of elements that is not too long. -/
def elsB (P Q : Int) (zs : List Int) : Bool := decide (zs.length ≤ 24) && allEl P Q zs

set_option maxHeartbeats 1600000 in
theorem allEls_any (P Q G : Int) (hm : Mo P Q) (ad : Option Addr) (n cap : Nat) (zs : List Int) (hn : zs.length = n) (hl : n ≤ 1152921504606846976) (w : World) (hz : IsInts w ad zs) :
    Calls Try.prog 116 #[.slice ad n cap, .func (.func 90) #[gv P Q G] #[]] w fun e w' => e = .returned (.bool (zs.all fun z => elB P Q z)) ∧ Below w.heap.size w w' := by
  go_enter Try.func116, Try.ntmps116
  go_wp2
  go_loopw [6, 9] (fun _ K wr => ∃ k : Nat, k ≤ n ∧ K = .int .i64 k ∧ (zs.all fun z => elB P Q z) = ((zs.drop k).all fun z => elB P Q z) ∧ Below w.heap.size w wr) (fun _ K _ => n - (intOf K).toNat)
  case atStart => exact ⟨0, Nat.zero_le _, rfl, rfl, Below.refl _ _⟩
  case round =>
    obtain ⟨k, hk, rfl, he, hbel⟩ := hrel
    by_cases hkn : k < n
    · obtain ⟨b, off, z, rfl, hb, hc, hd⟩ := (hz.below hbel (Nat.le_refl _)).at (k := k) (by omega)
      have HS := Lib.hid (all_step hd he)
      have HB := Lib.hid hbel
      clear he hd hbel
      cases hi' : elB P Q z
      · have HI := Lib.hid hi'
        clear hi'
        go_wp2_with fail
        refine (hasElement_any P Q G z hm _).mono ?_
        rintro e w1 ⟨rfl, hb1⟩
        rw [HI.out]
        have HB1 := Lib.hid (bt HB.out hb1)
        clear hb1
        go_wp2
        go_ret
        exact ⟨by rw [HS.out.2 HI.out]; rfl, HB1.out⟩
      · have HI := Lib.hid hi'
        clear hi'
        go_wp2_with fail
        refine (hasElement_any P Q G z hm _).mono ?_
        rintro e w1 ⟨rfl, hb1⟩
        rw [HI.out]
        have HB1 := Lib.hid (bt HB.out hb1)
        clear hb1
        go_wp2
        go_roundw
        case rel => exact ⟨k + 1, by omega, by go_num, HS.out.1 HI.out, HB1.out⟩
        case measure => simp only [intOf]; omega
    · have HE := Lib.hid he
      have HB := Lib.hid hbel
      clear he hbel
      go_wp2
      go_ret
      refine ⟨?_, HB.out⟩
      rw [HE.out, List.drop_of_length_le (by omega)]; rfl

set_option maxHeartbeats 1600000 in
theorem listOfEls_any (P Q G : Int) (hm : Mo P Q) (ad : Option Addr) (n cap : Nat) (zs : List Int) (hn : zs.length = n) (hl : n ≤ 1152921504606846976) (w : World) (hz : IsInts w ad zs) :
    Calls Try.prog 69 #[.slice ad n cap, .func (.func 90) #[gv P Q G] #[]] w fun e w' => e = .returned (.bool (elsB P Q zs)) ∧ Below w.heap.size w w' := by
  by_cases h24 : n ≤ 24
  · have h2i : (n : Int) ≤ 24 := by omega
    have hr : elsB P Q zs = zs.all fun z => elB P Q z := by simp [elsB, allEl, hn, h24]
    rw [hr]
    have HN := Lib.hid hn
    clear hr hn
    go_enter Try.func69, Try.ntmps69
    go_wp2_with fail
    refine (allEls_any P Q G hm ad n cap zs HN.out hl _ hz).mono ?_
    rintro e w1 ⟨rfl, hb1⟩
    have HB1 := Lib.hid hb1
    clear hb1
    go_wp2
    go_ret
    exact ⟨rfl, HB1.out⟩
  · have h2i : (24 : Int) < (n : Int) := by omega
    have hr : elsB P Q zs = false := by simp [elsB, allEl, hn]; omega
    rw [hr]
    clear hr
    go_enter Try.func69, Try.ntmps69
    go_wp2
    go_ret
    exact ⟨rfl, Below.refl _ _⟩

theorem areElements_any (P Q G : Int) (hm : Mo P Q) (ad : Option Addr) (n cap : Nat) (zs : List Int) (hn : zs.length = n) (hl : n ≤ 1152921504606846976) (w : World) (hz : IsInts w ad zs) :
    Calls Try.prog 152 #[gv P Q G, .slice ad n cap] w fun e w' => e = .returned (.bool (elsB P Q zs)) ∧ Below w.heap.size w w' := by
  go_enter Try.func152, Try.ntmps152
  go_wp2_with fail
  refine (listOfEls_any P Q G hm ad n cap zs hn hl _ (hz.below (ba _ _) (Nat.le_refl _))).mono ?_
  rintro e v1 ⟨rfl, hb⟩
  have HB_1 := Lib.hid (bt (ba _ _) hb)
  clear hb
  go_wp2
  go_ret
  exact ⟨rfl, HB_1.out⟩

/-- An exponent. -/
def exB (Q e : Int) : Bool := inB e 0 (Q - 1)
theorem exB_true {Q e : Int} : exB Q e = true ↔ 0 ≤ e ∧ e < Q := by unfold exB; rw [inB_true]; omega
theorem hasExponent_any (P Q G e : Int) (w : World) :
    Calls Try.prog 125 #[gv P Q G, .int .i64 e] w fun e' w' => e' = .returned (.bool (exB Q e)) ∧ Below w.heap.size w w' := by
  by_cases h1 : 0 ≤ e
  · by_cases h2 : e < Q
    · rw [exB_true.2 ⟨h1, h2⟩]
      go_enter Try.func125, Try.ntmps125
      go_wp2
      go_ret
      exact ⟨rfl, ba _ _⟩
    · rw [show exB Q e = false by rw [← Bool.not_eq_true, exB_true]; omega]
      go_enter Try.func125, Try.ntmps125
      go_wp2
      go_ret
      exact ⟨rfl, ba _ _⟩
  · rw [show exB Q e = false by rw [← Bool.not_eq_true, exB_true]; omega]
    go_enter Try.func125, Try.ntmps125
    go_wp2
    go_ret
    exact ⟨rfl, ba _ _⟩

theorem gExps_any (P Q G : Int) (hq : 0 ≤ Q ∧ Q ≤ 2000000000) (ad : Option Addr) (n cap : Nat) (zs : List Int) (hn : zs.length = n) (hl : n ≤ 1152921504606846976) (w : World) (hz : IsInts w ad zs) :
    Calls Try.prog 70 #[gv P Q G, .slice ad n cap] w fun e w' => e = .returned (.bool (allIn zs 0 (Q - 1))) ∧ Below w.heap.size w w' := by
  have hz1 : ∀ o, IsInts (w.alloc o) ad zs := fun o => hz.below (ba _ _) (Nat.le_refl _)
  obtain ⟨q0, q1⟩ := hq
  go_enter Try.func70, Try.ntmps70
  go_wp2_with fail
  refine (l1All_any _ _ _ _ _ _ hn hl _ (hz1 _)).mono ?_; rintro e w' ⟨rfl, rfl⟩
  go_wp2
  go_ret
  exact ⟨rfl, ba _ _⟩

/-- A callee that leaves the world as it was, met in a region whose order is open. -/
theorem quietly {P : Program} {f : FuncId} {args : Array Value} {w : World} {n : Nat} {v : Value}
    (h : Calls P f args (w.drewN n) fun e w' => e = .returned v ∧ w.drewN n = w') : Calls P f args (w.drewN n) fun e w'' => e = .returned v ∧ ∃ m, w'' = w.drewN m :=
  h.mono fun _ _ ⟨he, hm⟩ => ⟨he, n, hm.symm⟩

theorem gExp_any (P Q G x e : Int) (h1 : 0 ≤ x) (h2 : x ≤ 2000000000) (h3 : 0 ≤ e) (h4 : e < Q) (h5 : 2 ≤ P) (h6 : P ≤ 2000000000) (h7 : 2 ≤ Q) (h8 : Q ≤ 2000000000) (w : World) :
    Calls Try.prog 119 #[gv P Q G, .int .i64 x, .int .i64 e] w fun e' w' => e' = .returned (.int .i64 (Num.pow x e P)) ∧ Below w.heap.size w w' := by
  go_enter Try.func119, Try.ntmps119
  go_wp2_with fail
  go_quiet (first | (go_at_call 80; refine quietly (nMod_nn _ _ h3 h4 h7 h8 _)) | (go_at_call 121; refine quietly (nPower_any _ _ _ h1 h2 h3 (by omega) h5 h6 _)))
  go_wp2
  go_ret
  exact ⟨rfl, below_drewN (ba _ _) _⟩

/-! ### Products -/
def mulFrom (m acc : Int) (zs : List Int) : Int := zs.foldl (fun s x => s * x % m) acc
theorem mulFrom_step {m acc t : Int} {zs rest : List Int} {z : Int} {k : Nat} (h : zs.drop k = z :: rest) (hb : t = mulFrom m acc (zs.drop k)) : t = mulFrom m (acc * z % m) rest := by
  rw [hb, h]; rfl
theorem els_range {P Q : Int} {zs : List Int} (h : allEl P Q zs = true) : ∀ z ∈ zs, (1 ≤ z ∧ z < P) ∧ Num.pow z Q P = 1 := by
  unfold allEl at h
  rw [List.all_eq_true] at h
  exact fun z hz => elB_true.1 (h z hz)
theorem prod_bd {a z : Int} (h0 : 0 ≤ a) (h1 : a ≤ 2000000000) (h2 : 0 ≤ z) (h3 : z ≤ 2000000000) : 0 ≤ a * z ∧ a * z ≤ 4000000000000000000 := by
  obtain ⟨a, rfl⟩ := Int.eq_ofNat_of_zero_le h0
  obtain ⟨z, rfl⟩ := Int.eq_ofNat_of_zero_le h2
  have := Num.mul_bound (a := a) (b := z) (by omega) (by omega)
  rw [← Int.natCast_mul]; omega

set_option maxHeartbeats 800000 in
theorem gMul_any (P Q G : Int) (ad : Option Addr) (n cap : Nat) (zs : List Int) (hn : zs.length = n) (hl : n ≤ 1152921504606846976) (h2 : 2 ≤ P) (h3 : P ≤ 2000000000) (hr : ∀ z ∈ zs, 0 ≤ z ∧ z < P) (w : World) (hz : IsInts w ad zs) :
    Calls Try.prog 118 #[gv P Q G, .slice ad n cap] w fun e w' => e = .returned (.int .i64 (mulFrom P 1 zs)) ∧ Below w.heap.size w w' := by
  have HR := Lib.hid hr
  have hz1 : ∀ o, IsInts (w.alloc o) ad zs := fun o => hz.below (ba _ _) (Nat.le_refl _)
  have HZ := Lib.hid hz1
  clear hr hz1
  go_enter Try.func118, Try.ntmps118
  go_wp2
  go_loop [5, 7, 10] (fun A _ K => ∃ (k : Nat) (a : Int), k ≤ n ∧ (0 ≤ a ∧ a < P) ∧ A = .int .i64 a ∧ K = .int .i64 k ∧ mulFrom P 1 zs = mulFrom P a (zs.drop k)) (fun _ _ K => n - (intOf K).toNat)
  case atStart => exact ⟨0, 1, Nat.zero_le _, ⟨by decide, by omega⟩, rfl, rfl, rfl⟩
  case round =>
    obtain ⟨k, a, hk, ⟨ha0, ha1⟩, rfl, rfl, he⟩ := hrel
    by_cases hkn : k < n
    · obtain ⟨b, off, z, rfl, hb, hc, hd⟩ := (HZ.out (.cells #[.int .i64 P, .int .i64 Q, .int .i64 G] 29)).at (k := k) (by omega)
      have HS := Lib.hid (mulFrom_step hd he)
      obtain ⟨hz0, hz1⟩ := HR.out z (mem_drop hd)
      clear he hd
      obtain ⟨pb0, pb1⟩ := prod_bd (a := a) (z := z) (by omega) (by omega) (by omega) (by omega)
      have hp1 : 0 ≤ a * z % P := Int.emod_nonneg _ (by omega)
      have hp2 : a * z % P < P := Int.emod_lt_of_pos _ (by omega)
      go_wp2
      go_round
      case rel => exact ⟨k + 1, _, by omega, ⟨hp1, hp2⟩, rfl, by go_num, HS.out⟩
      case measure => simp only [intOf]; omega
    · have HE := Lib.hid he
      clear he
      go_wp2
      go_ret
      refine ⟨?_, ba _ _⟩
      rw [HE.out, List.drop_of_length_le (by omega)]; rfl

/-- MulOf's condition and what it answers. -/
def mulB (P Q G : Int) (zs : List Int) : Bool := goodB P Q G && elsB P Q zs
def mulV (P Q G : Int) (zs : List Int) : Int := if mulB P Q G zs then mulFrom P 1 zs else 0

end Go.Proofs.Ytdnofcpobpoehaa

